import PyProof.Rows.All
import Wide.All
import OpenK.AllK
import Wide.FinOn
import HandS.Head0
import HandS.Head1
import HandS.Head2
import HandS.HeadEnd
import HandS.HeadHook1
import HandS.HeadHook2
import HandS.HeadHook3
import HandS.HeadHook4
import HandS.ExcField
import HandS.Words
import HandS.Nested
import HandS.HeadWalk
import HandS.Evl
import HandS.ForMost
import KE.GoesMore
import KE.GoesEnum
import PyProof.Draws
import HandS.DictComp
import HandS.ForExc
import HandS.IsInst
import HandS.Conv
import HandS.MakeKwOnly
import HandS.TupAny
import HandS.Flow
import HandS.Steps
import HandS.Defaults
import HandS.Walk
import HandS.Zip
import HandS.Style
import HandS.ExcInit
import HandS.Base
import HandS.Call
import HandS.List
import HandS.OwnEq
import HandS.WordsExc
import PyProof.EqKinds
import PyProof.SeqRoads2
import PyProof.InstNe
import PyProof.FactsAll.dict
import KE.KDictPairs
import KE.KDictZip
import KE.KEqDict
import HandS.Dict
import HandS.More
import HandS.ExcIs
import HandS.ExcValue
import HandS.MakeKw
import HandS.Lambda
import HandS.Iter
import HandS.DictTup
import HandS.Comp
import HandS.Hot
import HandS.HotCalls
import HandS.ExcInitHot
import KE.KOpsOwn
import PyProof.SeqRoads
import PyProof.FactsAll.int
import KE.KDictDisplayH
import HandS.ListEq
import HandS.IterVal
import KE.KOwnIter
import PyProof.FactsSeq
import HandS.Wide
import HandS.TryOnly
import KE.KDictWalk
import PyProof.P3Eq
import HandS.ExcCtx
import HandS.Star
import PyProof.NeData
import PySem.Challenge.RW_blockshares_k10_books_told
set_option Elab.async false
set_option linter.all false
set_option maxRecDepth 100000
set_option maxHeartbeats 4000000
namespace Bk
open PySem PySem.Spec PyProof.Rows
def topS (i : Nat) : Stmt := PySem.Challenge.pw_blockshares_k10_books_told.main.body.getD i (.Pass ⟨0, 0, 0, 0⟩)
end Bk

/-! what a law's top is asked, as truth values -/
namespace Bk
open PySem PySem.Spec PyProof.Rows L2
def mroE (C : Addr) : List Value → Bool
  | .ref C' :: bm => decide (C' = C) && PySem.HandSPX.refsVE bm
  | _ => false
def sixE : List (Option Value) → Bool
  | [_, _, _, _, some (.builtin n), _] => decide (n = "ValueError.__new__")
  | _ => false
/-- the class at C is an own error class whose maker is ValueError's -/
def ownErr (K : PySem.W.Frag) (C : Addr) : Bool := match K.lookup C with
  | some ⟨.type t, _, .cls cd, sl⟩ => decide (t = "type") && (cd.hasDict && (!cd.hasDel && (mroE C cd.mro && sixE sl.toList)))
  | _ => false
/-- what the law asks of an own error class beyond its facts by name -/
def errB (K : PySem.W.Frag) (C f : Addr) : Bool := ownErr K C && (xfB K C && (decide (PySem.W.subIn K (.ref C) (.type "BaseException") = some true) && (decide (PySem.W.typeIn K (.ref C) = some (.type "type")) && (PySem.W.keepIn K (.ref C) && (decide (PySem.W.typeIn K (.ref f) = some (.type "function")) &&
  decide (PySem.W.findIn K (.ref C) "__setattr__" = some (some (.builtin "object.__setattr__"))))))))
/-- isinstance of the instances of the class at C -/
def insB (K : PySem.W.Frag) (C : Addr) : Bool := decide (PySem.W.findIn K (.ref C) "__class__" = some (some (.builtin "object.__class__"))) && (decide (PySem.W.specialIn K (.builtin "object.__class__") "__get__" = some (some (.builtin "getset_descriptor.__get__"))) &&
  (decide (PySem.W.takesIn K (.builtin "object.__class__") = some true) && decide (PySem.W.mroIn K C (.type "object") = some true)))
def sixB : List (Option Value) → Bool
  | [_, _, _, _, some (.builtin _), _] => true
  | _ => false
def eqCls (K : PySem.W.Frag) (C f : Addr) : Bool := match K.lookup C with
  | some ⟨.type t, _, .cls cd, sl⟩ => decide (t = "type") && (decide (cd.mro = [.ref C, .type "object"]) && (!cd.hasDel && (sixB sl.toList && (PySem.W.nsOkIn K cd.ns && (decide (PySem.W.nsIn K cd.ns "__eq__" = some (some (.ref f))) && decide (PySem.W.nsIn K cd.ns "__ne__" = some none))))))
  | _ => false
/-- the pair (0, 1), kept by the module -/
def pairB (K : PySem.W.Frag) (a : Addr) : Bool := match K.lookup a with
  | some ⟨.type c, _, .seq its _, _⟩ => decide (c = "tuple") && (match its.toList with
    | [.int i _, .int j _] => decide (i = 0) && decide (j = 1)
    | _ => false)
  | _ => false
/-- no error of a later class is one of an earlier class -/
def exAll (K : PySem.W.Frag) (cs : List Addr) : Bool := (List.range cs.length).all fun j => (List.range j).all fun i => decide (PySem.W.exmOne K (.ref (cs.getD j 0)) (.ref (cs.getD i 0)) = some false)
end Bk

/-! a law's head in parts: what is looked at is told by its addresses; each part runs the top anew -/
namespace Bk
open PySem PySem.Spec PyProof.Rows L2
def obsA (as : List Addr) (fa : List He.Fa) (fn : List He.DefD) (tf : List He.Defn) (ex : PySem.W.Frag → Bool) (g : Addr → Option Obj) : He.AlX := (He.obsT fa fn [] (He.frT g as), ex (He.frT g as) && He.tabsB g tf (He.frT g as))
theorem saysA {as : List Addr} {fa : List He.Fa} {fn : List He.DefD} {tf : List He.Defn} {ex : PySem.W.Frag → Bool} {w : World} {h : Heap} (e : obsA as fa fn tf ex h.get? = He.valX fn [] w) : He.SaysX fa fn [] tf ex w h (He.frT h.get? as) := by
  have e2 : (ex (He.frT h.get? as) && He.tabsB h.get? tf (He.frT h.get? as)) = true := congrArg (fun z : He.AlX => z.2) e
  obtain ⟨m1, m2⟩ := Bool.and_eq_true_iff.mp e2
  have one : ∀ p ∈ tf, PySem.W.codeHdIn (He.frT h.get? as) (He.cT (He.frT h.get? as) p).1 (He.cT (He.frT h.get? as) p).2 = true ∧ ∃ o, h.get? (He.cT (He.frT h.get? as) p).2 = some o ∧ He.emptyTab o = true := fun p hp => by
    obtain ⟨a, b⟩ := Bool.and_eq_true_iff.mp (List.all_eq_true.mp m2 p hp)
    refine ⟨a, ?_⟩
    cases q : h.get? (He.cT (He.frT h.get? as) p).2 with
    | none => rw [q] at b; cases b
    | some o => rw [q] at b; exact ⟨o, rfl, b⟩
  refine ⟨congrArg (fun z : He.AlX => z.1) e, m1, fun p m => (one p m).1, fun p m => ?_, fun p m => ?_⟩
  · obtain ⟨_, o, a, b⟩ := one p m
    exact He.frT_none a b
  · obtain ⟨_, o, a, b⟩ := one p m
    rw [a, He.emptyTab_eq b]
def hookA (as : List Addr) (fa : List He.Fa) (fn : List He.DefD) (tf : List He.Defn) (ex : PySem.W.Frag → Bool) : PySem.W.Hook where
  α := He.AlX
  obs := fun s => obsA as fa fn tf ex s.heap.get?
  val := fun w => He.valX fn [] w
  says := fun w h => ∃ K : PySem.W.Frag, K.In h ∧ He.SaysX fa fn [] tf ex w h K
  of := fun _ _ e => ⟨_, He.frT_in, saysA e⟩
  keeps := fun _ _ _ ⟨K, hK, c⟩ k => ⟨K, PySem.W.Frag.In.keeps hK k, c.t, c.more, c.hd, c.out, fun p m => k _ _ (c.empty p m)⟩
theorem obsA_eq {as : List Addr} {fa : List He.Fa} {fn : List He.DefD} {tf : List He.Defn} {ex : PySem.W.Frag → Bool} {g : Addr → Option Obj} {s : Shared} (h : ∀ a, g a = s.heap.get? a) : obsA as fa fn tf ex g = (hookA as fa fn tf ex).obs s := by
  rw [funext h]
  rfl
section
open HandSHeadRun PySem.W
theorem run_parts {r : OpenRow} {q : Program} {as : List Addr} {fa : List He.Fa} {fn : List He.DefD} {tf : List He.Defn} {ex : PySem.W.Frag → Bool} {M : Nat} {loose : List PySem.Str}
    (h1 : ∀ w os, ((endF (stepQ (denQ tabQ) r.prog w) M r.prog w os).map fun s => (looksF r.prog (boot_heap w.params) s.abs, seenQ q loose (importedModules r.prog.main.body) (fun s => xlAt q [] s && recOk r.toRowW.records s) s.abs)) = some (true, openGood q loose))
    (h2 : ∀ w os, ((endF (stepQ (denQ tabQ) r.prog w) M r.prog w os).map fun s => fa.all fun f => f.ok (He.frT (getT s) as)) = some true)
    (h3 : ∀ w os, ((endF (stepQ (denQ tabQ) r.prog w) M r.prog w os).map fun s => ((fn.all fun d => d.ok (He.frT (getT s) as)), (fn.map fun d => He.fnW (He.frT (getT s) as) d.at_), ex (He.frT (getT s) as) && He.tabsB (getT s) tf (He.frT (getT s) as))) = some (true, fn.map He.DefD.val, true))
    (w : World) : RunEq r q (hookA as fa fn tf ex) (fun s => obsA as fa fn tf ex (getT s)) M loose w := fun os => by
  have a1 := h1 w os
  have a2 := h2 w os
  have a3 := h3 w os
  cases e : endF (stepQ (denQ tabQ) r.prog w) M r.prog w os with
  | none => rw [e] at a1; cases a1
  | some s =>
    rw [e] at a1 a2 a3
    have b1 := Option.some.inj a1
    have b2 : (fa.all fun f => f.ok (He.frT (getT s) as)) = true := Option.some.inj a2
    have b3 := Option.some.inj a3
    rw [Prod.mk.injEq] at b1
    rw [Prod.mk.injEq, Prod.mk.injEq] at b3
    obtain ⟨c1, c2⟩ := b1
    obtain ⟨c3, c4, c5⟩ := b3
    refine congrArg some (Prod.ext c1 (Prod.ext c2 ?_))
    show obsA as fa fn tf ex (getT s) = He.valX fn [] w
    unfold obsA He.obsT He.obsD
    rw [b2, c3, c4, c5]
    rfl
end
end Bk

set_option maxHeartbeats 0
namespace Bk
open PySem PySem.Spec PyProof.Rows L2
def gd (x : Str) (st : Stmt) : He.DefD := ⟨(x, none), x, x, defArgs st, defBody st, defScope st, [], []⟩
def md (c m q : Str) (st : Stmt) (kws : List (Str × He.Dv)) : He.DefD := ⟨(c, some m), m, q, defArgs st, defBody st, defScope st, [], kws⟩
def mdd (c m q : Str) (st : Stmt) (dfl : List He.Dv) : He.DefD := ⟨(c, some m), m, q, defArgs st, defBody st, defScope st, dfl, []⟩
def fnL : List He.DefD := [gd "is_integer" (topS 18), gd "is_list" (topS 19), gd "is_name" (topS 20), gd "first_wrong" (topS 33), gd "choices" (topS 34), gd "choices_of" (topS 35), gd "rows_of_neighbours" (topS 36), gd "lot_of" (topS 37), gd "check_named" (topS 38), gd "numbers_by_lots" (topS 48), gd "added" (topS 50), gd "counting" (topS 52), gd "refers" (topS 53), gd "freed" (topS 54), gd "shared" (topS 55), gd "just" (topS 56), gd "sent" (topS 57), gd "whole" (topS 58), gd "place_in" (topS 69), gd "is_end" (topS 70), gd "ends_of" (topS 71), gd "_law_start" (topS 81), gd "_law_draw" (topS 82), gd "_law_pick" (topS 83), gd "_law_mixed" (topS 84), gd "_law_same" (topS 85), gd "_law_name" (topS 86), gd "_law_names" (topS 87), gd "_law_spare" (topS 88), gd "_law_b_rows" (topS 89), gd "_law_b_lots" (topS 90), gd "_law_b_house" (topS 91), gd "_law_q_counted" (topS 92), gd "_law_q_made" (topS 93), gd "_law_q_named" (topS 94), gd "_law_q_drawn" (topS 95), gd "_law_k_ends" (topS 96), gd "_law_shows" (topS 97), gd "_law_deed" (topS 98), gd "law" (topS 99), md "BadFolders" "__init__" "BadFolders.__init__" (inClass (topS 3) 0) [], md "NoFolder" "__init__" "NoFolder.__init__" (inClass (topS 8) 0) [], md "Folders" "__init__" "Folders.__init__" (inClass (topS 32) 0) [("chain", .bl false)], md "Folders" "__contains__" "Folders.__contains__" (inClass (topS 32) 2) [], md "Folders" "__eq__" "Folders.__eq__" (inClass (topS 32) 3) [], md "Folders" "lots" "Folders.lots" (inClass (topS 32) 4) [], mdd "Question" "__init__" "Question.__init__" (inClass (topS 47) 0) [.non], md "Question" "__eq__" "Question.__eq__" (inClass (topS 47) 1) [], md "Question" "__add__" "Question.__add__" (inClass (topS 47) 3) [], md "Question" "__sub__" "Question.__sub__" (inClass (topS 47) 4) [], md "Book" "__init__" "Book.__init__" (inClass (topS 68) 0) [], md "Book" "__getitem__" "Book.__getitem__" (inClass (topS 68) 1) [], md "Book" "__setitem__" "Book.__setitem__" (inClass (topS 68) 2) [], md "Book" "__iter__" "Book.__iter__" (inClass (topS 68) 3) [], md "Book" "__contains__" "Book.__contains__" (inClass (topS 68) 4) [], md "Book" "__len__" "Book.__len__" (inClass (topS 68) 5) [], md "Book" "told" "Book.told" (inClass (topS 68) 6) [], md "Book" "drop" "Book.drop" (inClass (topS 68) 7) [], md "Book" "copy" "Book.copy" (inClass (topS 68) 8) []]
def faL : List He.Fa := [.glo "is_integer", .glo "is_list", .glo "is_name", .glo "first_wrong", .glo "choices", .glo "choices_of", .glo "rows_of_neighbours", .glo "lot_of", .glo "check_named", .glo "numbers_by_lots", .glo "added", .glo "counting", .glo "refers", .glo "freed", .glo "shared", .glo "just", .glo "sent", .glo "whole", .glo "place_in", .glo "is_end", .glo "ends_of", .glo "_law_start", .glo "_law_draw", .glo "_law_pick", .glo "_law_mixed", .glo "_law_same", .glo "_law_name", .glo "_law_names", .glo "_law_spare", .glo "_law_b_rows", .glo "_law_b_lots", .glo "_law_b_house", .glo "_law_q_counted", .glo "_law_q_made", .glo "_law_q_named", .glo "_law_q_drawn", .glo "_law_k_ends", .glo "_law_shows", .glo "_law_deed", .glo "law", .glo "BadFolders", .glo "NoFolder", .glo "Folders", .glo "Question", .glo "Book", .str "LETTERS" "abcdefghijklmnopqrstuvwxyz", .int "LONGEST_NAME" 8, .int "MOST_FOLDERS" 5, .int "MOST_IN_CHAIN" 12, .meth "BadFolders" "__init__", .noat "BadFolders" "index", .exm "BadFolders" "BadFolders" true, .meth "NoFolder" "__init__", .noat "NoFolder" "name", .exm "NoFolder" "NoFolder" true, .cls "Folders", .noat "Folders" "names", .noat "Folders" "chain", .noat "Folders" "places", .mkr "Folders", .meth "Folders" "__contains__", .meth "Folders" "__eq__", .meth "Folders" "lots", .cls "Question", .noat "Question" "folders", .noat "Question" "table", .mkr "Question", .meth "Question" "__eq__", .meth "Question" "__add__", .meth "Question" "__sub__", .cls "Book", .noat "Book" "folders", .noat "Book" "questions", .noat "Book" "ends", .mkr "Book", .meth "Book" "__getitem__", .meth "Book" "__setitem__", .meth "Book" "__iter__", .meth "Book" "__contains__", .meth "Book" "__len__", .meth "Book" "told", .meth "Book" "drop", .meth "Book" "copy", .free "len", .free "list", .free "tuple", .free "isinstance", .free "all", .free "any", .free "zip", .free "enumerate", .free "range", .free "int", .free "str", .free "bool", .free "dict", .free "abs", .free "iter"]

def exL (K : PySem.W.Frag) : Bool := errB K (He.ga K "BadFolders") (He.ma K (He.ga K "BadFolders") "__init__") && (errB K (He.ga K "NoFolder") (He.ma K (He.ga K "NoFolder") "__init__") && (insB K (He.ga K "Folders") && (insB K (He.ga K "Question") && (insB K (He.ga K "Book") && (eqCls K (He.ga K "Folders") (He.ma K (He.ga K "Folders") "__eq__") && (decide (PySem.W.kitOne K (.ref (He.ga K "Folders")) (.ref (He.ga K "Folders")) = some true) && (decide (PySem.W.kitOne K (.type "str") (.ref (He.ga K "Folders")) = some false) && (decide (PySem.W.subIn K (.ref (He.ga K "Folders")) (.type "str") = some false) && (PySem.W.notFirst K (He.ga K "Folders") (.ref (He.ga K "Folders")) && (eqCls K (He.ga K "Question") (He.ma K (He.ga K "Question") "__eq__") && (decide (PySem.W.kitOne K (.ref (He.ga K "Question")) (.ref (He.ga K "Question")) = some true) && (PySem.W.notFirst K (He.ga K "Question") (.ref (He.ga K "Question")) && (PySem.W.selfFirst K (He.ga K "Question") && (PySem.W.fnIn K (He.ma K (He.ga K "Book") "__getitem__") && (PySem.W.noSeq K (He.ga K "Book"))))))))))))))))
abbrev RowL : PySem.W.OpenRow := PySem.W.OpenLaw.row PySem.Challenge.rw_blockshares_k10_books_told
abbrev lsL : List Str := "_wall" :: "__name__" :: "ShareError" :: "BadFolders" :: "BadName" :: "BadLot" :: "BadSize" :: "BadNumber" :: "NoFolder" :: "Taken" :: "UnlikeFolders" :: "BadTelling" :: "NotTold" :: "Wrong" :: "LETTERS" :: "LONGEST_NAME" :: "NOTHING" :: "is_integer" :: "is_list" :: "is_name" :: "greatest_divisor" :: "fraction" :: "size_of" :: "plus" :: "times" :: "is_less" :: "sum_of" :: "shortened" :: "MOST_FOLDERS" :: "MOST_IN_CHAIN" :: "Folders" :: "first_wrong" :: "choices" :: "choices_of" :: "rows_of_neighbours" :: "lot_of" :: "check_named" :: "Store" :: "by_lots" :: "sizes_seen" :: "put_behind" :: "check_names" :: "check_new_name" :: "Question" :: "numbers_by_lots" :: "row_of" :: "added" :: "first_more" :: "counting" :: "refers" :: "freed" :: "shared" :: "just" :: "sent" :: "whole" :: "Step" :: "Tableau" :: "cleared" :: "greatest_in" :: "least_in" :: "is_settled_in" :: "Bound" :: "Book" :: "place_in" :: "is_end" :: "ends_of" :: "check_about" :: "places_of" :: "questions_at" :: "tableau_of" :: "settled_tableau" :: "aimed_at" :: "bound_of" :: "store_with" :: "_law_start" :: "_law_draw" :: "_law_pick" :: "_law_mixed" :: "_law_same" :: "_law_name" :: "_law_names" :: "_law_spare" :: "_law_b_rows" :: "_law_b_lots" :: "_law_b_house" :: "_law_q_counted" :: "_law_q_made" :: "_law_q_named" :: "_law_q_drawn" :: "_law_k_ends" :: "_law_shows" :: "_law_deed" :: []
def asL : List Addr := [3, 6, 4, 21, 31, 51, 146, 244, 251, 256, 354, 365, 370, 375, 380, 385, 392, 661, 672, 682, 694, 699, 704, 709, 714, 719, 726, 1072, 1083, 1090, 1097, 1152, 1159, 1166, 1171, 1176, 1181, 1186, 1191, 1196, 1201, 1208, 1213, 1220, 1225, 1230, 1237, 1242, 1247, 1254, 0, 20, 30, 50, 145, 243, 250, 255, 353, 364, 369, 374, 379, 384, 391, 660, 671, 681, 693, 698, 703, 708, 713, 718, 725, 1071, 1082, 1089, 1096, 1151, 1158, 1165, 1170, 1175, 1180, 1185, 1190, 1195, 1200, 1207, 1212, 1219, 1224, 1229, 1236, 1241, 1246, 1253, 15, 16, 17, 18, 19, 29, 32, 48, 49, 143, 144, 238, 239, 240, 241, 242, 245, 246, 247, 248, 249, 252, 253, 254, 323, 330, 337, 344, 351, 352, 355, 356, 359, 360, 361, 362, 363, 366, 367, 368, 371, 372, 373, 376, 377, 378, 381, 382, 383, 386, 387, 388, 389, 390, 592, 599, 606, 613, 620, 627, 632, 639, 646, 651, 658, 659, 662, 663, 666, 667, 668, 669, 670, 678, 679, 680, 690, 691, 692, 695, 696, 697, 700, 701, 702, 705, 706, 707, 710, 711, 712, 715, 716, 717, 720, 721, 722, 723, 724, 945, 952, 959, 966, 973, 980, 985, 992, 999, 1006, 1013, 1020, 1027, 1034, 1041, 1048, 1055, 1062, 1069, 1070, 1073, 1074, 1077, 1078, 1079, 1080, 1081, 1084, 1085, 1086, 1087, 1088, 1091, 1092, 1093, 1094, 1095, 1146, 1147, 1148, 1149, 1150, 1153, 1154, 1155, 1156, 1157, 1160, 1161, 1162, 1163, 1164, 1167, 1168, 1169, 1172, 1173, 1174, 1177, 1178, 1179, 1182, 1183, 1184, 1187, 1188, 1189, 1192, 1193, 1194, 1197, 1198, 1199, 1202, 1203, 1204, 1205, 1206, 1209, 1210, 1211, 1214, 1215, 1216, 1217, 1218, 1221, 1222, 1223, 1226, 1227, 1228, 1231, 1232, 1233, 1234, 1235, 1238, 1239, 1240, 1243, 1244, 1245, 1248, 1249, 1250, 1251, 1252, 47, 142, 322, 318, 329, 336, 343, 350, 591, 587, 598, 605, 612, 619, 626, 631, 638, 645, 650, 657, 944, 951, 958, 965, 972, 979, 984, 991, 998, 1005, 1012, 1019, 1026, 1033, 1040, 1047, 1054, 1061, 1068]
abbrev hkL : PySem.W.Hook := hookA asL faL fnL [] exL
def obL (s : PySem.W.SharedT) : He.AlX := obsA asL faL fnL [] exL (HandSHeadRun.getT s)
theorem obL_eq (s : PySem.W.SharedT) : obL s = hkL.obs s.abs := obsA_eq (HandSHeadRun.getT_eq s)
section
open HandSHeadRun PySem.W
theorem run1 (w : World) (os : OsState) : ((endF (stepQ (denQ tabQ) RowL.prog w) 13000 RowL.prog w os).map fun s => (looksF RowL.prog (boot_heap w.params) s.abs, seenQ (PySem.W.view RowL.prog [99]) lsL (importedModules RowL.prog.main.body) (fun s => xlAt (PySem.W.view RowL.prog [99]) [] s && recOk RowL.toRowW.records s) s.abs)) = some (true, openGood (PySem.W.view RowL.prog [99]) lsL) := by
  kernel_rfl
theorem run2 (w : World) (os : OsState) : ((endF (stepQ (denQ tabQ) RowL.prog w) 13000 RowL.prog w os).map fun s => faL.all fun f => f.ok (He.frT (getT s) asL)) = some true := by
  kernel_rfl
theorem run3 (w : World) (os : OsState) : ((endF (stepQ (denQ tabQ) RowL.prog w) 13000 RowL.prog w os).map fun s => ((fnL.all fun d => d.ok (He.frT (getT s) asL)), (fnL.map fun d => He.fnW (He.frT (getT s) asL) d.at_), exL (He.frT (getT s) asL) && He.tabsB (getT s) [] (He.frT (getT s) asL))) = some (true, fnL.map He.DefD.val, true) := by
  kernel_rfl
theorem runL (w : World) : RunEq RowL (PySem.W.view RowL.prog [99]) hkL obL 13000 lsL w := run_parts run1 run2 run3 w
end
end Bk

set_option maxHeartbeats 2000000
/-! enumerate over a tuple, in a for or a comprehension: my own rule beside the layer's for lists -/
namespace Bk
open PySem PySem.Spec PyProof.Rows L2
theorem two_le {b n : Nat} (hb : b ∈ [n + 1, n]) : n ≤ b := by
  simp at hb
  omega
/-- a new enumerate object over the iterator at p -/
abbrev enumO (p : Addr) : Obj := { cls := .type "enumerate", data := .fields #[.none, .bool false, .ref p, rawInt 0, .none, .none] }
theorem meets_enum1 {v : Value} {o : Obj} {G : Heap → Prop} (B : Begins v o G) :
    Meets (Builtin.«enumerate.__new__» ⟨[.type "enumerate", v], []⟩) (fun _ R s => G s.heap ∧ R (.ok (.ret (.ref (s.heap.push o).objs.size))) { s with heap := (s.heap.push o).push (enumO s.heap.objs.size) }) := by
  refine .of_wp fun prog w A R s hh => ?_
  obtain ⟨hp, gs, dr, tk, os⟩ := s
  obtain ⟨hG, hR⟩ := hh
  have sb := sub_enumerate
  have it1 : ∀ {A1 : Around} {E1 Q1 : Value → Shared → Prop}, Q1 (.ref hp.objs.size) ⟨hp.push o, gs, dr, tk, os⟩ → wpAny (model prog w) A1 (pyIter v) Q1 E1 ⟨hp, gs, dr, tk, os⟩ := fun z => B.iter prog w _ _ ⟨hp, gs, dr, tk, os⟩ _ hG z
  wp_walk using it1
  refine wpAny_stack_any fun st => wpAny_pure ?_
  split
  · rename_i c _ _ _ _ _
    cases (c == Value.type "enumerate") <;> (wp_walk using it1; exact ⟨_, rfl, hR⟩)
  · wp_walk using it1
    exact ⟨_, rfl, hR⟩
theorem call_enum1 {prog : Program} {w : World} {A : Around} {E : Value → Shared → Prop} {s : Shared} {v : Value} {o : Obj} {G : Heap → Prop} {Q : Value → Shared → Prop} (B : Begins v o G) (hG : G s.heap)
    (h : Q (.ref (s.heap.objs.size + 1)) { s with heap := (s.heap.push o).push (enumO s.heap.objs.size) }) : wpAny (model prog w) A (call (.type "enumerate") [v]) Q E s := by
  refine callType_new F.called_enumerate (by decide) (F.typeCall_enumerate_1 _) (F.newCall_enumerate_1 _) (fun obj => F.args_object_init_2 obj _) F.entry_enumerate_new (meets_enum1 B) ⟨hG, ?_⟩
  have hz : (s.heap.push o).objs.size = s.heap.objs.size + 1 := Heap.size_push ..
  show _ ∧ _
  rw [hz]
  exact ⟨⟨_, by rw [← hz]; exact Heap.get?_push_size _ rfl, rfl⟩, h⟩
/-- the tuple at a as it stands at each turn, each item in a new pair -/
def IteT (K : PySem.W.Frag) (a : Addr) : It :=
  ⟨fun i H => ∃ (xs : List V) (x : V), SqT K H a xs ∧ xs[i]? = some x,
    fun i H v H' => ∃ T x, v = .ref T ∧ H T = none ∧ H' = upd H T (.tup [.int (i : Nat), x]) ∧ ∀ xs, SqT K H a xs → xs[i]? = some x,
    fun i H => ∃ xs : List V, SqT K H a xs ∧ xs.length = i⟩
theorem tup_iter_ne {h : Heap} {a it : Addr} {its : Array Value} {i : Nat} (t : h.IsTuple a its) (u : h.IsTupleIter it a i) : a ≠ it := by
  rintro rfl
  obtain ⟨o, e, c, _⟩ := t
  obtain ⟨o', e', c', _⟩ := u
  rw [e] at e'
  cases e'
  rw [c] at c'
  exact absurd c' (by decide)
theorem turn_enumT {P : Program} {w : World} {K : PySem.W.Frag} {elts : List Expr} {kk : Nat} {tpos : Pos} (a e it : Addr) :
    Turn P w K (.Tuple elts kk tpos) (IteT K a) [e, it] e (fun i h => (∃ old, IsEnum h e it ((i : Nat) : Int) old) ∧ h.IsTupleIter it a i ∧ e ≠ it) where
  mem := List.mem_cons_self
  obj := fun i h st b hb => by
    obtain ⟨⟨old, he⟩, ⟨o, ho, hc, hd⟩, _⟩ := st
    rcases List.mem_cons.mp hb with rfl | hb
    · exact ⟨_, he, fun v q => nomatch q⟩
    · obtain rfl := List.mem_singleton.mp hb
      exact ⟨o, ho, fun v q => by rw [hd] at q; cases q⟩
  keep := fun i h h' st k => ⟨st.1.imp fun old he => k e List.mem_cons_self _ he, st.2.1.at fun o q => k it (List.mem_cons_of_mem _ List.mem_cons_self) o q, st.2.2⟩
  item := by
    rintro X rfl rfl rfl hc i pins s σ H E I hf ⟨⟨old, he⟩, hit, hne⟩ ⟨xs, x, hq, hx⟩
    obtain ⟨its, rv, p, hz⟩ := I.tuple hq
    have p' : s.heap.IsTuple a its.toArray := p
    have hai := tup_iter_ne p' hit
    have hl : i < its.toArray.size := by
      have l1 := rv.length
      have l2 := (List.getElem?_eq_some_iff.mp hx).1
      simp only [List.size_toArray]
      omega
    have hea : e ≠ a := by
      rintro rfl
      obtain ⟨o, e1, c, _⟩ := p'
      rw [show s.heap.get? e = _ from he] at e1
      obtain rfl := Option.some.inj e1
      exact absurd c (show ¬ Value.type "enumerate" = Value.type "tuple" by decide)
    have D := Draws.tuple (prog := X.prog) (w := X.w) (A := X.A.in1) (I.ok.hd hc) it a hai its.toArray
    refine wpAny_pyNext_enum_itemD D he ⟨hit, p'⟩ hl hne (by simp [hne, hea]) fun u h' tk hu ho st' hT hsz hk => ?_
    have ru : RelV x u := by
      obtain ⟨u', hu', ru⟩ := rv.get hx
      have : its[i]? = some u := by simpa using hu
      rw [hu'] at this
      cases this
      exact ru
    have hel : e < s.heap.objs.size := Heap.lt_size he
    have hil : it < s.heap.objs.size := by
      obtain ⟨_, q, _⟩ := hit
      exact Heap.lt_size q
    refine ⟨_, rfl, wpAny_letOwnedTupleGo_enum (s := { s with heap := h', toks := tk + 1 }) ho fun h2 he2 sb => ?_⟩
    have hT2 : h2.get? s.heap.objs.size = some { cls := .type "tuple", data := .seq #[.int i tk, u] } := (sb.2 _ (Nat.ne_of_gt hel)).trans hT
    have new : ObjOk X.prog X.w (upd H s.heap.objs.size (.tup [.int (i : Nat), x])) h2 s.heap.objs.size (.tup [.int (i : Nat), x]) :=
      ⟨by show 2 ≤ sizeLine; decide, [.int i tk, u], .cons ⟨_, rfl⟩ (.cons ru .nil), ⟨_, hT2, rfl, _, rfl⟩⟩
    have I1 := I.turnedNew (t' := tk + 1) (ch := [e, it]) (fun b ob hb q => (sb.2 b (fun z => hb (by simp [z]))).trans (hk b ob (fun z => hb (by simp [z])) (fun z => hb (by simp [z])) q)) hf (Nat.le_refl _) new
    refine ⟨.ref s.heap.objs.size, _, I1, rfl, ⟨_, x, rfl, I.hok.fresh (Nat.le_refl _), rfl, fun ys hy => by rw [I.tuple_inj hy hq]; exact hx⟩, ⟨⟨u, ?_⟩, st'.1.at fun o q => (sb.2 it (Ne.symm hne)).trans q, hne⟩, fun b hb => ?_⟩
    · rw [show ((i + 1 : Nat) : Int) = (i : Int) + 1 by omega]
      exact he2
    · have hlt : b < s.heap.objs.size := by
        rcases List.mem_cons.mp hb with rfl | hb
        · exact hel
        · rw [List.mem_singleton.mp hb]
          exact hil
      rw [upd_ne (Nat.ne_of_lt hlt)]
      exact (hf b hb).1
  done := by
    rintro X rfl rfl rfl hc i pins s σ H E I hf ⟨⟨old, he⟩, hit, hne⟩ ⟨xs, hq, hx⟩
    obtain ⟨its, rv, p, hz⟩ := I.tuple hq
    have p' : s.heap.IsTuple a its.toArray := p
    obtain ⟨f0, f1, f2, f3, f4, f5⟩ := hf it (List.mem_cons_of_mem _ List.mem_cons_self)
    have l1 := rv.length
    have en : i = its.toArray.size := by
      simp only [List.size_toArray]
      omega
    have hit' : s.heap.IsTupleIter it a its.toArray.size := en ▸ hit
    have D := Draws.tuple (prog := X.prog) (w := X.w) (A := X.A.in1) (I.ok.hd hc) it a (tup_iter_ne p' hit) its.toArray
    exact wpAny_pyNext_enum_endD D he ⟨hit', p'⟩ fun h' eb => ⟨rfl, I.turned (t' := s.toks) (fun b o hb q => eb b o hb q) f0 f1 f3 f4 f5⟩
  self := fun A i s Q E st h => wpAny_pyIter_enum st.1.choose_spec h
/-- enumerate(xs), xs a list or a tuple -/
def iEnS (K : PySem.W.Frag) (ta : TA) : TI := fun σ H R => ta σ H fun vs H1 => ∃ a, vs = [.ref a] ∧ ((∃ xs, SqL K H1 a xs ∧ R (Ite K a) H1) ∨ (∃ xs, SqT K H1 a xs ∧ R (IteT K a) H1))
theorem pi_enS {X : Cx} {e : Expr} {ta : TA} {p pos tpos : Pos} {elts : List Expr} {kk : Nat} (hg : Gl X "enumerate") (hm : X.mg "enumerate" = none) (ha : PA X [e] ta) (hs : starEach [e] X.env = [(false, eval e X.env)] := by rfl) :
    PI X (.Tuple elts kk tpos) (.Call (.Name "enumerate" p) [e] [] pos) (iEnS X.K ta) := by
  refine ⟨fun pins s σ H R I h => Call_ (ld_blt I hg hm boot_enumerate (PyProof.Rows.callWith_type1 (thn (ha.run pos pins s σ H _ I h) fun us s1 ⟨vs, H1, I1, r1, a, ev, q⟩ => ?_) hs rfl))⟩
  subst ev
  obtain ⟨u, rfl, r⟩ : ∃ u, us = [u] ∧ RelV (.ref a) u := by
    cases r1 with
    | cons r rr => cases rr; exact ⟨_, rfl, r⟩
  cases (show u = Value.ref a from r)
  rcases q with ⟨xs, hq, q⟩ | ⟨xs, hq, q⟩
  · obtain ⟨its, rv, p', hz⟩ := I1.list hq
    refine call_enumerate_list p'.isList fun h' he hit hsz hk => wpAny_pyIter_enum he ?_
    have I2 : Inv X pins σ H1 { s1 with heap := h' } := I1.kept (t' := s1.toks) hk
    refine ⟨s1.heap.objs.size + 1, [s1.heap.objs.size + 1, s1.heap.objs.size], _, _, H1, rfl, I2, turn_enum a _ s1.heap.objs.size, ⟨⟨.none, he⟩, hit, Nat.succ_ne_self _⟩, fun b hb => ?_, q⟩
    have hle : s1.heap.objs.size ≤ b := two_le hb
    exact I1.fpOk hle (I1.hok.fresh hle)
  · obtain ⟨its, rv, p', hz⟩ := I1.tuple hq
    have pt : s1.heap.IsTuple a its.toArray := p'
    generalize ho : ({ cls := .type "tuple_iterator", data := .fields #[.ref a, .int 0 0] } : Obj) = oi
    have hz1 : (s1.heap.push oi).objs.size = s1.heap.objs.size + 1 := Heap.size_push ..
    have kk1 : ∀ b o, s1.heap.get? b = some o → ((s1.heap.push oi).push (enumO s1.heap.objs.size)).get? b = some o := fun b o x => Heap.get?_push_of_some _ (Heap.get?_push_of_some _ x)
    have he : IsEnum ((s1.heap.push oi).push (enumO s1.heap.objs.size)) (s1.heap.objs.size + 1) s1.heap.objs.size ((0 : Nat) : Int) .none := by
      rw [← hz1]
      exact Heap.get?_push_size _ rfl
    have hit : ((s1.heap.push oi).push (enumO s1.heap.objs.size)).IsTupleIter s1.heap.objs.size a 0 := by
      refine ⟨oi, Heap.get?_push_of_some _ (Heap.get?_push_size _ (by rw [← ho]; rfl)), ?_, ?_⟩ <;> rw [← ho] <;> rfl
    have I2 : Inv X pins σ H1 { s1 with heap := (s1.heap.push oi).push (enumO s1.heap.objs.size) } := I1.kept (t' := s1.toks) kk1
    refine call_enum1 (o := oi) (ho ▸ begins_tuple a its.toArray) pt (wpAny_pyIter_enum he ?_)
    refine ⟨s1.heap.objs.size + 1, [s1.heap.objs.size + 1, s1.heap.objs.size], _, _, H1, rfl, I2, turn_enumT a _ s1.heap.objs.size, ⟨⟨.none, he⟩, hit, Nat.succ_ne_self _⟩, fun b hb => ?_, q⟩
    have hle : s1.heap.objs.size ≤ b := two_le hb
    exact I1.fpOk hle (I1.hok.fresh hle)
end Bk

/-! a dict comprehension whose keys are tuples (of ints and texts): beside the layer's, whose keys are ints and texts -/
namespace Bk
open PySem PySem.Spec PyProof.Rows L2
/-- a comprehension's store, by a key that is a tuple -/
theorem put_tup {X : Cx} {pins : List (Addr × Obj)} {σ : L2.St} {H : Hp} {s : Shared} {E : Value → Shared → Prop} {D b : Addr} {kvs : List (List Key × V)} {k : List Key} {v : V} {u r : Value} {Q : Unit → Shared → Prop} (hu : X.A.units < cLine) (I : Inv X pins σ H s)
    (hD : H D = some (.dT kvs)) (hz : kvs.length < sizeLine) (hb : H b = some (.tup (k.map kV))) (ry : RelV (.ref b) u) (rv : RelV v r) (h : ∀ s', Inv X pins σ (upd H D (.dT (putK kvs k v))) s' → Q () s') : wpAny (model X.prog X.w) X.A (dictSet D u r) Q E s := by
  cases (show u = Value.ref b from ry)
  obtain ⟨z, hd, xs, rel, dd⟩ := dt_of I.hok hD
  have len1 : xs.length ≤ sizeLine := (Paired.length rel) ▸ z
  have len2 := length_putK kvs k v
  refine wpAny_dictSet_heap (hsz := len1) (knd := tupleKind (mixKind X.prog X.w)) hu (key_of I.hok hb) dd fun h' dd' same => h _ ?_
  obtain ⟨q, es, ep, hq, h2, h3, h4, _, h5⟩ := dd'
  refine d_write I (by rw [hD]; exact True.intro) same ⟨q, hq⟩ ⟨by omega, hd, _, (rel.put k hb rv).keeps fun c ys ec => ?_, q, es, ep, hq, h2, h3, h4, h5⟩
  rwa [upd_ne (ne_of ec hD (fun z => nomatch z))]
section
variable {X : Cx}
/-- {k: v for target in iter}, the keys tuples: D the new dict -/
def tDcT (wi : TI) (g : TG) (tk tv : TE) (vs : List Nat) : TE := fun σ H Q => wi σ H fun J H1 => ∀ D, H1 D = none → ∃ W : Nat → Nat → Hp → Prop, (∃ m, W 0 m (upd H1 D (.dT []))) ∧ ∀ i m H, W i m H →
  (J.stop i H ∧ Q (.ref D) H) ∨ (J.go i H ∧ ∃ Nx : Hp → Prop, (∀ H', Nx H' → ∃ m', m' < m ∧ W (i + 1) m' H') ∧ ∀ x H', J.yld i H x H' → g x (wipe σ vs) H' fun σ2 H2 => wipe σ2 vs = wipe σ vs ∧
    tk σ2 H2 fun y H4 => tv σ2 H4 fun z H5 => ∃ kvs k b, y = .ref b ∧ H5 b = some (.tup (k.map kV)) ∧ H5 D = some (.dT kvs) ∧ kvs.length < sizeLine ∧ Nx (upd H5 D (.dT (putK kvs k z))))
theorem pe_dcT {kx vx tg iter : Expr} {scope : Scope} {own : List (Str × Nat)} {pos : Pos} {wi : TI} {g : TG} {tk tv : TE} (hu : X.A.units < cLine) (hc : X.calm = true) (hN : X.N.Nodup) (hi : PI X tg iter wi) (ok : BlkOk X.N X.env.scope scope own)
    (hg : ∀ (s : Shared) (H : Hp) (C : Addr) (cl : List (Str × Addr)) (fp : List Addr), PG (X.blk s H scope (compEnvC scope cl C X.env) fp) tg g)
    (hk : ∀ (s : Shared) (H : Hp) (C : Addr) (cl : List (Str × Addr)) (fp : List Addr), PE (X.blk s H scope (compEnvC scope cl C X.env) fp) kx tk)
    (he : ∀ (s : Shared) (H : Hp) (C : Addr) (cl : List (Str × Addr)) (fp : List Addr), PE (X.blk s H scope (compEnvC scope cl C X.env) fp) vx tv) (hs : ∀ x, foldedSetIterable iter X.env x = pure x := by intro _; rfl) :
    PE X (.DictComp kx vx [⟨tg, iter, [], 0⟩] scope pos) (tDcT wi g tk tv (own.map (·.2))) := by
  refine ⟨fun pins s σ H Q I h => ?_⟩
  rw [arm_eval_DictComp]
  have fr : ∀ y ∈ scope.names, y.2 = .free → ∃ c, X.env.cells.lookup y.1 = some c := fun y hy e => (ok.free y hy e).elim (fun k => I.ok.has _ (.inl k)) fun k => I.ok.has _ (.inr k)
  refine wpAny_comprehension_free rfl hs (closure_ok fr) ok.kind (fun y hy e => by rw [ok.uniq y hy, e]) (thn (hi.run pins s σ H _ I h) fun xv s1 hx => thn hx fun itv s2 h2 => ?_)
  obtain ⟨it, fp, tn, J, H2, rfl, I2, T, st2, f2, q⟩ := h2
  refine wpAny_newObj_type (newEnv_comp ?_)
  -- the new dict stands at D
  obtain ⟨D, hD⟩ : ∃ D, D = s2.heap.objs.size := ⟨_, rfl⟩
  obtain ⟨W, ⟨m0, w0⟩, turn⟩ := q D (I2.hok.fresh (Nat.le_of_eq hD.symm))
  obtain ⟨s3, hs3⟩ : ∃ s3 : Shared, s3 = { s2 with heap := s2.heap.push { cls := .type "dict", data := .dict #[] } } := ⟨_, rfl⟩
  have hh3 : s3.heap = s2.heap.push { cls := .type "dict", data := .dict #[] } := by rw [hs3]
  have k3 : ∀ b o, s2.heap.get? b = some o → s3.heap.get? b = some o := fun b o e => by rw [hh3]; exact Heap.get?_push_of_some _ e
  have I3 : Inv X pins σ (upd H2 D (.dT [])) s3 := by
    subst hs3 hD
    exact I2.laid (t' := s2.toks) (fun b o e => Heap.get?_push_of_some _ e) (Nat.le_refl _) (dt_empty s2.heap I2.big)
  have young : ∀ b ∈ fp, b < s2.heap.objs.size := fun b hb => (T.obj _ _ st2 b hb).elim fun o e => Heap.lt_size e.1
  have f3 : ∀ b ∈ fp, FpOk X pins (upd H2 D (.dT [])) b ∧ b < s3.heap.objs.size := fun b hb => by
    refine ⟨⟨?_, (f2 b hb).2⟩, by rw [hh3, Heap.size_push]; exact Nat.lt_succ_of_lt (young b hb)⟩
    rw [upd_ne (by rw [hD]; exact Nat.ne_of_lt (young b hb))]
    exact (f2 b hb).1
  have st3 : tn 0 s3.heap := T.keep _ _ _ st2 fun b _ => k3 b
  rw [← hs3]
  obtain ⟨H3, hH3⟩ : ∃ H3, H3 = upd H2 D (.dT []) := ⟨_, rfl⟩
  rw [← hH3] at I3 f3 w0
  have I4 := block_start I3 ok hN f3
  let cl := cellsFrom (s3.heap.objs.size + 1) scope.names (cloFrom X.env.cells scope.names [])
  have pg := hg s3 H3 s3.heap.objs.size cl fp
  have pk := hk s3 H3 s3.heap.objs.size cl fp
  have pe := he s3 H3 s3.heap.objs.size cl fp
  show codeAny _ _ (.compStart (.DictComp kx vx [⟨tg, iter, [], 0⟩] scope pos) 0 (.ref it) (.ref s2.heap.objs.size) (compEnvC scope cl s3.heap.objs.size X.env)) (compPost (model X.prog X.w) X.A X.xe none _ (.ref s2.heap.objs.size) s3.heap.objs.size) { s3 with heap := pushCells (s3.heap.push { cls := .type "dict", data := .dict #[] }) scope.names }
  rw [← hD]
  obtain ⟨ce, hce⟩ : ∃ ce, ce = compEnvC scope cl s3.heap.objs.size X.env := ⟨_, rfl⟩
  have cL : ce.locals = s3.heap.objs.size := by rw [hce]; rfl
  have I4' : Inv (X.blk s3 H3 scope ce fp) [] (wipe σ (own.map (·.2))) H3 { s3 with heap := pushCells (s3.heap.push { cls := .type "dict", data := .dict #[] }) scope.names } := by rw [hce]; exact I4
  rw [← hce] at pg pk pe ⊢
  clear I4
  obtain ⟨s4, hs4⟩ : ∃ s4 : Shared, s4 = { s3 with heap := pushCells (s3.heap.push { cls := .type "dict", data := .dict #[] }) scope.names } := ⟨_, rfl⟩
  rw [← hs4] at I4' ⊢
  have st4 : tn 0 s4.heap := T.keep _ _ _ st3 fun b _ o e => by rw [hs4]; exact pushCells_keeps _ _ _ _ (Heap.get?_push_of_some _ e)
  have stat : ∀ {σ' : L2.St} {H' : Hp} {s' : Shared}, Inv (X.blk s3 H3 scope ce fp) [] σ' H' s' → (∀ b ∈ fp, H' b = none) → ∀ b ∈ fp, FpOk (X.blk s3 H3 scope ce fp) [] H' b := fun I' hn b hb =>
    ⟨hn b hb, (I'.ok.exf b hb).1, I'.ok.exfs b hb, .inl hb, fun x c e => (I'.ok.exf b hb).2 x c e, fun p hp => by simp at hp⟩
  suffices loop : codeAny (model X.prog X.w) X.A (.compLoop (.DictComp kx vx [⟨tg, iter, [], 0⟩] scope pos) 0 (.ref it) (.ref D) ce) (compPost (model X.prog X.w) X.A X.xe none (EP X pins σ Q) (.ref D) s3.heap.objs.size) s4 from
    codeAny_compStart_dict loop (T.self X.A 0 _ _ _ st4 loop)
  refine compLoop_anyD (fun n s' => ∃ i H', Inv (X.blk s3 H3 scope ce fp) [] (wipe σ (own.map (·.2))) H' s' ∧ tn i s'.heap ∧ (∀ b ∈ fp, H' b = none) ∧ W i n H') ?_ m0 ⟨0, H3, I4', st4, fun b hb => (f3 b hb).1.1, w0⟩
  rintro n s5 ⟨i, H5, I5, st5, n5, w5⟩
  rcases turn i n H5 w5 with ⟨stop, qq⟩ | ⟨go, Nx, hNx, step⟩
  · refine thnF (T.done (X.blk s3 H3 scope ce fp) rfl rfl rfl hc i [] s5 _ H5 (fun _ _ => False) I5 (stat I5 n5) st5 stop) fun r s6 ⟨hr, I6⟩ => ?_
    subst hr
    have I7 : Inv X pins σ H5 s6 := I3.call' (ch := fp) I6.os I6.base I6.hok I6.bare fun b hb => ⟨(f3 b hb).1.2.2.2.1, (f3 b hb).1.2.1, (f3 b hb).1.2.2.2.2.1, (f3 b hb).1.2.2.2.2.2⟩
    obtain ⟨m, hn, _⟩ := I6.loc
    refine ⟨m, by rw [← cL]; exact hn, fun h'' sb => ?_⟩
    obtain ⟨g0, g1, g2, g3, g4, g5⟩ := I3.fpOk (H' := H5) (Nat.le_refl _) (by rw [← cL]; exact I6.free)
    exact ⟨.ref D, H5, I7.turned (t' := s6.toks) (fun b o hb e => (sb.2 b hb).trans e) g0 g1 g3 g4 g5, rfl, qq⟩
  · refine thnF (T.item (X.blk s3 H3 scope ce fp) rfl rfl rfl hc i [] s5 _ H5 (fun _ _ => False) I5 (stat I5 n5) st5 go) fun r s6 ⟨u, hr, h6⟩ => ?_
    subst hr
    refine thnF h6 fun _ s7 ⟨x, H7, I7, r7, y7, st7, n7⟩ => ?_
    have I7' := I7.pinned (stat I7 n7) (T.obj _ _ st7)
    refine thnF (pg.run _ s7 _ H7 x u _ I7' r7 (step x H7 y7)) fun _ s8 ⟨σ8, H8, I8, hw8, q8⟩ => ?_
    refine wpAny_tests_nil ?_
    simp only [if_true]
    refine thnF (pk.run _ s8 σ8 H8 _ I8 q8) fun z s10 ⟨yk, H10, I10, r10, q10⟩ => ?_
    refine thnF (pe.run _ s10 σ8 H10 _ I10 q10) fun z2 s11 ⟨yv, H11, I11, r11, kvs, k, b, ek, hb11, hD11, hz11, nx⟩ => ?_
    subst ek
    refine put_tup (X := X.blk s3 H3 scope ce fp) hu I11 hD11 hz11 hb11 r10 r11 fun s12 I12 => ?_
    obtain ⟨m', hm, w'⟩ := hNx _ nx
    have pin' : ∀ b ∈ fp, ∀ o, s7.heap.get? b = some o → s12.heap.get? b = some o ∧ (upd H11 D (.dT (putK kvs k yv))) b = none := fun b hb o e =>
      have z := I12.pin (b, o) (List.mem_append_right _ (List.mem_append_right _ (mem_pinsAt hb e)))
      ⟨z.1, z.2.1⟩
    refine ⟨m', hm, i + 1, _, (I12.unpinned (pins := [])).weak (by rw [← hw8, wipe_length]) (fun j v e => ?_), T.keep _ _ _ st7 fun b hb o e => (pin' b hb o e).1, fun b hb => ?_, w'⟩
    · rw [← hw8] at e
      exact (wipe_some e).1
    · obtain ⟨o, e, _⟩ := T.obj _ _ st7 b hb
      exact (pin' b hb o e).2
end
end Bk

namespace Bk
open PySem PySem.Spec PyProof.Rows L2
/-! ### heaps -/
theorem same_upd {H : Hp} {p : Addr} {o : HO} (h : H p = none) : Same H (upd H p o) := fun b x e => by
  rw [upd_ne (ne_of_none e h)]
  exact e
theorem Same.sqt {K : PySem.W.Frag} {H H' : Hp} {a : Addr} {xs : List V} (e : Same H H') (h : SqT K H a xs) : SqT K H' a xs := by
  rcases h with (h | ⟨o, h⟩) | h
  · exact .inl (.inl (e _ _ h))
  · exact .inl (.inr ⟨o, e _ _ h⟩)
  · exact .inr h
/-- a new object grows while all else stays -/
theorem Same.grow {H H' : Hp} {p : Addr} {o : HO} (e : Same H H') (h : H p = none) : Same H (upd H' p o) := fun b x q => by
  rw [upd_ne (ne_of_none q h)]
  exact e b x q
/-- all but the stream is as it was -/
def Kept (st c : Addr) (H H' : Hp) : Prop := ∀ b o, b ≠ st → b ≠ c → H b = some o → H' b = some o
theorem Kept.refl (st c : Addr) (H : Hp) : Kept st c H H := fun _ _ _ _ e => e
theorem Kept.trans {st c : Addr} {H H1 H2 : Hp} (a : Kept st c H H1) (b : Kept st c H1 H2) : Kept st c H H2 := fun x o n m e => b x o n m (a x o n m e)
theorem Same.kept {st c : Addr} {H H' : Hp} (a : Same H H') : Kept st c H H' := fun x o _ _ e => a x o e
/-! ### the stream of drawn numbers: at st, its cells at c; n bounds the draws so far -/
structure Strm (H : Hp) (st c : Addr) (n : Nat) : Prop where
  ne : c ≠ st
  ex : ∃ (cells : List Int) (a k m : Int), H c = some (.lst (cells.map V.int)) ∧ H st = some (.lst [.ref c, .int a, .int k, .int m]) ∧ 0 ≤ a ∧ 0 ≤ k ∧ k ≤ (n : Int) ∧ 0 ≤ m ∧ m < 2147483647
theorem Strm.more {H : Hp} {st c : Addr} {n n' : Nat} (S : Strm H st c n) (h : n ≤ n') : Strm H st c n' := by
  obtain ⟨ne, cells, a, k, m, h1, h2, h3, h4, h5, h6, h7⟩ := S
  exact ⟨ne, cells, a, k, m, h1, h2, h3, h4, by omega, h6, h7⟩
theorem Strm.same {H H' : Hp} {st c : Addr} {n : Nat} (S : Strm H st c n) (h : Same H H') : Strm H' st c n := by
  obtain ⟨ne, cells, a, k, m, h1, h2, h3⟩ := S
  exact ⟨ne, cells, a, k, m, h _ _ h1, h _ _ h2, h3⟩
theorem Strm.notfree {H : Hp} {st c : Addr} {n : Nat} (S : Strm H st c n) {p : Addr} (h : H p = none) : p ≠ st ∧ p ≠ c := by
  obtain ⟨ne, cells, a, k, m, h1, h2, h3⟩ := S
  exact ⟨fun e => (ne_of_none h2 h) e.symm, fun e => (ne_of_none h1 h) e.symm⟩
/-- what was free and is tracked behind is no part of the stream -/
theorem Kept.upd {H H' : Hp} {st c : Addr} {n : Nat} {p : Addr} {o : HO} (S : Strm H st c n) (k : Kept st c H H') (h : H p = none) : Kept st c H (L2.upd H' p o) := fun b x n1 n2 e => by
  rw [upd_ne (ne_of_none e h)]
  exact k b x n1 n2 e
theorem Strm.upd {H : Hp} {st c : Addr} {n : Nat} {p : Addr} {o : HO} (S : Strm H st c n) (h1 : p ≠ st) (h2 : p ≠ c) : Strm (L2.upd H p o) st c n := by
  obtain ⟨ne, cells, a, k, m, e1, e2, e3⟩ := S
  exact ⟨ne, cells, a, k, m, by rw [upd_ne h2.symm]; exact e1, by rw [upd_ne h1.symm]; exact e2, e3⟩
theorem Kept.free {H H' : Hp} {st c p : Addr} (k : Kept st c H H') (h : H' p = none) (n1 : p ≠ st) (n2 : p ≠ c) : H p = none := by
  cases e : H p with
  | none => rfl
  | some o =>
    rw [k p o n1 n2 e] at h
    cases h
theorem Kept.grow {H H' : Hp} {st c p : Addr} {o : HO} (k : Kept st c H H') (h : H p = none) : Kept st c H (L2.upd H' p o) := fun b x n1 n2 e => by
  rw [upd_ne (ne_of_none e h)]
  exact k b x n1 n2 e
/-! ### names that the program's top leaves -/
structure Bi (mg : Str → Option Value) : Prop where
  len : mg "len" = none
  list : mg "list" = none
  tuple : mg "tuple" = none
  isinstance : mg "isinstance" = none
  all : mg "all" = none
  any : mg "any" = none
  zip : mg "zip" = none
  enumerate : mg "enumerate" = none
  range : mg "range" = none
  int : mg "int" = none
  str : mg "str" = none
  bool : mg "bool" = none
  dict : mg "dict" = none
  abs : mg "abs" = none
/-- a def that can be called by its name -/
structure Cal (P : Program) (w : World) (K : PySem.W.Frag) (mg : Str → Option Value) (base : Heap) (CX : CXT) (k : Nat) (x : Str) (f : Addr) (fd : FuncData) (ps : List Str) (sp : Sp) : Prop where
  ok : FnOk P w K mg base CX k f fd ps sp
  g : mg x = some (.ref f)
  kp : PySem.W.keepIn K (.ref f) = true
  b : Binds K fd ps []
/-! ### what is a name -/
def lettersL : List Nat := (Str.ofString "abcdefghijklmnopqrstuvwxyz").cps.toList
theorem letters_mem (c : Nat) : c ∈ lettersL ↔ 97 ≤ c ∧ c ≤ 122 := by
  rw [show lettersL = List.range' 97 26 by decide +kernel, List.mem_range'_1]
  omega
def isNameS (z : Str) : Bool := decide (1 ≤ z.length) && decide (z.length ≤ 8) && z.cps.toList.all fun c => decide (c ∈ lettersL)
def isNameB : V → Bool
  | .str z => isNameS z
  | _ => false
def isStr : V → Bool
  | .str _ => true
  | _ => false
/-- any object, as far as isinstance with str asks -/
def Itm (K : PySem.W.Frag) (H : Hp) (x : V) : Prop := ∃ t, TyX K H x t ∧ PySem.W.kitOne K t (.type "str") = some (isStr x) ∧ ∀ z, x = .str z → z.length ≤ 100000
/-- any object, as far as isinstance with (list, tuple) asks: b tells whether it is one of them -/
def Sqs (K : PySem.W.Frag) (H : Hp) (x : V) (b : Bool) : Prop := ∃ t, TyX K H x t ∧ PySem.W.kitAny K t [.type "list", .type "tuple"] = some b
theorem Itm.str {K : PySem.W.Frag} {H : Hp} {z : Str} (h : z.length ≤ 100000) : Itm K H (.str z) := ⟨.type "str", .base (.str z), kit_ty (show kitB "str" "str" = some true by decide +kernel), fun _ e => by cases e; exact h⟩
theorem TyX.same {K : PySem.W.Frag} {H H' : Hp} {x : V} {t : Value} (h : TyX K H x t) (e : Same H H') : TyX K H' x t := by
  cases h with
  | base b =>
    cases b with
    | non => exact .base .non
    | bl y => exact .base (.bl y)
    | int i => exact .base (.int i)
    | str y => exact .base (.str y)
    | flt y => exact .base (.flt y)
    | lst q => exact .base (.lst (e _ _ q))
    | frz q => exact .base (.frz (e _ _ q))
    | tup q => exact .base (.tup (e _ _ q))
    | dK q => exact .base (.dK (e _ _ q))
    | dT q => exact .base (.dT (e _ _ q))
    | ins q c1 c2 c3 c4 c5 => exact .base (.ins (e _ _ q) c1 c2 c3 c4 c5)
  | byt b => exact .byt b
  | set q => exact .set (e _ _ q)
  | kList q c => exact .kList q c
  | kTuple q c => exact .kTuple q c
  | kDict q c => exact .kDict q c
  | fTuple q => exact .fTuple (e _ _ q)
  | fDict q => exact .fDict (e _ _ q)
/-! ### promises -/
def spStart (K : PySem.W.Frag) : Sp := fun vs H Q _ => ∃ (a : Addr) (ns : List Int), vs = [.ref a] ∧ SqL K H a (ns.map V.int) ∧
  ∀ (st c : Addr) (H' : Hp), Same H H' → H st = none → H c = none → Strm H' st c 0 → Q (.ref st) H'
def spDraw : Sp := fun vs H Q _ => ∃ (st c : Addr) (n : Nat) (k : Int), vs = [.ref st, .int k] ∧ Strm H st c n ∧ n ≤ 1000000 ∧ 0 < k ∧ k < 1000000 ∧
  ∀ (d : Int) (H' : Hp), 0 ≤ d → d < k → Strm H' st c (n + 1) → Kept st c H H' → Q (.int d) H'
/-- what one may pick from: a list, a tuple, a text -/
inductive Pk (K : PySem.W.Frag) (H : Hp) (st c : Addr) : V → Nat → (Nat → V) → Prop where
  | lst {a : Addr} {xs : List V} {f : Nat → V} (h : SqL K H a xs) (n1 : a ≠ st) (n2 : a ≠ c) (e : ∀ j, j < xs.length → xs[j]? = some (f j)) : Pk K H st c (.ref a) xs.length f
  | tup {a : Addr} {xs : List V} {f : Nat → V} (h : SqT K H a xs) (n1 : a ≠ st) (n2 : a ≠ c) (e : ∀ j, j < xs.length → xs[j]? = some (f j)) : Pk K H st c (.ref a) xs.length f
  | str {z : Str} {f : Nat → V} (hz : z.length ≤ sizeLine) (e : ∀ j, j < z.length → ∃ ch, z.cps.toList[j]? = some ch ∧ f j = .str ⟨#[ch]⟩) : Pk K H st c (.str z) z.length f
def spPick (K : PySem.W.Frag) : Sp := fun vs H Q _ => ∃ (st c : Addr) (n len : Nat) (x : V) (f : Nat → V), vs = [.ref st, x] ∧ Strm H st c n ∧ n ≤ 1000000 ∧ 0 < len ∧ len < 1000000 ∧ Pk K H st c x len f ∧
  ∀ (j : Nat) (H' : Hp), j < len → Strm H' st c (n + 1) → Kept st c H H' → Q (f j) H'
def spIsList (K : PySem.W.Frag) : Sp := fun vs H Q _ => ∃ (x : V) (b : Bool), vs = [x] ∧ Sqs K H x b ∧ ∀ H', Same H H' → Q (.bl b) H'
def spIsName (K : PySem.W.Frag) : Sp := fun vs H Q _ => ∃ x : V, vs = [x] ∧ Itm K H x ∧ ∀ H', Same H H' → Q (.bl (isNameB x)) H'
def spName : Sp := fun vs H Q _ => ∃ (st c : Addr) (n : Nat), vs = [.ref st] ∧ Strm H st c n ∧ n ≤ 900000 ∧
  ∀ (z : Str) (H' : Hp), isNameS z = true → Strm H' st c (n + 9) → Kept st c H H' → Q (.str z) H'
def spNames (K : PySem.W.Frag) : Sp := fun vs H Q _ => ∃ (st c : Addr) (n many : Nat), vs = [.ref st, .int (many : Int)] ∧ Strm H st c n ∧ n ≤ 800000 ∧ many ≤ 16 ∧
  ∀ (l : Addr) (zs : List Str) (H' : Hp), H l = none → zs.length = many → zs.Nodup → (∀ z ∈ zs, isNameS z = true) → Strm H' st c (n + 200) → Kept st c H H' → H' l = some (.lst (zs.map V.str)) → Q (.ref l) H'
theorem dp_ints {K : PySem.W.Frag} {H : Hp} : ∀ l : List Int, DpAll K H (l.map V.int) (l.map PyData.int)
  | [] => .nil
  | x :: r => .cons (.int x) (dp_ints r)
theorem lay_ints : ∀ l : List Int, PyData.canLayAll0 (l.map PyData.int) = true
  | [] => by simp [PyData.canLayAll0]
  | x :: r => by
    have := lay_ints r
    simp [PyData.canLayAll0, PyData.canLay0, this]
theorem depth_ints : ∀ l : List Int, PyData.depthAll (l.map PyData.int) = 0
  | [] => by simp [PyData.depthAll]
  | x :: r => by
    have := depth_ints r
    simp [PyData.depthAll, PyData.depth, this]
theorem shaped_ints (l : List Int) : SeqAt.shaped (.list (l.map PyData.int)) = true := by
  have h1 := lay_ints l
  have h2 := depth_ints l
  simp [SeqAt.shaped, PyData.canLay0, PyData.depth, h1, h2]
theorem eqv_nil (l : List Int) : PyData.eqv (.list (l.map PyData.int)) (.list []) = l.isEmpty := by
  cases l <;> simp [PyData.eqv, PyData.eqvAll]
theorem yes2 {σ : L2.St} {H : Hp} {A B : Hp → Prop} (h : A H) : tYes σ H (fun b H3 => if b = true then A H3 else B H3) := by
  show (if true = true then A H else B H)
  rw [if_pos rfl]
  exact h
theorem take_succ_map {α β : Type} {l : List α} {f : α → β} {i : Nat} {x : α} (h : l[i]? = some x) : (l.take (i + 1)).map f = (l.take i).map f ++ [f x] := by
  obtain ⟨h1, rfl⟩ := List.getElem?_eq_some_iff.mp h
  rw [List.take_add_one, h, List.map_append]
  rfl
/-- the first turns of a comprehension that keeps each item -/
structure Upto {α : Type} (H : Hp) (D : Addr) (l : List α) (f : α → V) (i : Nat) (H' : Hp) : Prop where
  sm : Same H H'
  at_ : H' D = some (.lst ((l.take i).map f))
theorem Upto.zero {α : Type} {H : Hp} {D : Addr} {l : List α} {f : α → V} (h : H D = none) : Upto H D l f 0 (upd H D (.lst [])) := ⟨same_upd h, upd_same⟩
theorem Upto.next {α : Type} {H H' H2 : Hp} {D : Addr} {l : List α} {f : α → V} {i : Nat} {x : α} (u : Upto H D l f i H') (nD : H D = none) (hx : l[i]? = some x) (s2 : Same H' H2) (hl : l.length ≤ 100000) :
    ∃ acc, H2 D = some (.lst acc) ∧ acc.length < sizeLine ∧ Upto H D l f (i + 1) (upd H2 D (.lst (acc ++ [f x]))) := by
  have hi := (List.getElem?_eq_some_iff.mp hx).1
  refine ⟨_, s2 _ _ u.at_, Evl.sz_lt ?_, Same.grow (u.sm.trans s2) nD, ?_⟩
  · rw [List.length_map, List.length_take]
    omega
  · rw [upd_same, take_succ_map hx]
theorem Upto.all {α : Type} {H H' : Hp} {D : Addr} {l : List α} {f : α → V} {n : Nat} (u : Upto H D l f n H') (e : n = l.length) : H' D = some (.lst (l.map f)) := by
  rw [u.at_, e, List.take_length]
theorem inV_strs (z : Str) : ∀ zs : List Str, inV (.str z) (zs.map V.str) = decide (z ∈ zs)
  | [] => rfl
  | x :: r => by
    have ih := inV_strs z r
    unfold inV at ih ⊢
    rw [List.map_cons, List.any_cons, ih]
    show ((x == z) || decide (z ∈ r)) = decide (z ∈ x :: r)
    by_cases e : x = z
    · subst e
      simp
    · have e2 : ¬ z = x := fun q => e q.symm
      rw [beq_eq_false_iff_ne.mpr e, Bool.false_or]
      simp [e2]
theorem flat_strs : ∀ zs : List Str, (zs.map V.str).all flatV = true
  | [] => rfl
  | x :: r => by
    rw [List.map_cons, List.all_cons, flat_strs r]
    rfl
theorem pigeon {α : Type} [DecidableEq α] : ∀ (a b : List α), a.Nodup → (∀ x ∈ a, x ∈ b) → a.length ≤ b.length
  | [], _, _, _ => Nat.zero_le _
  | x :: r, b, hn, hs => by
    have hx := hs x List.mem_cons_self
    obtain ⟨n1, n2⟩ := List.nodup_cons.mp hn
    have ih := pigeon r (b.erase x) n2 fun y hy => (List.mem_erase_of_ne (fun (e : y = x) => n1 (e ▸ hy))).mpr (hs y (List.mem_cons_of_mem _ hy))
    rw [List.length_erase_of_mem hx] at ih
    have : 0 < b.length := List.length_pos_of_mem hx
    rw [List.length_cons]
    omega
/-- the first turns of a comprehension that keeps some items -/
structure UptoF {α : Type} (H : Hp) (D : Addr) (l : List α) (f : α → V) (p : α → Bool) (i : Nat) (H' : Hp) : Prop where
  sm : Same H H'
  at_ : H' D = some (.lst (((l.take i).filter p).map f))
theorem UptoF.zero {α : Type} {H : Hp} {D : Addr} {l : List α} {f : α → V} {p : α → Bool} (h : H D = none) : UptoF H D l f p 0 (upd H D (.lst [])) := ⟨same_upd h, upd_same⟩
theorem take_succ {α : Type} {l : List α} {i : Nat} {x : α} (h : l[i]? = some x) : l.take (i + 1) = l.take i ++ [x] := by
  rw [List.take_add_one, h]
  rfl
theorem UptoF.yes {α : Type} {H H' H2 : Hp} {D : Addr} {l : List α} {f : α → V} {p : α → Bool} {i : Nat} {x : α} (u : UptoF H D l f p i H') (nD : H D = none) (hx : l[i]? = some x) (hp : p x = true) (s2 : Same H' H2) (hl : l.length ≤ 100000) :
    ∃ acc, H2 D = some (.lst acc) ∧ acc.length < sizeLine ∧ UptoF H D l f p (i + 1) (upd H2 D (.lst (acc ++ [f x]))) := by
  have hi := (List.getElem?_eq_some_iff.mp hx).1
  refine ⟨_, s2 _ _ u.at_, Evl.sz_lt ?_, Same.grow (Same.trans u.sm s2) nD, ?_⟩
  · have := List.length_filter_le p (l.take i)
    rw [List.length_map]
    rw [List.length_take] at this
    omega
  · rw [upd_same, take_succ hx, List.filter_append, List.map_append, List.filter_cons_of_pos hp]
    rfl
theorem UptoF.no {α : Type} {H H' H2 : Hp} {D : Addr} {l : List α} {f : α → V} {p : α → Bool} {i : Nat} {x : α} (u : UptoF H D l f p i H') (hx : l[i]? = some x) (hp : p x = false) (s2 : Same H' H2) : UptoF H D l f p (i + 1) H2 :=
  ⟨Same.trans u.sm s2, by rw [take_succ hx, List.filter_append, List.filter_cons_of_neg (by rw [hp]; exact Bool.false_ne_true), List.filter_nil, List.append_nil]; exact s2 _ _ u.at_⟩
theorem UptoF.all {α : Type} {H H' : Hp} {D : Addr} {l : List α} {f : α → V} {p : α → Bool} {n : Nat} (u : UptoF H D l f p n H') (e : n = l.length) : H' D = some (.lst ((l.filter p).map f)) := by
  rw [u.at_, e, List.take_length]
/-! ### the layer's rules with K told (within a comprehension's block the reading may not speak of the block) -/
section
variable {X : Cx} (K : PySem.W.Frag)
theorem kIn (e : X.K = K := by rfl) : OpR X (compareOp .In) (rIn K false) := e ▸ op_in_seq
theorem kNotIn (e : X.K = K := by rfl) : OpR X (compareOp .NotIn) (rIn K true) := e ▸ op_notIn_seq
theorem kEqD (hu : X.A.units + 64 < cLine) (e : X.K = K := by rfl) : OpR X (compareOp .Eq) (rEqD K) := e ▸ op_eqD hu
theorem kNeD (hu : X.A.units + 64 < cLine) (e : X.K = K := by rfl) : OpR X (compareOp .NotEq) (rNeD K) := e ▸ op_neD hu
theorem kCatA (e : X.K = K := by rfl) : OpR X (binaryOp .Add) (rCatA K) := e ▸ op_catA
theorem kIxL (e : X.K = K := by rfl) : IxR X (rIxL K) := e ▸ ix_list
theorem kIxT (e : X.K = K := by rfl) : IxR X (rIxT K) := e ▸ ix_tup
theorem kIx (e : X.K = K := by rfl) : IxR X (rIx K) := e ▸ ix_seq
theorem kSlL (e : X.K = K := by rfl) : SlR X (rSlL K) := e ▸ sl_list
theorem kSlT (e : X.K = K := by rfl) : SlR X (rSlA K) := e ▸ sl_tupA
/-- len of a text, a list, a tuple -/
def rLn (K : PySem.W.Frag) : List V → Hp → VK → Prop := fun xs H Q => ∃ x n, xs = [x] ∧ LenV K x H n ∧ Q (.int n) H
theorem kLen (e : X.K = K := by rfl) : CallR X (.builtin "len") (rLn K) := e ▸ call_len
def rLs (K : PySem.W.Frag) : List V → Hp → VK → Prop := fun xs H Q => ∃ p ys, xs = [.ref p] ∧ (SqL K H p ys ∨ SqT K H p ys) ∧ ∀ l, H l = none → Q (.ref l) (upd H l (.lst ys))
theorem kList (e : X.K = K := by rfl) : CallR X (.type "list") (rLs K) := e ▸ call_list_of
theorem kAll (hc : X.calm = true) (e : X.K = K := by rfl) : CallR X (.builtin "all") (rAll K) := e ▸ cr_all hc
theorem kAny (hc : X.calm = true) (e : X.K = K := by rfl) : CallR X (.builtin "any") (rAny K) := e ▸ cr_any hc
theorem kIsi (e : X.K = K := by rfl) : CallR X (.builtin "isinstance") (rIsi K) := e ▸ call_isi
theorem kIsiT (e : X.K = K := by rfl) : CallR X (.builtin "isinstance") (rIsiT K) := e ▸ call_isiT
theorem kTupleOf {a : Expr} {ta : TE} {p pos : Pos} (hg : Gl X "tuple") (hm : X.mg "tuple" = none) (ha : PE X a ta) (e : X.K = K := by rfl) (na : starEach [a] X.env = (false, eval a X.env) :: starEach [] X.env := by rfl) : PE X (.Call (.Name "tuple" p) [a] [] pos) (tThen ta (kTup K)) := e ▸ pe_tupleOf hg hm ha na
theorem kTg (n : Nat) {es : List Expr} {k : Nat} {t : TGs} {pos : Pos} (hc : X.calm = true) (h : PGs X es t) (e : X.K = K := by rfl) (hn : (assignEach es X.env).length = n := by rfl) (hst : (assignEach es X.env).findIdx? (·.1) = none := by rfl) :
    PG X (.Tuple es k pos) (gTup K n t) := e ▸ pg_tup hc h hn hst
theorem kPiL {tg l : Expr} {tl : TE} (hl : PE X l tl) (e : X.K = K := by rfl) : PI X tg l (iList K tl) := e ▸ pi_list hl
theorem kPiT {tg l : Expr} {tl : TE} (hl : PE X l tl) (e : X.K = K := by rfl) : PI X tg l (iTup K tl) := e ▸ pi_tup hl
theorem kPiE {e1 : Expr} {ta : TA} {p pos tpos : Pos} {elts : List Expr} {kk : Nat} (hg : Gl X "enumerate") (hm : X.mg "enumerate" = none) (ha : PA X [e1] ta) (e : X.K = K := by rfl) (hs : starEach [e1] X.env = [(false, eval e1 X.env)] := by rfl) :
    PI X (.Tuple elts kk tpos) (.Call (.Name "enumerate" p) [e1] [] pos) (iEnS K ta) := e ▸ pi_enS hg hm ha hs
theorem kPiZ {e1 e2 : Expr} {ta : TA} {p pos tpos : Pos} {elts : List Expr} {kk : Nat} (hg : Gl X "zip") (hm : X.mg "zip" = none) (ha : PA X [e1, e2] ta) (e : X.K = K := by rfl)
    (hs : starEach [e1, e2] X.env = (false, eval e1 X.env) :: starEach [e2] X.env := by rfl) (hpl : (backTo pos (starEach [e2] X.env)).any (·.1) = false := by rfl) :
    PI X (.Tuple elts kk tpos) (.Call (.Name "zip" p) [e1, e2] [] pos) (RZ.iZipA K ta) := e ▸ RZ.pi_zipA hg hm ha hs hpl
end
end Bk

namespace Bk
open PySem PySem.Spec PyProof.Rows L2
section
variable {P : Program} {w : World} {K : PySem.W.Frag} {mg : Str → Option Value} {base : Heap}
theorem scIsList : FnScope ["thing"] ["thing"] (defScope (topS 19)) := ⟨rfl, rfl, rfl, by decide +kernel, rfl, by decide +kernel, by decide +kernel⟩
theorem ok_is_list (B : Bi mg) {f : Addr} {fd : FuncData} (F : Fun K "is_list" "is_list" (topS 19) f fd) : FnOk P w K mg base CX0 1 f fd ["thing"] (spIsList K) := by
  refine F.ok scIsList (fun vs H Q E h => ?_) (fun cdv A outer s H vs Q E hr h => ?_)
  · obtain ⟨x, b, rfl, _⟩ := h
    rfl
  · obtain ⟨x, b, rfl, ⟨t, ty, kk⟩, q⟩ := h
    have nd := scIsList.nd
    refine ⟨_, (pss_one (ps_ret (pe_callB (kIsiT K) (by rfl) B.isinstance (by decide +kernel) (pa_cons (pv 0) (pa_cons (pe_tup (pa_cons (pe_bltn (v := .ty "list") (by rfl) B.list (by decide +kernel) rfl) (pa_cons (pe_bltn (v := .ty "tuple") (by rfl) B.tuple (by decide +kernel) rfl) pa_nil))) pa_nil))))), ?_⟩
    refine ⟨_, rfl, by show 2 ≤ sizeLine; decide, fun p np => ?_⟩
    have ty' : TyX K (upd H p (.tup [.ty "list", .ty "tuple"])) x t := TyX.same ty (same_upd np)
    exact ⟨x, p, _, t, _, b, rfl, upd_same, .cons (.ty _) (.cons (.ty _) .nil), ty', kk, q _ (same_upd np)⟩
theorem scIsName : FnScope ["thing", "letter"] ["thing"] (defScope (topS 20)) := ⟨rfl, rfl, rfl, by decide +kernel, rfl, by decide +kernel, by decide +kernel⟩
theorem ok_is_name (B : Bi mg) {f : Addr} {fd : FuncData} {t1 t2 : Tok} (g_LETTERS : mg "LETTERS" = some (.str (Str.ofString "abcdefghijklmnopqrstuvwxyz") t1)) (g_LONGEST_NAME : mg "LONGEST_NAME" = some (.int 8 t2)) (F : Fun K "is_name" "is_name" (topS 20) f fd) : FnOk P w K mg base CX0 1 f fd ["thing"] (spIsName K) := by
  refine F.ok scIsName (fun vs H Q E h => ?_) (fun cdv A outer s H vs Q E hr h => ?_)
  · obtain ⟨x, rfl, _⟩ := h
    rfl
  · obtain ⟨x, rfl, ⟨t, ty, kk, hz⟩, q⟩ := h
    have nd := scIsName.nd
    refine ⟨_, (pss_cons (ps_if (PW.pt (pw_or (pt_not (pt_val (pe_callB (kIsi K) (by rfl) B.isinstance (by decide +kernel) (pa_cons (pv 0) (pa_cons (pe_bltn (v := .ty "str") (by rfl) B.str (by decide +kernel) rfl) pa_nil))))) (pw_or1 (pt_not (pt_chain op_le op_le pe_int (pe_callB (kLen K) (by rfl) B.len PySem.boot_len (pa_cons (pv 0) pa_nil)) (pe_glob (v := .int 8) (by rfl) g_LONGEST_NAME ⟨_, rfl⟩)))))) (pss_one (ps_ret pe_bl)) pss_nil)
      (pss_one (ps_ret (pe_callB (kAll K rfl) (by rfl) B.all (by decide +kernel) (pa_cons (pe_lc (own := [("letter", 1)]) rfl nd (pi_str (pv 0)) (blkOk_by (N := ["thing", "letter"]) (sc := defScope (topS 20)) (by decide +kernel)) (fun _ _ _ _ _ => (pg_name (i := 1) nd rfl (Or.inl rfl))) (fun _ _ _ _ _ => pts_nil) (fun _ _ _ _ _ => (pe_cmpR op_in_sign (pv 1) (pe_glob (v := .str (Str.ofString "abcdefghijklmnopqrstuvwxyz")) (by rfl) g_LETTERS ⟨_, rfl⟩) rfl))) pa_nil))))), ?_⟩
    refine ⟨_, rfl, x, _, t, _, _, rfl, .ty _, ty, kk, _, rfl, ?_⟩
    cases x with
    | str z =>
      refine iteF ?_
      have hz1 : z.length ≤ sizeLine := Evl.sz_of (hz z rfl)
      refine ⟨_, rfl, _, _, rfl, ⟨hz1, rfl⟩, _, _, rfl, rfl, _, rfl, ?_⟩
      refine ite2 (fun h1 => ?_) (fun h1 => ?_)
      · refine ⟨_, _, rfl, rfl, _, rfl, ?_⟩
        refine ite2 (fun h2 => ?_) (fun h2 => ?_)
        · have e : isNameB (.str z) = false := by
            have h2 : ¬ z.length ≤ 8 := by
              intro h3
              have : decide ((z.length : Int) ≤ 8) = true := decide_eq_true (by omega)
              rw [this] at h2
              cases h2
            simp [isNameB, isNameS, h2]
          rw [e] at q
          exact q _ (Same.refl _)
        · have e : isNameB (.str z) = (z.cps.toList.map fun c => decide (c ∈ lettersL)).all id := by
            have h1 := of_decide_eq_true h1
            have h2 : z.length ≤ 8 := by
              by_cases h3 : (z.length : Int) ≤ 8
              · omega
              · rw [decide_eq_false h3] at h2
                exact (h2 rfl).elim
            simp [isNameB, isNameS, h2, show 1 ≤ z.length by omega]
          refine ⟨_, rfl, z, rfl, fun D nD => lc_it walk_str (Upto H D z.cps.toList fun c => V.bl (decide (c ∈ lettersL))) (.zero nD) (fun _ _ _ _ => trivial) ?_ ?_⟩
          · rintro i x H1 H2 hi u ⟨rfl, c, hc, rfl⟩
            have hc' : z.cps.toList[i]? = some c := by rw [← hc]; simp
            refine ⟨rfl, ?_⟩
            refine yes2 ?_
            exact ⟨_, rfl, c, _, rfl, rfl, u.next nD hc' (Same.refl _) (hz z rfl)⟩
          · intro H1 u
            have hD := u.all (by simp)
            rw [e] at q
            exact ⟨D, z.cps.toList.map fun c => decide (c ∈ lettersL), rfl, .of (by rw [List.map_map]; exact hD), q _ u.sm⟩
      · refine ⟨_, rfl, ?_⟩
        refine iteT ?_
        have e : isNameB (.str z) = false := by
          have h1 : ¬ 1 ≤ z.length := by
            intro h3
            exact h1 (decide_eq_true (by omega))
          simp [isNameB, isNameS, h1]
        rw [e] at q
        exact q _ (Same.refl _)
    | _ => exact iteT (iteT (q _ (Same.refl _)))
end
end Bk

namespace Bk
open PySem PySem.Spec PyProof.Rows L2
section
variable {P : Program} {w : World} {K : PySem.W.Frag} {mg : Str → Option Value} {base : Heap}
theorem scStart : FnScope ["_law_script"] ["_law_script"] (defScope (topS 81)) := ⟨rfl, rfl, rfl, by decide +kernel, rfl, by decide +kernel, by decide +kernel⟩
theorem ok_start (B : Bi mg) {f : Addr} {fd : FuncData} (F : Fun K "_law_start" "_law_start" (topS 81) f fd) : FnOk P w K mg base CX0 1 f fd ["_law_script"] (spStart K) := by
  refine F.ok scStart (fun vs H Q E h => ?_) (fun cdv A outer s H vs Q E hr h => ?_)
  · obtain ⟨a, ns, rfl, _⟩ := h
    rfl
  · obtain ⟨a, ns, rfl, hS, q⟩ := h
    refine ⟨_, (pss_one (ps_ret (pe_lst (pa_cons (pe_callTy (kList K) (by rfl) B.list (by decide +kernel) (pa_cons (pv 0) pa_nil)) (pa_cons pe_int (pa_cons pe_int (pa_cons pe_int pa_nil))))))), ?_⟩
    refine ⟨_, rfl, a, _, rfl, .inl hS, fun c nc => ⟨by show 4 ≤ sizeLine; decide, fun st nst => ?_⟩⟩
    have hne : c ≠ st := fun e => by
      rw [← e, upd_same] at nst
      cases nst
    have nst' : H st = none := by rw [upd_ne hne.symm] at nst; exact nst
    refine q st c _ (Same.trans (same_upd nc) (same_upd nst)) nst' nc ⟨hne, ns, 0, 0, 11, ?_, upd_same, by omega, by omega, by omega, by omega, by omega⟩
    rw [upd_ne hne, upd_same]
theorem scDraw : FnScope ["_law_stream", "_law_many", "_law_cell", "_law_digit", "_law_mixed_here"] ["_law_stream", "_law_many"] (defScope (topS 82)) := ⟨rfl, rfl, rfl, by decide +kernel, rfl, by decide +kernel, by decide +kernel⟩
theorem ok_draw (B : Bi mg) {f : Addr} {fd : FuncData} (F : Fun K "_law_draw" "_law_draw" (topS 82) f fd) : FnOk P w K mg base CX0 1 f fd ["_law_stream", "_law_many"] spDraw := by
  refine F.ok scDraw (fun vs H Q E h => ?_) (fun cdv A outer s H vs Q E hr h => ?_)
  · obtain ⟨st, c, n, k, rfl, _⟩ := h
    rfl
  · obtain ⟨st, c, n, k, rfl, S, hn, hk0, hk1, q⟩ := h
    have hu := hu_of hr
    have nd := scDraw.nd
    refine ⟨_, (Evl.pss_cut (ps_asg (pe_op op_add (pe_ix (kIxL K) (pv 0) pe_int (fun _ _ => rfl)) pe_int) (pg_sub (pv 0) pe_int set_list))
      (Evl.pss_cut (ps_if (PW.pt (pw_and (pt_cmpR op_eq (pe_ix (kIxL K) (pv 0) pe_int (fun _ _ => rfl)) pe_int (nomark _)) (pw_and1 (pt_cmpR (kNeD K hr.units) (pe_ix (kIxL K) (pv 0) pe_int (fun _ _ => rfl)) (pe_lst pa_nil) (nomark _))))) (pss_cons (ps_set (i := 2) nd rfl (Or.inl rfl) (pe_bm PySem.F.plainAttrs_list PySem.F.slot_list_pop PySem.F.type_list_pop mt_popAt (pe_ix (kIxL K) (pv 0) pe_int (fun _ _ => rfl)) (pa_cons pe_int pa_nil)))
      (pss_cons (ps_asg (pe_op op_mod (pe_callTy call_int1 (by rfl) B.int (by decide +kernel) (pa_cons (pe_op op_add (pe_op op_add (pe_op op_mul (pe_ix (kIxL K) (pv 0) pe_int (fun _ _ => rfl)) pe_int) (pv 2)) pe_int) pa_nil)) pe_int) (pg_sub (pv 0) pe_int set_list))
      (pss_one (ps_asg (pe_ifExp (pt_cmpR op_ge (pv 2) (pe_op op_pow pe_int pe_int) (nomark _)) (pv 2) pe_int) (pg_sub (pv 0) pe_int set_list))))) pss_nil)
      (pss_cons (ps_if (pt_cmpR op_gt (pe_ix (kIxL K) (pv 0) pe_int (fun _ _ => rfl)) pe_int (nomark _)) (pss_cons (ps_set (i := 3) nd rfl (Or.inl rfl) (pe_op op_mod (pe_callTy call_int1 (by rfl) B.int (by decide +kernel) (pa_cons (pe_ix (kIxL K) (pv 0) pe_int (fun _ _ => rfl)) pa_nil)) (pv 1)))
      (pss_cons (ps_asg (pe_op op_fdiv (pe_ix (kIxL K) (pv 0) pe_int (fun _ _ => rfl)) (pv 1)) (pg_sub (pv 0) pe_int set_list))
      (pss_one (ps_ret (pv 3))))) pss_nil)
      (pss_cons (ps_set (i := 4) nd rfl (Or.inl rfl) (pe_op op_mod (pe_callTy call_int1 (by rfl) B.int (by decide +kernel) (pa_cons (pe_op op_pow (pe_op op_add (pe_op op_add (pe_ix (kIxL K) (pv 0) pe_int (fun _ _ => rfl)) (pe_op op_mul pe_int (pe_ix (kIxL K) (pv 0) pe_int (fun _ _ => rfl)))) pe_int) pe_int) pa_nil)) pe_int))
      (pss_one (ps_ret (pe_op op_mod (pe_op op_mod (pe_callTy call_int1 (by rfl) B.int (by decide +kernel) (pa_cons (pe_op op_pow (pe_op op_add (pe_op op_add (pe_op op_mul (pv 4) pe_int) (pe_op op_mul pe_int (pe_ix (kIxL K) (pv 0) pe_int (fun _ _ => rfl)))) pe_int) pe_int) pa_nil)) pe_int) (pv 1)))))))), ?_⟩
    obtain ⟨ne, cells, a, b, m, hc, hs, ha, hb0, hb1, hm0, hm1⟩ := S
    refine ⟨fun σ' H1 => σ' = [some (.ref st), some (.int k), none, none, none] ∧ H1 st = some (.lst [.ref c, .int a, .int (b + 1), .int m]) ∧ H1 c = some (.lst (cells.map V.int)) ∧ Kept st c H H1, ?_, ?_⟩
    · refine ⟨_, rfl, st, _, _, _, rfl, rfl, SqL.of hs, atI_nat rfl, _, _, rfl, rfl, _, rfl, st, _, _, 2, rfl, rfl, hs, rfl, rfl, upd_same, by rw [upd_ne ne]; exact hc, fun x o n1 _ e => by rw [upd_ne n1]; exact e⟩
    rintro σ1 H1 ⟨rfl, hs1, hc1, kp1⟩
    refine ⟨fun σ' H2 => ∃ (a' m' : Int) (cells' : List Int) (v2 : Option V), 0 ≤ a' ∧ 0 ≤ m' ∧ m' < 2147483647 ∧ H2 c = some (.lst (cells'.map V.int)) ∧ H2 st = some (.lst [.ref c, .int a', .int (b + 1), .int m']) ∧ Kept st c H H2 ∧ σ' = [some (.ref st), some (.int k), v2, none, none], ?_, ?_⟩
    · refine ⟨_, rfl, st, _, _, _, rfl, rfl, SqL.of hs1, atI_nat rfl, rfl, _, rfl, ?_⟩
      refine ite2 (fun h => ?_) (fun h => ?_)
      · refine ⟨_, rfl, st, _, _, _, rfl, rfl, SqL.of hs1, atI_nat rfl, by show 0 ≤ sizeLine; exact Nat.zero_le _, fun l nl => ?_⟩
        have e1 := same_upd (H := H1) (o := HO.lst []) nl
        refine ⟨.list (cells.map PyData.int), .list [], .lst (SqL.of (e1 _ _ hc1)) (dp_ints cells), .lst (SqL.of upd_same) .nil, shaped_ints cells, rfl, _, rfl, ?_⟩
        rw [eqv_nil]
        have hs2 := e1 _ _ hs1
        have hc2 := e1 _ _ hc1
        have kp2 := kp1.trans (Same.kept e1)
        generalize upd H1 l (.lst []) = H2 at hs2 hc2 kp2 ⊢
        clear e1 nl
        cases cells with
        | nil => exact ⟨a, m, [], none, ha, hm0, hm1, hc2, hs2, kp2, rfl⟩
        | cons x r =>
          refine iteT ?_
          refine ⟨_, rfl, st, _, _, _, rfl, rfl, SqL.of hs2, atI_nat rfl, .inl ⟨rfl, _, SqL.of hc2⟩, c, _, 0, 0, _, rfl, rfl, hc2, by decide, by decide, (ixN_seq (Evl.ixN_nat (j := 0) (by simp))).1, rfl, ?_⟩
          have hc3 : (upd H2 c (HO.lst ((List.map V.int (x :: r)).eraseIdx 0))) c = some (.lst (r.map V.int)) := upd_same
          have hs3 : (upd H2 c (HO.lst ((List.map V.int (x :: r)).eraseIdx 0))) st = some (.lst [.ref c, .int a, .int (b + 1), .int m]) := by rw [upd_ne ne.symm]; exact hs2
          have kp3 : Kept st c H (upd H2 c (HO.lst ((List.map V.int (x :: r)).eraseIdx 0))) := kp2.trans fun y o _ n2 e => by rw [upd_ne n2]; exact e
          generalize upd H2 c (HO.lst ((List.map V.int (x :: r)).eraseIdx 0)) = H3 at hc3 hs3 kp3 ⊢
          have m0 := Int.emod_nonneg (m * 8191 + x + 3) (show (2147483647 : Int) ≠ 0 by omega)
          have m1 := Int.emod_lt_of_pos (m * 8191 + x + 3) (show (0 : Int) < 2147483647 by omega)
          refine ⟨_, rfl, st, _, _, _, rfl, rfl, SqL.of hs3, atI_nat rfl, _, _, rfl, rfl, .inl ⟨by omega, by omega⟩, _, rfl, _, _, rfl, rfl, _, _, rfl, rfl, .inl ⟨_, rfl, ?_⟩⟩
          refine ⟨_, _, rfl, rfl, by omega, ?_⟩
          refine ⟨_, rfl, st, _, _, 3, rfl, rfl, hs3, rfl, ?_⟩
          refine ⟨_, rfl, _, _, rfl, rfl, ⟨by omega, by omega, by omega⟩, _, _, rfl, rfl, _, rfl, ?_⟩
          refine ite2 (fun hx => ?_) (fun hx => ?_)
          · have hx : (10 : Int) ^ (18 : Int).toNat ≤ x := of_decide_eq_true hx
            have hp : (0 : Int) ≤ 10 ^ (18 : Int).toNat := by decide
            refine ⟨_, rfl, _, rfl, st, _, _, 1, rfl, rfl, upd_same, rfl, ?_⟩
            refine ⟨x, _, r, some (.int x), by omega, m0, m1, ?_, upd_same, ?_, rfl⟩
            · rw [upd_ne ne, upd_ne ne]; exact hc3
            · exact kp3.trans fun y o n1 _ e => by rw [upd_ne n1, upd_ne n1]; exact e
          · refine ⟨_, rfl, st, _, _, 1, rfl, rfl, upd_same, rfl, ?_⟩
            refine ⟨0, _, r, some (.int x), by omega, m0, m1, ?_, upd_same, ?_, rfl⟩
            · rw [upd_ne ne, upd_ne ne]; exact hc3
            · exact kp3.trans fun y o n1 _ e => by rw [upd_ne n1, upd_ne n1]; exact e
      · exact ⟨a, m, cells, none, ha, hm0, hm1, hc1, hs1, kp1, rfl⟩
    · rintro σ' H2 ⟨a', m', cells', v2, ha', hm0', hm1', hc2, hs2, kp2, rfl⟩
      refine ⟨_, rfl, st, _, _, _, rfl, rfl, SqL.of hs2, atI_nat rfl, _, _, rfl, rfl, _, rfl, ?_⟩
      refine ite2 (fun h => ?_) (fun h => ?_)
      · have h := of_decide_eq_true h
        refine ⟨_, rfl, st, _, _, _, rfl, rfl, SqL.of hs2, atI_nat rfl, .inl ⟨_, rfl, ?_⟩⟩
        refine ⟨_, rfl, _, _, rfl, rfl, hk0, ?_⟩
        refine ⟨_, rfl, st, _, _, _, rfl, rfl, SqL.of hs2, atI_nat rfl, ?_⟩
        refine ⟨_, rfl, _, _, rfl, rfl, ⟨hk0, by omega⟩, ?_⟩
        refine ⟨_, rfl, st, _, _, 1, rfl, rfl, hs2, rfl, ?_⟩
        refine ⟨_, rfl, ?_⟩
        refine q (a' % k) _ (Int.emod_nonneg _ (by omega)) (Int.emod_lt_of_pos _ hk0) ⟨ne, cells', a' / k, b + 1, m', by rw [upd_ne ne]; exact hc2, upd_same, Int.ediv_nonneg ha' (by omega), by omega, by omega, hm0', hm1'⟩ (kp2.trans fun x o n1 _ e => by rw [upd_ne n1]; exact e)
      · refine ⟨_, rfl, st, _, _, _, rfl, rfl, SqL.of hs2, atI_nat rfl, ?_⟩
        refine ⟨_, rfl, st, _, _, _, rfl, rfl, SqL.of hs2, atI_nat rfl, _, _, rfl, rfl, .inl ⟨by omega, by omega⟩, ?_⟩
        refine ⟨_, _, rfl, rfl, _, _, rfl, rfl, _, _, rfl, rfl, ⟨by omega, by omega, by omega⟩, .inl ⟨_, rfl, ?_⟩⟩
        refine ⟨_, _, rfl, rfl, by omega, ?_⟩
        have d0 := Int.emod_nonneg ((m' + 7919 * (b + 1) + 104729) ^ (5 : Int).toNat) (show (2147483629 : Int) ≠ 0 by omega)
        have d1 := Int.emod_lt_of_pos ((m' + 7919 * (b + 1) + 104729) ^ (5 : Int).toNat) (show (0 : Int) < 2147483629 by omega)
        generalize (m' + 7919 * (b + 1) + 104729) ^ (5 : Int).toNat % 2147483629 = mx at d0 d1 ⊢
        refine ⟨_, rfl, _, _, rfl, rfl, .inl ⟨by omega, by omega⟩, ?_⟩
        refine ⟨_, rfl, st, _, _, _, rfl, rfl, SqL.of hs2, atI_nat rfl, _, _, rfl, rfl, .inl ⟨by omega, by omega⟩, ?_⟩
        refine ⟨_, _, rfl, rfl, _, _, rfl, rfl, _, _, rfl, rfl, ⟨by omega, by omega, by omega⟩, .inl ⟨_, rfl, ?_⟩⟩
        refine ⟨_, _, rfl, rfl, by omega, ?_⟩
        refine ⟨_, rfl, _, _, rfl, rfl, hk0, ?_⟩
        exact q _ _ (Int.emod_nonneg _ (by omega)) (Int.emod_lt_of_pos _ hk0) ⟨ne, cells', a', b + 1, m', hc2, hs2, ha', by omega, by omega, hm0', hm1'⟩ kp2
theorem scPick : FnScope ["_law_stream", "_law_some"] ["_law_stream", "_law_some"] (defScope (topS 83)) := ⟨rfl, rfl, rfl, by decide +kernel, rfl, by decide +kernel, by decide +kernel⟩
theorem pk_len {H : Hp} {st c : Addr} {x : V} {len : Nat} {f : Nat → V} (p : Pk K H st c x len f) : LenV K x H len := by
  cases p with
  | lst h => exact .inl ⟨_, h, rfl⟩
  | tup h => exact .inr ⟨_, h, rfl⟩
  | str hz => exact ⟨hz, rfl⟩
theorem pk_at {H H' : Hp} {st c : Addr} {x : V} {len : Nat} {f : Nat → V} {j : Nat} {Q : VK} (p : Pk K H st c x len f) (k : Kept st c H H') (hj : j < len) (q : Q (f j) H') : rIx K x (.int (j : Int)) H' Q := by
  have sq : ∀ {a : Addr} {u : HO}, Rd H a u → a ≠ st → a ≠ c → Rd H' a u := fun h n1 n2 => h.elim (fun h => .inl (k _ _ n1 n2 h)) fun ⟨o, h⟩ => .inr ⟨o, k _ _ n1 n2 h⟩
  cases p with
  | lst h n1 n2 e => exact .inl ⟨_, _, _, _, rfl, rfl, h.imp (fun h => sq h n1 n2) id, atI_nat (e j hj), q⟩
  | tup h n1 n2 e => exact .inr (.inl ⟨_, _, _, _, rfl, rfl, h.imp (fun h => sq h n1 n2) id, atI_nat (e j hj), q⟩)
  | str hz e =>
    obtain ⟨ch, h1, h2⟩ := e j hj
    rw [h2] at q
    exact .inr (.inr ⟨_, _, ch, rfl, rfl, hz, atI_nat h1, q⟩)
theorem ok_pick (B : Bi mg) {f f1 : Addr} {fd fd1 : FuncData} (c__law_draw : Cal P w K mg base CX0 1 "_law_draw" f1 fd1 ["_law_stream", "_law_many"] spDraw) (F : Fun K "_law_pick" "_law_pick" (topS 83) f fd) : FnOk P w K mg base CX0 2 f fd ["_law_stream", "_law_some"] (spPick K) := by
  refine F.ok scPick (fun vs H Q E h => ?_) (fun cdv A outer s H vs Q E hr h => ?_)
  · obtain ⟨st, c, n, len, x, f, rfl, _⟩ := h
    rfl
  · obtain ⟨st, c, n, len, x, f, rfl, S, hn, h0, h1, pk, q⟩ := h
    have hr__law_draw := hr
    have nd := scPick.nd
    refine ⟨_, (pss_one (ps_ret (pe_ix (kIx K) (pv 1) (pe_call c__law_draw.ok hr__law_draw (by rfl) c__law_draw.g c__law_draw.kp c__law_draw.b .nil pass0 (pa_cons (pv 0) (pa_cons (pe_callB (kLen K) (by rfl) B.len PySem.boot_len (pa_cons (pv 1) pa_nil)) pa_nil))) (fun _ _ => rfl)))), ?_⟩
    refine ⟨_, rfl, _, rfl, _, rfl, _, _, rfl, pk_len pk, st, c, n, _, rfl, S, hn, by omega, by omega, fun d H' d0 d1 S' kp => ?_⟩
    have e : ((d.toNat : Nat) : Int) = d := Int.toNat_of_nonneg d0
    rw [← e]
    exact pk_at pk kp (by omega) (q d.toNat H' (by omega) S' kp)
end
end Bk

namespace Bk
open PySem PySem.Spec PyProof.Rows L2
open TL (tl)
section
variable {P : Program} {w : World} {K : PySem.W.Frag} {mg : Str → Option Value} {base : Heap}
theorem width_at : ∀ j : Nat, j < 6 → ∃ wd : Nat, ([V.int 1, V.int 1, V.int 2, V.int 3, V.int 5, V.int 8] : List V)[j]? = some (V.int (wd : Int)) ∧ 1 ≤ wd ∧ wd ≤ 8
  | 0, _ => ⟨1, rfl, by decide, by decide⟩
  | 1, _ => ⟨1, rfl, by decide, by decide⟩
  | 2, _ => ⟨2, rfl, by decide, by decide⟩
  | 3, _ => ⟨3, rfl, by decide, by decide⟩
  | 4, _ => ⟨5, rfl, by decide, by decide⟩
  | 5, _ => ⟨8, rfl, by decide, by decide⟩
  | n + 6, h => absurd h (by omega)
/-- a text of one sign -/
def sg (c : Nat) : Str := ⟨#[c]⟩
theorem join_sg (cs : List Nat) : (Txt.join (Str.ofString "") (cs.map sg)).cps.toList = cs := by
  show TL.tl (Txt.join (Str.ofString "") (cs.map sg)) = cs
  rw [TL.join_eq, TL.tl_join, List.map_map]
  rw [show TL.tl (Str.ofString "") = [] from rfl]
  have h : ∀ l : List Nat, TL.joinL [] (l.map (TL.tl ∘ sg)) = l := by
    intro l
    induction l with
    | nil => rfl
    | cons a r ih =>
      cases r with
      | nil => rfl
      | cons b r =>
        show [a] ++ ([] ++ TL.joinL [] ((b :: r).map (TL.tl ∘ sg))) = a :: b :: r
        rw [ih]
        rfl
  exact h cs
theorem isName_of {z : Str} (h1 : 1 ≤ z.cps.toList.length) (h2 : z.cps.toList.length ≤ 8) (h : ∀ c ∈ z.cps.toList, c ∈ lettersL) : isNameS z = true := by
  have e : z.length = z.cps.toList.length := by simp [Str.length]
  unfold isNameS
  rw [e, decide_eq_true h1, decide_eq_true h2, List.all_eq_true.mpr fun c hc => decide_eq_true (h c hc)]
  rfl
theorem scName : FnScope ["_law_stream", "_law_width", "_law_k"] ["_law_stream"] (defScope (topS 86)) := ⟨rfl, rfl, rfl, by decide +kernel, rfl, by decide +kernel, by decide +kernel⟩
theorem ok_name (B : Bi mg) {f f1 f2 : Addr} {fd fd1 fd2 : FuncData} (c__law_draw : Cal P w K mg base CX0 1 "_law_draw" f1 fd1 ["_law_stream", "_law_many"] spDraw) (c__law_pick : Cal P w K mg base CX0 2 "_law_pick" f2 fd2 ["_law_stream", "_law_some"] (spPick K))
    (F : Fun K "_law_name" "_law_name" (topS 86) f fd) : FnOk P w K mg base CX0 3 f fd ["_law_stream"] spName := by
  refine F.ok scName (fun vs H Q E h => ?_) (fun cdv A outer s H vs Q E hr h => ?_)
  · obtain ⟨st, c, n, rfl, _⟩ := h
    rfl
  · obtain ⟨st, c, n, rfl, S, hn, q⟩ := h
    have hr__law_pick := hr
    have hr__law_draw : Room 1 _ := hr.mono (by decide)
    have nd := scName.nd
    refine ⟨_, (Evl.pss_cut (ps_set (i := 1) nd rfl (Or.inl rfl) (pe_ix (kIxL K) (pe_lst (pa_cons pe_int (pa_cons pe_int (pa_cons pe_int (pa_cons pe_int (pa_cons pe_int (pa_cons pe_int pa_nil))))))) (pe_call c__law_draw.ok hr__law_draw (by rfl) c__law_draw.g c__law_draw.kp c__law_draw.b .nil pass0 (pa_cons (pv 0) (pa_cons pe_int pa_nil))) (fun _ _ => rfl)))
      (pss_one (ps_ret (pe_join pe_str (pe_lc (own := [("_law_k", 2)]) rfl nd (pi_range1 (by rfl) B.range (pa_cons (pv 1) pa_nil)) (blkOk_by (N := ["_law_stream", "_law_width", "_law_k"]) (sc := defScope (topS 86)) (by decide +kernel)) (fun _ _ _ _ _ => (pg_name (i := 2) nd rfl (Or.inl rfl))) (fun _ _ _ _ _ => pts_nil) (fun _ _ _ _ _ => (pe_call c__law_pick.ok hr__law_pick (by rfl) c__law_pick.g c__law_pick.kp c__law_pick.b .nil pass0 (pa_cons (pv 0) (pa_cons pe_str pa_nil))))))))), ?_⟩
    refine ⟨fun σ' H1 => ∃ wd : Nat, 1 ≤ wd ∧ wd ≤ 8 ∧ σ' = [some (.ref st), some (.int (wd : Int)), none] ∧ Strm H1 st c (n + 1) ∧ Kept st c H H1, ?_, ?_⟩
    · refine ⟨by show 6 ≤ sizeLine; decide, fun l nl => ?_⟩
      have k1 := same_upd (o := HO.lst [V.int 1, V.int 1, V.int 2, V.int 3, V.int 5, V.int 8]) nl
      obtain ⟨n1, n2⟩ := S.notfree nl
      refine ⟨_, rfl, st, c, n, 6, rfl, S.same k1, by omega, by omega, by omega, fun d H1 d0 d1 S1 kp => ?_⟩
      obtain ⟨wd, e1, w1, w8⟩ := width_at d.toNat (by omega)
      refine ⟨l, _, _, _, rfl, rfl, SqL.of (kp l _ n1 n2 upd_same), ?_, wd, w1, w8, rfl, S1, (Same.kept k1).trans kp⟩
      rw [← Int.toNat_of_nonneg d0]
      exact atI_nat e1
    · rintro σ1 H1 ⟨wd, w1, w8, rfl, S1, k1⟩
      refine ⟨⟨_, rfl⟩, _, rfl, (wd : Int), rfl, by omega, by omega, fun D nD => ?_⟩
      obtain ⟨n1, n2⟩ := S1.notfree nD
      have hD0 := k1.free nD n1 n2
      refine lc_it walk_range (fun i H2 => ∃ cs : List Nat, cs.length = i ∧ (∀ x ∈ cs, x ∈ lettersL) ∧ H2 D = some (.lst ((cs.map sg).map V.str)) ∧ Strm H2 st c (n + 1 + i) ∧ Kept st c H H2) ?_ (fun _ _ _ _ => trivial) ?_ ?_
      · exact ⟨[], rfl, (fun x z => nomatch z), upd_same, S1.same (same_upd nD), k1.trans (Same.kept (same_upd nD))⟩
      · rintro i x H2 H3 hi ⟨cs, e1, e2, e3, S2, k2⟩ ⟨rfl, rfl⟩
        have hi : i < wd := by omega
        refine ⟨rfl, yes2 ?_⟩
        refine ⟨_, rfl, st, c, n + 1 + i, 26, _, fun j => V.str (sg (lettersL.getD j 0)), rfl, S2, by omega, by omega, by omega, ?_, fun j H4 hj S4 k4 => ?_⟩
        · refine Pk.str (z := Str.ofString "abcdefghijklmnopqrstuvwxyz") (by decide +kernel) fun j hj => ⟨lettersL.getD j 0, ?_, rfl⟩
          have hj : j < lettersL.length := hj
          show lettersL[j]? = _
          rw [List.getD_eq_getElem?_getD, List.getElem?_eq_getElem hj]
          rfl
        · refine ⟨_, k4 D _ n1 n2 e3, ?_, cs ++ [lettersL.getD j 0], by rw [List.length_append, e1]; rfl, ?_, ?_, ?_, ?_⟩
          · rw [List.length_map, List.length_map]
            exact Evl.sz_lt (by omega)
          · intro x hx
            rcases List.mem_append.mp hx with hx | hx
            · exact e2 x hx
            · rw [List.mem_singleton.mp hx]
              have hj : j < lettersL.length := hj
              rw [List.getD_eq_getElem?_getD, List.getElem?_eq_getElem hj]
              exact List.getElem_mem hj
          · rw [upd_same, List.map_append, List.map_append]
            rfl
          · exact S4.upd n1 n2
          · exact (k2.trans k4).grow hD0
      · rintro H2 ⟨cs, e1, e2, e3, S2, k2⟩
        have e1 : cs.length = wd := by omega
        refine ⟨_, D, cs.map sg, rfl, rfl, .inl (SqL.of e3), ?_, ?_⟩
        · have h1 : ∀ l : List Nat, ((l.map sg).map (·.length)).sum = l.length := by
            intro l
            induction l with
            | nil => rfl
            | cons a r ih =>
              simp only [List.map_cons, List.sum_cons, List.length_cons, ih]
              show 1 + r.length = r.length + 1
              omega
          rw [h1, List.length_map, show (Str.ofString "").length = 0 from rfl]
          omega
        · refine q _ H2 (isName_of ?_ ?_ ?_) (S2.more (by omega)) k2 <;> rw [join_sg]
          · omega
          · omega
          · exact e2
end
end Bk

namespace Bk
open PySem PySem.Spec PyProof.Rows L2
/-- the names that are taken where the drawn one stands already -/
def backNames : List Str := (Str.ofString "abcdefghijklmnop").cps.toList.map fun c => sg c ++ Str.ofString "jq"
theorem back_nodup : backNames.Nodup := by decide +kernel
theorem back_len : backNames.length = 16 := by decide +kernel
theorem back_names : ∀ z ∈ backNames, isNameS z = true := by decide +kernel
theorem back_sizes : ∀ z ∈ backNames, z.length ≤ 100 := by decide +kernel
/-- the first name that is not yet among those found -/
theorem fresh_name (z : Str) (hz : isNameS z = true) (found : List Str) (hf : found.length < 16) : ∃ y r, (z :: backNames).filter (fun x => decide (¬ x ∈ found)) = y :: r ∧ isNameS y = true ∧ y ∉ found := by
  cases e : (z :: backNames).filter (fun x => decide (¬ x ∈ found)) with
  | nil =>
    have h : ∀ x ∈ backNames, x ∈ found := by
      intro x hx
      by_cases h : x ∈ found
      · exact h
      · have : x ∈ (z :: backNames).filter (fun x => decide (¬ x ∈ found)) := List.mem_filter.mpr ⟨List.mem_cons_of_mem _ hx, decide_eq_true h⟩
        rw [e] at this
        cases this
    have := pigeon backNames found back_nodup h
    rw [back_len] at this
    omega
  | cons y r =>
    have hy : y ∈ (z :: backNames).filter (fun x => decide (¬ x ∈ found)) := by rw [e]; exact List.mem_cons_self
    obtain ⟨h1, h2⟩ := List.mem_filter.mp hy
    refine ⟨y, r, rfl, ?_, of_decide_eq_true h2⟩
    rcases List.mem_cons.mp h1 with h | h
    · rw [h]; exact hz
    · exact back_names y h
section
variable {P : Program} {w : World} {K : PySem.W.Frag} {mg : Str → Option Value} {base : Heap}
theorem scNames : FnScope ["_law_stream", "_law_many", "_law_found", "_law_k", "_law_spare_here", "_law_letter", "_law_x"] ["_law_stream", "_law_many"] (defScope (topS 87)) := ⟨rfl, rfl, rfl, by decide +kernel, rfl, by decide +kernel, by decide +kernel⟩
theorem ok_names (B : Bi mg) {f f1 : Addr} {fd fd1 : FuncData} (c__law_name : Cal P w K mg base CX0 3 "_law_name" f1 fd1 ["_law_stream"] spName)
    (F : Fun K "_law_names" "_law_names" (topS 87) f fd) : FnOk P w K mg base CX0 4 f fd ["_law_stream", "_law_many"] (spNames K) := by
  refine F.ok scNames (fun vs H Q E h => ?_) (fun cdv A outer s H vs Q E hr h => ?_)
  · obtain ⟨st, c, n, many, rfl, _⟩ := h
    rfl
  · obtain ⟨st, c, n, many, rfl, S, hn, hm, q⟩ := h
    have hr__law_name := hr
    have nd := scNames.nd
    refine ⟨_, (pss_cons (ps_set (i := 2) nd rfl (Or.inr rfl) (pe_lst pa_nil))
      (pss_cons (ps_for PassesOwn.never rfl (pi_range1 (by rfl) B.range (pa_cons (pv 1) pa_nil)) (pg_name (i := 3) nd rfl (Or.inl rfl)) (Evl.pss_cut (ps_set (i := 4) nd rfl (Or.inl rfl) (pe_op op_cat (pe_lst (pa_cons (pe_call c__law_name.ok hr__law_name (by rfl) c__law_name.g c__law_name.kp c__law_name.b .nil pass0 (pa_cons (pv 0) pa_nil)) pa_nil)) (pe_lc (own := [("_law_letter", 5)]) rfl nd (pi_str pe_str) (blkOk_by (N := ["_law_stream", "_law_many", "_law_found", "_law_k", "_law_spare_here", "_law_letter", "_law_x"]) (sc := defScope (topS 87)) (by decide +kernel)) (fun _ _ _ _ _ => (pg_name (i := 5) nd rfl (Or.inl rfl))) (fun _ _ _ _ _ => pts_nil) (fun _ _ _ _ _ => (pe_op op_add_str (pv 5) pe_str)))))
      (pss_one (ps_expr (pe_bm PySem.F.plainAttrs_list PySem.F.slot_list_append PySem.F.type_list_append mt_append (pv 2) (pa_cons (pe_ix (kIxL K) (pe_lc (own := [("_law_x", 6)]) rfl nd (kPiL K (pv 4)) (blkOk_by (N := ["_law_stream", "_law_many", "_law_found", "_law_k", "_law_spare_here", "_law_letter", "_law_x"]) (sc := defScope (topS 87)) (by decide +kernel)) (fun _ _ _ _ _ => (pg_name (i := 6) nd rfl (Or.inl rfl))) (fun _ _ _ _ _ => (pts_one (pt_cmpR (kNotIn K) (pv 6) (pv 2) rfl))) (fun _ _ _ _ _ => (pv 6))) pe_int (fun _ _ => rfl)) pa_nil))))))
      (pss_one (ps_ret (pv 2))))), ?_⟩
    refine ⟨by show 0 ≤ sizeLine; exact Nat.zero_le _, fun l nl => ?_⟩
    obtain ⟨l1, l2⟩ := S.notfree nl
    refine ⟨_, rfl, (many : Int), rfl, by omega, by omega, ?_⟩
    refine for_it walk_range (fun i σ H1 => ∃ (zs : List Str) (v3 v4 : Option V), σ = [some (.ref st), some (.int (many : Int)), some (.ref l), v3, v4, none, none] ∧ zs.length = i ∧ zs.Nodup ∧ (∀ z ∈ zs, isNameS z = true) ∧
      H1 l = some (.lst (zs.map V.str)) ∧ Strm H1 st c (n + 9 * i) ∧ Kept st c H H1) ?_ (fun _ _ _ _ _ => trivial) ?_ ?_
    · exact ⟨[], none, none, rfl, rfl, List.nodup_nil, (fun _ z => nomatch z), upd_same, S.same (same_upd nl), Same.kept (same_upd nl)⟩
    · rintro i x σ H1 H2 hi ⟨zs, v3, v4, rfl, z1, z2, z3, z4, S1, k1⟩ ⟨rfl, rfl⟩
      have hi : i < many := by omega
      -- the spare ones
      refine ⟨fun σ' H3 => ∃ (p : Addr) (z : Str), isNameS z = true ∧ σ' = [some (.ref st), some (.int (many : Int)), some (.ref l), some (.int (0 + (i : Int))), some (.ref p), none, none] ∧ p ≠ l ∧
        H3 p = some (.lst ((z :: backNames).map V.str)) ∧ H3 l = some (.lst (zs.map V.str)) ∧ Strm H3 st c (n + 9 * i + 9) ∧ Kept st c H H3, ?_, ?_⟩
      · refine ⟨_, rfl, st, c, n + 9 * i, rfl, S1, by omega, fun z H3 hz S3 k3 => ?_⟩
        refine ⟨by show 1 ≤ sizeLine; decide, fun a na => ?_⟩
        have ka := same_upd (o := HO.lst [V.str z]) na
        obtain ⟨a1, a2⟩ := S3.notfree na
        have S4 : Strm (upd H3 a (.lst [V.str z])) st c (n + 9 * i + 9) := S3.same ka
        have zl : (upd H3 a (.lst [V.str z])) l = some (.lst (zs.map V.str)) := ka _ _ (k3 l _ l1 l2 z4)
        refine ⟨_, rfl, fun D nD => lc_it walk_str (Upto (upd H3 a (.lst [V.str z])) D (Str.ofString "abcdefghijklmnop").cps.toList fun ch => V.str (sg ch ++ Str.ofString "jq")) (.zero nD) (fun _ _ _ _ => trivial) ?_ ?_⟩
        · rintro j x H5 H6 hj u ⟨rfl, ch, hc, rfl⟩
          refine ⟨rfl, yes2 ?_⟩
          have hc' : (Str.ofString "abcdefghijklmnop").cps.toList[j]? = some ch := by rw [← hc]; simp
          exact ⟨_, rfl, _, _, rfl, rfl, (by show 3 ≤ sizeLine; decide), u.next nD hc' (Same.refl _) (by decide)⟩
        · intro H5 u
          have eD := u.all (by simp)
          have sm := u.sm
          refine ⟨a, D, [V.str z], backNames.map V.str, rfl, rfl, sm _ _ upd_same, ?_, ?_, fun p np => ?_⟩
          · rw [eD]
            unfold backNames
            rw [List.map_map]
            rfl
          · rw [List.length_map, back_len]
            show 1 + 16 ≤ sizeLine
            decide
          · have sp := same_upd (o := HO.lst ([V.str z] ++ backNames.map V.str)) np
            refine ⟨p, z, hz, rfl, (ne_of_none (sm _ _ zl) np).symm, upd_same, sp _ _ (sm _ _ zl), (S4.same sm).same sp, ((k1.trans k3).trans (Same.kept ka)).trans ((Same.kept sm).trans (Same.kept sp))⟩
      · rintro σ2 H3 ⟨p, z, hz, rfl, npl, ep, el, S3, k3⟩
        obtain ⟨y, r, ey, hy, hny⟩ := fresh_name z hz zs (by omega)
        refine ⟨_, rfl, .inl ⟨rfl, _, SqL.of el⟩, ?_⟩
        refine ⟨_, rfl, p, rfl, ⟨_, SqL.of ep⟩, fun D nD => lc_it (walk_list (xs := (z :: backNames).map V.str)) (UptoF H3 D (z :: backNames) V.str fun x => decide (¬ x ∈ zs)) (.zero nD) (fun j H4 _ u => SqL.of (u.sm _ _ ep)) ?_ ?_⟩
        · rintro j x H4 H5 hj u ⟨rfl, hx⟩
          rw [List.getElem?_map] at hx
          obtain ⟨y0, hy0, rfl⟩ := Option.map_eq_some_iff.mp hx
          refine ⟨rfl, ?_⟩
          refine ⟨_, rfl, _, rfl, l, _, rfl, .inl (SqL.of (u.sm _ _ el)), rfl, flat_strs _, _, rfl, ?_⟩
          rw [inV_strs]
          by_cases hm : y0 ∈ zs
          · rw [decide_eq_true hm]
            refine iteF ?_
            exact u.no hy0 (by simp [hm]) (Same.refl _)
          · rw [decide_eq_false hm]
            refine iteT ?_
            exact ⟨_, rfl, u.yes nD hy0 (by simp [hm]) (Same.refl _) (by rw [List.length_cons, back_len]; decide)⟩
        · intro H4 u
          have eD := u.all (by rw [List.length_map])
          rw [ey] at eD
          have el4 := u.sm _ _ el
          refine ⟨D, _, 0, V.str y, rfl, rfl, SqL.of eD, atI_nat (j := 0) rfl, l, _, _, rfl, rfl, el4, ?_, ?_⟩
          · rw [List.length_map]
            exact Evl.sz_lt (by omega)
          · have S4 := S3.same u.sm
            refine ⟨zs ++ [y], _, _, rfl, by rw [List.length_append, z1]; rfl, ?_, ?_, ?_, ?_, ?_⟩
            · rw [List.nodup_append]
              exact ⟨z2, (by simp), fun a ha b hb e => hny (by rw [List.mem_singleton.mp hb] at e; rw [← e]; exact ha)⟩
            · intro x hx
              rcases List.mem_append.mp hx with hx | hx
              · exact z3 x hx
              · rw [List.mem_singleton.mp hx]; exact hy
            · rw [upd_same, List.map_append]
              rfl
            · exact (S4.upd l1 l2).more (by omega)
            · exact (k3.trans (Same.kept u.sm)).grow nl
    · rintro σ H1 ⟨zs, v3, v4, rfl, z1, z2, z3, z4, S1, k1⟩
      have z1 : zs.length = many := by omega
      exact ⟨_, rfl, q l zs H1 nl z1 z2 z3 (S1.more (by omega)) k1 z4⟩
end
end Bk

namespace Bk
open PySem PySem.Spec PyProof.Rows L2
section
variable {K : PySem.W.Frag}
/-! ### walks -/
theorem walk_enumT {a : Addr} {xs : List V} : Walk (IteT K a) xs.length (fun H => SqT K H a xs) (YPair (fun i => some (.int (i : Nat))) (fun i => xs[i]?)) := by
  refine ⟨fun i _ hi q => ⟨xs, xs[i], q, by simp [hi]⟩, fun _ q => ⟨xs, q, rfl⟩, fun i H v H' _ q y => ?_⟩
  obtain ⟨T, x, h1, h2, h3, h4⟩ := y
  exact ⟨T, .int (i : Nat), x, h1, h2, h3, rfl, h4 xs q⟩
/-- enumerate of a list or a tuple: whichever it is -/
theorem enS_of {a : Addr} {xs : List V} {H : Hp} {R : It → Hp → Prop} (hS : SqL K H a xs ∨ SqT K H a xs)
    (h : ∀ (J : It) (G : Hp → Prop), Walk J xs.length G (YPair (fun i => some (.int (i : Nat))) (fun i => xs[i]?)) → (∀ H', Same H H' → G H') → R J H) :
    (∃ ys, SqL K H a ys ∧ R (Ite K a) H) ∨ (∃ ys, SqT K H a ys ∧ R (IteT K a) H) := by
  rcases hS with hS | hS
  · exact .inl ⟨xs, hS, h _ _ walk_enum fun H' e => e.seq hS⟩
  · exact .inr ⟨xs, hS, h _ _ walk_enumT fun H' e => Same.sqt e hS⟩
/-- for at, x in enumerate(xs), xs in the slot i: a list or a tuple -/
theorem for_enS {i : Nat} {a : Addr} {xs : List V} {g : TG} {tb : TS} {D : Ends} {σ : L2.St} {H : Hp} (hv : σ[i]? = some (some (.ref a))) (hS : SqL K H a xs ∨ SqT K H a xs) (Pv : Nat → L2.St → Hp → Prop) (h0 : Pv 0 σ H) (hG : ∀ k σ' H', Pv k σ' H' → Same H H')
    (hs : ∀ k x σ' H' H2, k < xs.length → Pv k σ' H' → YPair (fun j => some (.int (j : Nat))) (fun j => xs[j]?) k H' x H2 → g x σ' H2 fun σ2 H3 => tb { D with nx := Pv (k + 1), ct := Pv (k + 1), bk := D.nx } σ2 H3) (hd : ∀ σ' H', Pv xs.length σ' H' → D.nx σ' H') :
    tFor (iEnS K (tCons (tVar i) tNil)) g tb D σ H :=
  ⟨_, hv, a, rfl, enS_of (R := fun J H1 => ∃ W : Nat → Nat → L2.St → Hp → Prop, (∃ m, W 0 m σ H1) ∧ ∀ i m σ H, W i m σ H →
      (J.stop i H ∧ D.nx σ H) ∨ (J.go i H ∧ ∃ N : L2.St → Hp → Prop, (∀ σ' H', N σ' H' → ∃ m', m' < m ∧ W (i + 1) m' σ' H') ∧ ∀ x H', J.yld i H x H' → g x σ H' fun σ2 H2 => tb { D with nx := N, ct := N, bk := D.nx } σ2 H2))
    hS fun J G wk kG => for_it wk Pv h0 (fun k σ' H' _ p => kG H' (hG k σ' H' p)) hs hd⟩
section
variable {J : It} {n : Nat} {G : Hp → Prop} {Y : Nat → Hp → V → Hp → Prop}
/-- the inner walk of a comprehension with two fors -/
theorem inner_it (w : Walk J n G Y) {g1 : TG} {tt1 : TT} {te : TE} {σ2 : L2.St} {vs1 : List Nat} {D : Addr} {Nx : Hp → Prop} {H0 : Hp} (Pw : Nat → Hp → Prop) (h0 : Pw 0 H0) (hG : ∀ j H, j ≤ n → Pw j H → G H)
    (hs : ∀ j x H H', j < n → Pw j H → Y j H x H' → g1 x (wipe σ2 vs1) H' fun σ3 H5 => wipe σ3 vs1 = wipe σ2 vs1 ∧ tt1 σ3 H5 fun b H6 =>
      if b = true then te σ3 H6 fun y H7 => ∃ acc, H7 D = some (.lst acc) ∧ acc.length < sizeLine ∧ Pw (j + 1) (upd H7 D (.lst (acc ++ [y]))) else Pw (j + 1) H6) (hd : ∀ H, Pw n H → Nx H) :
    ∃ W1 : Nat → Nat → Hp → Prop, (∃ m, W1 0 m H0) ∧ ∀ j k H, W1 j k H →
      (J.stop j H ∧ Nx H) ∨ (J.go j H ∧ ∃ Nx1 : Hp → Prop, (∀ H', Nx1 H' → ∃ k', k' < k ∧ W1 (j + 1) k' H') ∧ ∀ x H', J.yld j H x H' → g1 x (wipe σ2 vs1) H' fun σ3 H5 => wipe σ3 vs1 = wipe σ2 vs1 ∧ tt1 σ3 H5 fun b H6 =>
        if b = true then te σ3 H6 fun y H7 => ∃ acc, H7 D = some (.lst acc) ∧ acc.length < sizeLine ∧ Nx1 (upd H7 D (.lst (acc ++ [y]))) else Nx1 H6) := by
  refine ⟨fun j k H => k = n - j ∧ j ≤ n ∧ Pw j H, ⟨n, rfl, Nat.zero_le _, h0⟩, ?_⟩
  rintro j k H ⟨rfl, hj, p⟩
  rcases Nat.lt_or_ge j n with hlt | hge
  · exact .inr ⟨w.goes j H hlt (hG j H hj p), Pw (j + 1), fun H' p' => ⟨n - (j + 1), by omega, rfl, hlt, p'⟩, fun x H' y => hs j x H H' hlt p (w.yields j H x H' hlt (hG j H hj p) y)⟩
  · obtain rfl : j = n := by omega
    exact .inl ⟨w.stops H (hG j H hj p), hd H p⟩
/-- the outer walk -/
theorem outer_it (w : Walk J n G Y) {g : TG} {tt : TT} {σ : L2.St} {vs : List Nat} {H1 : Hp} {D : Addr} {Qd : Hp → Prop} {In : L2.St → Hp → (Hp → Prop) → Prop} (Pv : Nat → Hp → Prop) (h0 : Pv 0 (upd H1 D (.lst []))) (hG : ∀ i H, i ≤ n → Pv i H → G H)
    (hs : ∀ i x H H', i < n → Pv i H → Y i H x H' → g x (wipe σ vs) H' fun σ2 H2 => wipe σ2 vs = wipe σ vs ∧ tt σ2 H2 fun b H3 => if b = true then In σ2 H3 (Pv (i + 1)) else Pv (i + 1) H3) (hd : ∀ H, Pv n H → Qd H) :
    ∃ W : Nat → Nat → Hp → Prop, (∃ m, W 0 m (upd H1 D (.lst []))) ∧ ∀ i m H, W i m H →
      (J.stop i H ∧ Qd H) ∨ (J.go i H ∧ ∃ Nx : Hp → Prop, (∀ H', Nx H' → ∃ m', m' < m ∧ W (i + 1) m' H') ∧ ∀ x H', J.yld i H x H' → g x (wipe σ vs) H' fun σ2 H2 => wipe σ2 vs = wipe σ vs ∧ tt σ2 H2 fun b H3 =>
        if b = true then In σ2 H3 Nx else Nx H3) := by
  refine ⟨fun i m H => m = n - i ∧ i ≤ n ∧ Pv i H, ⟨n, rfl, Nat.zero_le _, h0⟩, ?_⟩
  rintro i m H ⟨rfl, hi, p⟩
  rcases Nat.lt_or_ge i n with hlt | hge
  · exact .inr ⟨w.goes i H hlt (hG i H hi p), Pv (i + 1), fun H' p' => ⟨n - (i + 1), by omega, rfl, hlt, p'⟩, fun x H' y => hs i x H H' hlt p (w.yields i H x H' hlt (hG i H hi p) y)⟩
  · obtain rfl : i = n := by omega
    exact .inl ⟨w.stops H (hG i H hi p), hd H p⟩
/-- a dict comprehension by tuples -/
theorem dcT_it (w : Walk J n G Y) {g : TG} {tk tv : TE} {vs : List Nat} {σ : L2.St} {H1 : Hp} {D : Addr} {Qd : Hp → Prop} (Pv : Nat → Hp → Prop) (h0 : Pv 0 (upd H1 D (.dT []))) (hG : ∀ i H, i ≤ n → Pv i H → G H)
    (hs : ∀ i x H H', i < n → Pv i H → Y i H x H' → g x (wipe σ vs) H' fun σ2 H2 => wipe σ2 vs = wipe σ vs ∧
      tk σ2 H2 fun y H4 => tv σ2 H4 fun z H5 => ∃ kvs k b, y = .ref b ∧ H5 b = some (.tup (k.map kV)) ∧ H5 D = some (.dT kvs) ∧ kvs.length < sizeLine ∧ Pv (i + 1) (upd H5 D (.dT (putK kvs k z)))) (hd : ∀ H, Pv n H → Qd H) :
    ∃ W : Nat → Nat → Hp → Prop, (∃ m, W 0 m (upd H1 D (.dT []))) ∧ ∀ i m H, W i m H →
      (J.stop i H ∧ Qd H) ∨ (J.go i H ∧ ∃ Nx : Hp → Prop, (∀ H', Nx H' → ∃ m', m' < m ∧ W (i + 1) m' H') ∧ ∀ x H', J.yld i H x H' → g x (wipe σ vs) H' fun σ2 H2 => wipe σ2 vs = wipe σ vs ∧
        tk σ2 H2 fun y H4 => tv σ2 H4 fun z H5 => ∃ kvs k b, y = .ref b ∧ H5 b = some (.tup (k.map kV)) ∧ H5 D = some (.dT kvs) ∧ kvs.length < sizeLine ∧ Nx (upd H5 D (.dT (putK kvs k z)))) := by
  refine ⟨fun i m H => m = n - i ∧ i ≤ n ∧ Pv i H, ⟨n, rfl, Nat.zero_le _, h0⟩, ?_⟩
  rintro i m H ⟨rfl, hi, p⟩
  rcases Nat.lt_or_ge i n with hlt | hge
  · exact .inr ⟨w.goes i H hlt (hG i H hi p), Pv (i + 1), fun H' p' => ⟨n - (i + 1), by omega, rfl, hlt, p'⟩, fun x H' y => hs i x H H' hlt p (w.yields i H x H' hlt (hG i H hi p) y)⟩
  · obtain rfl : i = n := by omega
    exact .inl ⟨w.stops H (hG i H hi p), hd H p⟩
end
/-! ### slices -/
theorem sIx_nat' (n d k : Nat) (h : k ≤ n) : HT.sIx n d (some (k : Int)) = k := by
  rw [HT.sIx_nat]
  omega
theorem cut_to (xs : List V) (k : Nat) (h : k ≤ xs.length) : cutV xs none (some (k : Int)) = xs.take k := by
  unfold cutV
  rw [HT.sIx_none, sIx_nat' _ _ _ h]
  simp
theorem cut_mid (xs : List V) (i k : Nat) (h1 : i ≤ k) (h2 : k ≤ xs.length) : cutV xs (some (i : Int)) (some (k : Int)) = (xs.drop i).take (k - i) := by
  unfold cutV
  rw [sIx_nat' _ _ _ h2, sIx_nat' _ _ _ (by omega)]
/-! ### what first_wrong tells -/
def badAt (xs : List V) (most i : Nat) (x : V) : Bool := decide (i = most) || !isNameB x || inV x (xs.take i)
/-- the first place from i on that is wrong -/
def wrongFrom (xs : List V) (most : Nat) : Nat → List V → Option Nat
  | _, [] => none
  | i, x :: r => if badAt xs most i x = true then some i else wrongFrom xs most (i + 1) r
def firstWrong (xs : List V) (most : Nat) : Option Nat := if xs = [] then some 0 else wrongFrom xs most 0 xs
def optV : Option Nat → V
  | none => .non
  | some i => .int (i : Int)
theorem wrong_step {xs : List V} {most i : Nat} {x : V} (h : xs[i]? = some x) : wrongFrom xs most i (xs.drop i) = if badAt xs most i x = true then some i else wrongFrom xs most (i + 1) (xs.drop (i + 1)) := by
  obtain ⟨h1, rfl⟩ := List.getElem?_eq_some_iff.mp h
  rw [List.drop_eq_getElem_cons h1]
  rfl
theorem wrong_end {xs : List V} {most i : Nat} (h : xs.length ≤ i) : wrongFrom xs most i (xs.drop i) = none := by
  rw [List.drop_eq_nil_of_le h]
  rfl
theorem name_flat {x : V} (h : isNameB x = true) : flatV x = true := by
  cases x <;> first | rfl | cases h
theorem all_flat {xs : List V} {k : Nat} (h : ∀ j x, j < k → xs[j]? = some x → isNameB x = true) : (xs.take k).all flatV = true := by
  rw [List.all_eq_true]
  intro x hx
  obtain ⟨j, hj, e⟩ := List.mem_iff_getElem.mp hx
  rw [List.length_take] at hj
  refine name_flat (h j x (by omega) ?_)
  rw [List.getElem_take] at e
  rw [← e]
  exact List.getElem?_eq_getElem (by omega)
/-- a thing that is a list or a tuple of any objects, or neither -/
inductive Thing (K : PySem.W.Frag) (H : Hp) : V → Option (List V) → Prop where
  | seq {a : Addr} {xs : List V} (hS : SqL K H a xs ∨ H a = some (.tup xs)) (b : Sqs K H (.ref a) true) (hi : ∀ x ∈ xs, Itm K H x) (hl : xs.length ≤ 100000) : Thing K H (.ref a) (some xs)
  | no {x : V} (b : Sqs K H x false) : Thing K H x none
/-- what is wrong with a thing as the names of folders -/
def wrongOf (o : Option (List V)) (most : Nat) : Option Nat := match o with
  | none => some 0
  | some xs => firstWrong xs most
def spFirstWrong (K : PySem.W.Frag) : Sp := fun vs H Q _ => ∃ (x : V) (o : Option (List V)) (most : Nat), vs = [x, .int (most : Int)] ∧ Thing K H x o ∧ ∀ H', Same H H' → Q (optV (wrongOf o most)) H'
theorem Itm.same {H H' : Hp} {x : V} (h : Itm K H x) (e : Same H H') : Itm K H' x := let ⟨t, a, b⟩ := h; ⟨t, TyX.same a e, b⟩
theorem Sqs.same {H H' : Hp} {x : V} {b : Bool} (h : Sqs K H x b) (e : Same H H') : Sqs K H' x b := let ⟨t, a, c⟩ := h; ⟨t, TyX.same a e, c⟩
theorem Thing.same {H H' : Hp} {x : V} {o : Option (List V)} (h : Thing K H x o) (e : Same H H') : Thing K H' x o := by
  cases h with
  | seq hS b hi hl => exact .seq (hS.imp (fun z => e.seq z) fun z => e _ _ z) (b.same e) (fun x hx => (hi x hx).same e) hl
  | no b => exact .no (b.same e)
end
section
variable {K : PySem.W.Frag}
/-- a dict comprehension over enumerate(xs), xs a list in the slot i -/
theorem dcT_enL {i : Nat} {a : Addr} {xs : List V} {g : TG} {tk tv : TE} {vs : List Nat} {σ : L2.St} {H : Hp} {Q : VK} (hv : σ[i]? = some (some (.ref a))) (hS : SqL K H a xs)
    (h : ∀ D, H D = none → ∃ Pv : Nat → Hp → Prop, Pv 0 (upd H D (.dT [])) ∧ (∀ k H', Pv k H' → SqL K H' a xs) ∧
      (∀ k x H' H2, k < xs.length → Pv k H' → YPair (fun j => some (.int (j : Nat))) (fun j => xs[j]?) k H' x H2 → g x (wipe σ vs) H2 fun σ2 H3 => wipe σ2 vs = wipe σ vs ∧
        tk σ2 H3 fun y H4 => tv σ2 H4 fun z H5 => ∃ kvs k' b, y = .ref b ∧ H5 b = some (.tup (k'.map kV)) ∧ H5 D = some (.dT kvs) ∧ kvs.length < sizeLine ∧ Pv (k + 1) (upd H5 D (.dT (putK kvs k' z)))) ∧
      ∀ H', Pv xs.length H' → Q (.ref D) H') : tDcT (iEnS K (tCons (tVar i) tNil)) g tk tv vs σ H Q :=
  ⟨_, hv, a, rfl, .inl ⟨xs, hS, fun D nD => by
    obtain ⟨Pv, h0, hG, hs, hd⟩ := h D nD
    exact dcT_it walk_enum Pv h0 (fun k H' _ p => hG k H' p) hs hd⟩⟩
end
/-! ### what is none wrong -/
theorem wrongFrom_none {xs : List V} {most : Nat} : ∀ (l : List V) (i : Nat), wrongFrom xs most i l = none → ∀ j x, l[j]? = some x → badAt xs most (i + j) x = false
  | [], i, _, j, x, h => by simp at h
  | y :: r, i, hw, j, x, h => by
    have e : (if badAt xs most i y = true then some i else wrongFrom xs most (i + 1) r) = none := hw
    by_cases hb : badAt xs most i y = true
    · rw [if_pos hb] at e
      cases e
    · rw [if_neg hb] at e
      cases j with
      | zero =>
        cases h
        simpa using hb
      | succ j =>
        have := wrongFrom_none r (i + 1) e j x (by simpa using h)
        rw [show i + (j + 1) = i + 1 + j by omega]
        exact this
theorem names_of {xs : List V} (h : ∀ (j : Nat) (x : V), xs[j]? = some x → isNameB x = true) : ∃ zs : List Str, xs = zs.map V.str ∧ ∀ z ∈ zs, isNameS z = true := by
  induction xs with
  | nil => exact ⟨[], rfl, fun _ z => nomatch z⟩
  | cons x r ih =>
    obtain ⟨zs, e, hz⟩ := ih fun j y hy => h (j + 1) y (by simpa using hy)
    have hx := h 0 x rfl
    cases x with
    | str z =>
      refine ⟨z :: zs, by rw [e]; rfl, fun y hy => ?_⟩
      rcases List.mem_cons.mp hy with rfl | hy
      · exact hx
      · exact hz y hy
    | _ => cases hx
/-- what is right: unlike names, not too many -/
theorem right_names {o : Option (List V)} {most : Nat} (h : wrongOf o most = none) : ∃ zs : List Str, o = some (zs.map V.str) ∧ zs ≠ [] ∧ (∀ z ∈ zs, isNameS z = true) ∧ zs.length ≤ most ∧ zs.Nodup := by
  cases o with
  | none => cases h
  | some xs =>
    have h : firstWrong xs most = none := h
    unfold firstWrong at h
    by_cases hn : xs = []
    · rw [if_pos hn] at h
      cases h
    · rw [if_neg hn] at h
      have hb := wrongFrom_none xs 0 h
      have hb : ∀ j x, xs[j]? = some x → badAt xs most j x = false := fun j x hx => by
        have := hb j x hx
        rwa [Nat.zero_add] at this
      obtain ⟨zs, e, hz⟩ := names_of fun j x hx => by
        have := hb j x hx
        simp [badAt] at this
        exact this.1.2
      refine ⟨zs, by rw [e], fun z => hn (by rw [e, z]; rfl), hz, ?_, ?_⟩
      · rcases Nat.lt_or_ge most zs.length with hlt | hge
        · have hx : xs[most]? = some (V.str zs[most]) := by rw [e, List.getElem?_map, List.getElem?_eq_getElem hlt]; rfl
          have := hb most _ hx
          simp [badAt] at this
        · exact hge
      · rw [List.nodup_iff_pairwise_ne, List.pairwise_iff_getElem]
        intro i j hi hj hij heq
        have hx : xs[j]? = some (V.str zs[j]) := by rw [e, List.getElem?_map, List.getElem?_eq_getElem hj]; rfl
        have := hb j _ hx
        simp [badAt] at this
        have h2 := this.2
        rw [e, ← List.map_take, inV_strs] at h2
        have h2 := of_decide_eq_false h2
        exact h2 (List.mem_iff_getElem.mpr ⟨i, by rw [List.length_take]; omega, by rw [List.getElem_take]; exact heq⟩)
end Bk

namespace Bk
open PySem PySem.Spec PyProof.Rows L2
section
variable {P : Program} {w : World} {K : PySem.W.Frag} {mg : Str → Option Value} {base : Heap}
theorem scFirst : FnScope ["names", "most", "at", "name"] ["names", "most"] (defScope (topS 33)) := ⟨rfl, rfl, rfl, by decide +kernel, rfl, by decide +kernel, by decide +kernel⟩
theorem ok_first (B : Bi mg) {f f1 f2 : Addr} {fd fd1 fd2 : FuncData} (c_is_list : Cal P w K mg base CX0 1 "is_list" f1 fd1 ["thing"] (spIsList K)) (c_is_name : Cal P w K mg base CX0 1 "is_name" f2 fd2 ["thing"] (spIsName K))
    (F : Fun K "first_wrong" "first_wrong" (topS 33) f fd) : FnOk P w K mg base CX0 2 f fd ["names", "most"] (spFirstWrong K) := by
  refine F.ok scFirst (fun vs H Q E h => ?_) (fun cdv A outer s H vs Q E hr h => ?_)
  · obtain ⟨x, o, most, rfl, _⟩ := h
    rfl
  · obtain ⟨x, o, most, rfl, T, q⟩ := h
    have hr_is_list := hr
    have hr_is_name := hr
    have nd := scFirst.nd
    refine ⟨_, (pss_cons (ps_if (PW.pt (pw_or (pt_not (pt_val (pe_call c_is_list.ok hr_is_list (by rfl) c_is_list.g c_is_list.kp c_is_list.b .nil pass0 (pa_cons (pv 0) pa_nil)))) (pw_or1 (pt_cmpR op_eq (pe_callB (kLen K) (by rfl) B.len PySem.boot_len (pa_cons (pv 0) pa_nil)) pe_int (nomark _))))) (pss_one (ps_ret pe_int)) pss_nil)
      (pss_cons (ps_for PassesOwn.never rfl (kPiE K (by rfl) B.enumerate (pa_cons (pv 0) pa_nil)) (kTg K 2 rfl (pgs_cons (pg_name (i := 2) nd rfl (Or.inl rfl)) (pgs_cons (pg_name (i := 3) nd rfl (Or.inl rfl)) pgs_nil))) (pss_one (ps_if (PW.pt (pw_or (pt_cmpR op_eq (pv 2) (pv 1) (nomark _)) (pw_or (pt_not (pt_val (pe_call c_is_name.ok hr_is_name (by rfl) c_is_name.g c_is_name.kp c_is_name.b .nil pass0 (pa_cons (pv 3) pa_nil)))) (pw_or1 (pt_cmpR (kIn K) (pv 3) (pe_slice ((kSlL K).or (kSlT K)) (pv 0) po_none (po_some (pv 2))) rfl))))) (pss_one (ps_ret (pv 2))) pss_nil)))
      (pss_one (ps_ret pe_non)))), ?_⟩
    cases T with
    | no b =>
      refine ⟨_, rfl, _, false, rfl, b, fun H1 e1 => ⟨_, rfl, ?_⟩⟩
      refine iteT ?_
      refine iteT ?_
      exact q H1 e1
    | @seq a xs hS0 b hi hl =>
      have hS : SqL K H a xs ∨ SqT K H a xs := hS0.imp id SqT.of
      clear hS0
      refine ⟨_, rfl, _, true, rfl, b, fun H1 e1 => ⟨_, rfl, ?_⟩⟩
      refine iteF ?_
      have hS1 : SqL K H1 a xs ∨ SqT K H1 a xs := hS.imp (fun z => e1.seq z) fun z => Same.sqt e1 z
      refine ⟨_, rfl, .ref a, xs.length, rfl, hS1.imp (fun z => ⟨xs, z, rfl⟩) (fun z => ⟨xs, z, rfl⟩), rfl, _, rfl, ?_⟩
      cases xs with
      | nil =>
        refine iteT ?_
        exact q H1 e1
      | cons x0 r0 =>
        have hlen : (x0 :: r0).length = r0.length + 1 := rfl
        generalize hxs : x0 :: r0 = xs at hS1 hi hl q hlen ⊢
        have hne : xs ≠ [] := by rw [← hxs]; exact List.cons_ne_nil _ _
        have efw : firstWrong xs most = wrongFrom xs most 0 (xs.drop 0) := by
          unfold firstWrong
          rw [if_neg hne]
          rfl
        have q : ∀ H', Same H H' → Q (optV (wrongFrom xs most 0 (xs.drop 0))) H' := fun H' e => by
          rw [← efw]
          exact q H' e
        have e0 : decide (V.int (xs.length : Int) = V.int 0) = false := decide_eq_false (fun z => by injection z with z; omega)
        rw [e0]
        refine iteF ?_
        refine st_next ?_
        refine st_seq ?_
        refine for_enS (a := a) (xs := xs) rfl hS1 (fun i σ H2 => ∃ v2 v3, σ = [some (.ref a), some (.int (most : Int)), v2, v3] ∧ Same H1 H2 ∧ wrongFrom xs most 0 (xs.drop 0) = wrongFrom xs most i (xs.drop i) ∧ ∀ j x, j < i → xs[j]? = some x → isNameB x = true) ?_ ?_ ?_ ?_
        · exact ⟨none, none, rfl, Same.refl _, rfl, fun j x hj => absurd hj (Nat.not_lt_zero _)⟩
        · rintro i σ H2 ⟨_, _, _, e2, _⟩
          exact e2
        · rintro i y σ H2 H3 hi' ⟨v2, v3, rfl, e2, ew, hn⟩ ⟨T, y1, y2, rfl, nT, rfl, h1, h2⟩
          cases h1
          have h2 : xs[i]? = some y2 := h2
          have hx := List.mem_of_getElem? h2
          have eT := same_upd (o := HO.tup [V.int (i : Nat), y2]) nT
          refine ⟨T, _, rfl, SqT.of upd_same, rfl, _, _, rfl, _, _, rfl, rfl, ?_⟩
          generalize upd H2 T (.tup [.int (i : Nat), y2]) = H3 at eT ⊢
          have e3 : Same H H3 := Same.trans e1 (Same.trans e2 eT)
          have bad : badAt xs most i y2 = true → Q (.int (i : Nat)) H3 := fun hb => by
            have z := q H3 e3
            rw [ew, wrong_step h2, if_pos hb] at z
            exact z
          refine ⟨_, rfl, _, rfl, rfl, _, rfl, ?_⟩
          refine ite2 (fun c1 => ?_) (fun c1 => ?_)
          · refine iteT ?_
            refine ⟨_, rfl, bad ?_⟩
            have c1 := of_decide_eq_true c1
            have : i = most := by injection c1 with c1; omega
            simp [badAt, this]
          · have c1 : ¬ i = most := fun z => c1 (decide_eq_true (by rw [z]))
            refine ⟨_, rfl, y2, rfl, (hi y2 hx).same e3, fun H4 e4 => ⟨_, rfl, ?_⟩⟩
            have bad : badAt xs most i y2 = true → Q (.int (i : Nat)) H4 := fun hb => by
              have z := q H4 (Same.trans e3 e4)
              rw [ew, wrong_step h2, if_pos hb] at z
              exact z
            cases hn2 : isNameB y2 with
            | false =>
              refine iteT ?_
              refine iteT ?_
              exact ⟨_, rfl, bad (by simp [badAt, hn2])⟩
            | true =>
              refine iteF ?_
              have hS4 : SqL K H4 a xs ∨ SqT K H4 a xs := hS1.imp (fun z => Same.seq (Same.trans e2 (Same.trans eT e4)) z) fun z => Same.sqt (Same.trans e2 (Same.trans eT e4)) z
              have ecut : cutV xs none (some (i : Int)) = xs.take i := cut_to xs i (by omega)
              have hlo : HT.sIx xs.length xs.length (some (i : Int)) = i := sIx_nat' _ _ _ (by omega)
              have yes : ∀ H5, Same H4 H5 → inV y2 (xs.take i) = true → Q (.int (i : Nat)) H5 := fun H5 e5 hv => by
                have z := q H5 (Same.trans e3 (Same.trans e4 e5))
                rw [ew, wrong_step h2, if_pos (by simp [badAt, hv])] at z
                exact z
              have no : inV y2 (xs.take i) = false → wrongFrom xs most 0 (xs.drop 0) = wrongFrom xs most (i + 1) (xs.drop (i + 1)) := fun hv => by
                rw [ew, wrong_step h2, if_neg (by simp [badAt, hv, hn2, c1])]
              have hn' : ∀ j x, j < i + 1 → xs[j]? = some x → isNameB x = true := fun j x hj hjx => by
                rcases Nat.lt_succ_iff_lt_or_eq.mp hj with hj | rfl
                · exact hn j x hj hjx
                · rw [h2] at hjx
                  cases hjx
                  exact hn2
              refine ⟨_, rfl, _, rfl, _, rfl, _, rfl, ?_⟩
              rcases hS4 with hS4 | hS4
              · refine .inl ⟨a, xs, rfl, hS4, fun p np => ?_⟩
                rw [ecut]
                have ep := same_upd (o := HO.lst (xs.take i)) np
                refine ⟨p, _, rfl, .inl (SqL.of upd_same), name_flat hn2, all_flat hn, _, rfl, ?_⟩
                cases hv : inV y2 (xs.take i) with
                | true =>
                  refine iteT ?_
                  exact ⟨_, rfl, yes _ ep hv⟩
                | false =>
                  refine iteF ?_
                  exact ⟨_, _, rfl, Same.trans e2 (Same.trans eT (Same.trans e4 ep)), no hv, hn'⟩
              · refine .inr ⟨a, xs, rfl, hS4, fun hw => ?_, fun hw p np => ?_⟩
                · exfalso
                  rw [hlo] at hw
                  omega
                · rw [ecut]
                  have ep := same_upd (o := HO.tup (xs.take i)) np
                  refine ⟨p, _, rfl, .inr (SqT.of upd_same), name_flat hn2, all_flat hn, _, rfl, ?_⟩
                  cases hv : inV y2 (xs.take i) with
                  | true =>
                    refine iteT ?_
                    exact ⟨_, rfl, yes _ ep hv⟩
                  | false =>
                    refine iteF ?_
                    exact ⟨_, _, rfl, Same.trans e2 (Same.trans eT (Same.trans e4 ep)), no hv, hn'⟩
        · rintro σ H2 ⟨v2, v3, rfl, e2, ew, hn⟩
          rw [wrong_end (Nat.le_refl _)] at ew
          rw [ew] at q
          exact q H2 (Same.trans e1 e2)
end
end Bk

namespace Bk
open PySem PySem.Spec PyProof.Rows L2
/-! ### values that are tuples, one for each of some things -/
def Ats {α : Type} (H : Hp) (g : α → List V) (vs : List V) (xs : List α) : Prop := vs.length = xs.length ∧ ∀ (i : Nat) (v : V) (x : α), vs[i]? = some v → xs[i]? = some x → ∃ b, v = .ref b ∧ H b = some (.tup (g x))
section
variable {α : Type} {g : α → List V} {H H' : Hp} {vs ws : List V} {xs ys : List α}
theorem Ats.nil : Ats H g [] [] := ⟨rfl, fun i v x h => by simp at h⟩
theorem Ats.same (a : Ats H g vs xs) (e : Same H H') : Ats H' g vs xs := ⟨a.1, fun i v x h1 h2 => let ⟨b, e1, e2⟩ := a.2 i v x h1 h2; ⟨b, e1, e _ _ e2⟩⟩
theorem Ats.updL {D : Addr} {l : List V} {o : HO} (a : Ats H g vs xs) (hD : H D = some (.lst l)) : Ats (upd H D o) g vs xs := ⟨a.1, fun i v x h1 h2 => by
  obtain ⟨b, e1, e2⟩ := a.2 i v x h1 h2
  exact ⟨b, e1, by rw [upd_ne (ne_of e2 hD (fun z => nomatch z))]; exact e2⟩⟩
theorem Ats.append (a : Ats H g vs xs) (b : Ats H g ws ys) : Ats H g (vs ++ ws) (xs ++ ys) := by
  refine ⟨by rw [List.length_append, List.length_append, a.1, b.1], fun i v x h1 h2 => ?_⟩
  by_cases hi : i < vs.length
  · rw [List.getElem?_append_left hi] at h1
    rw [List.getElem?_append_left (by rw [← a.1]; exact hi)] at h2
    exact a.2 i v x h1 h2
  · rw [List.getElem?_append_right (by omega)] at h1
    rw [List.getElem?_append_right (by rw [← a.1]; omega), ← a.1] at h2
    exact b.2 _ v x h1 h2
theorem Ats.one {b : Addr} {x : α} (e : H b = some (.tup (g x))) : Ats H g [.ref b] [x] := ⟨rfl, fun i v y h1 h2 => by
  cases i with
  | zero =>
    cases h1
    cases h2
    exact ⟨b, rfl, e⟩
  | succ i => simp at h1⟩
theorem Ats.at (a : Ats H g vs xs) {i : Nat} {x : α} (h : xs[i]? = some x) : ∃ b, vs[i]? = some (.ref b) ∧ H b = some (.tup (g x)) := by
  have hi := (List.getElem?_eq_some_iff.mp h).1
  rw [← a.1] at hi
  obtain ⟨b, e1, e2⟩ := a.2 i _ x (List.getElem?_eq_getElem hi) h
  exact ⟨b, by rw [List.getElem?_eq_getElem hi, e1], e2⟩
end
/-! ### the rows of places, as choices makes them -/
def rowV (r : List Nat) : List V := r.map fun (k : Nat) => V.int (k : Int)
def lastOf (r : List Nat) : Nat := r.getLastD 0
def growRow (n : Nat) (r : List Nat) : List (List Nat) := (List.range' (lastOf r + 1) (n - (lastOf r + 1))).map fun k => r ++ [k]
def nextRows (n : Nat) (rows : List (List Nat)) : List (List Nat) := rows.flatMap (growRow n)
def rowsFrom (n : Nat) : Nat → List (List Nat) → List (List Nat)
  | 0, _ => []
  | f + 1, rows => rows ++ rowsFrom n f (nextRows n rows)
def firstRows (n : Nat) : List (List Nat) := (List.range n).map fun k => [k]
/-- all rows of places below n, shorter ones first -/
def lotRows (n : Nat) : List (List Nat) := rowsFrom n n (firstRows n)
/-- the lots of unlike names -/
def lotsOf (zs : List Str) : List (List Str) := (lotRows zs.length).map fun r => r.map fun k => zs.getD k Str.empty
structure RowOk (n k : Nat) (r : List Nat) : Prop where
  len : r.length = k + 1
  lt : ∀ x ∈ r, x < n
  last : k ≤ lastOf r
theorem RowOk.ne {n k : Nat} {r : List Nat} (h : RowOk n k r) : r ≠ [] := fun e => by
  have := h.len
  rw [e] at this
  simp at this
theorem lastOf_mem {r : List Nat} (h : r ≠ []) : lastOf r ∈ r := by
  unfold lastOf
  rw [List.getLastD_eq_getLast?, List.getLast?_eq_some_getLast h]
  exact List.getLast_mem h
theorem RowOk.lt_last {n k : Nat} {r : List Nat} (h : RowOk n k r) : lastOf r < n := h.lt _ (lastOf_mem h.ne)
theorem lastOf_snoc (r : List Nat) (k : Nat) : lastOf (r ++ [k]) = k := by
  unfold lastOf
  rw [List.getLastD_eq_getLast?, List.getLast?_append]
  rfl
theorem firstRows_ok {n : Nat} : ∀ r ∈ firstRows n, RowOk n 0 r := by
  intro r hr
  obtain ⟨k, hk, rfl⟩ := List.mem_map.mp hr
  have := List.mem_range.mp hk
  exact ⟨rfl, fun x hx => by rw [List.mem_singleton.mp hx]; exact this, Nat.zero_le _⟩
theorem nextRows_ok {n k : Nat} {rows : List (List Nat)} (h : ∀ r ∈ rows, RowOk n k r) : ∀ r ∈ nextRows n rows, RowOk n (k + 1) r := by
  intro r hr
  obtain ⟨r0, h0, hr⟩ := List.mem_flatMap.mp hr
  obtain ⟨j, hj, rfl⟩ := List.mem_map.mp hr
  obtain ⟨j1, j2⟩ := List.mem_range'_1.mp hj
  have o := h r0 h0
  have := o.last
  refine ⟨by rw [List.length_append, o.len]; rfl, fun x hx => ?_, by rw [lastOf_snoc]; omega⟩
  rcases List.mem_append.mp hx with hx | hx
  · exact o.lt x hx
  · rw [List.mem_singleton.mp hx]
    omega
theorem flatMap_len {α β : Type} {f : α → List β} {m : Nat} : ∀ {l : List α}, (∀ x ∈ l, (f x).length ≤ m) → (l.flatMap f).length ≤ l.length * m
  | [], _ => Nat.zero_le _
  | x :: r, h => by
    have ih := flatMap_len (l := r) fun y hy => h y (List.mem_cons_of_mem _ hy)
    have h1 := h x List.mem_cons_self
    rw [List.flatMap_cons, List.length_append, List.length_cons, Nat.add_mul]
    omega
theorem growRow_len {n : Nat} {r : List Nat} : (growRow n r).length ≤ n := by
  unfold growRow
  rw [List.length_map, List.length_range']
  omega
theorem nextRows_len {n : Nat} (rows : List (List Nat)) : (nextRows n rows).length ≤ rows.length * n := flatMap_len fun _ _ => growRow_len
theorem nextRows_snoc {n : Nat} {rows : List (List Nat)} {i : Nat} {r : List Nat} (h : rows[i]? = some r) : nextRows n (rows.take (i + 1)) = nextRows n (rows.take i) ++ growRow n r := by
  unfold nextRows
  rw [take_succ h, List.flatMap_append, List.flatMap_cons, List.flatMap_nil, List.append_nil]
theorem rowsFrom_nil (n : Nat) : ∀ f, rowsFrom n f [] = []
  | 0 => rfl
  | f + 1 => by
    show [] ++ rowsFrom n f (nextRows n []) = []
    exact rowsFrom_nil n f
theorem rowsFrom_ok {n : Nat} : ∀ (f k : Nat) (rows : List (List Nat)), (∀ r ∈ rows, RowOk n k r) → ∀ r ∈ rowsFrom n f rows, ∃ k', RowOk n k' r
  | 0, _, _, _, r, hr => by cases hr
  | f + 1, k, rows, h, r, hr => by
    rcases List.mem_append.mp (show r ∈ rows ++ rowsFrom n f (nextRows n rows) from hr) with hr | hr
    · exact ⟨k, h r hr⟩
    · exact rowsFrom_ok f (k + 1) _ (nextRows_ok h) r hr
theorem lotRows_ok {n : Nat} : ∀ r ∈ lotRows n, ∃ k, RowOk n k r := rowsFrom_ok n 0 _ firstRows_ok
theorem rowV_len (r : List Nat) : (rowV r).length = r.length := List.length_map ..
theorem at_last {r : List Nat} (h : r ≠ []) : atI (rowV r) (-1) = some (V.int (lastOf r : Int)) := by
  have hl : 0 < r.length := List.length_pos_iff.mpr h
  have e1 : ixN (rowV r).length (-1) = some (r.length - 1) := by
    unfold ixN
    rw [rowV_len, if_neg (by omega), if_pos (by omega)]
    congr 1
    omega
  unfold atI
  rw [e1]
  show (rowV r)[r.length - 1]? = _
  unfold rowV lastOf
  rw [List.getElem?_map, List.getLastD_eq_getLast?, List.getLast?_eq_getElem?, List.getElem?_eq_getElem (by omega)]
  rfl
theorem growRow_at {n : Nat} {r : List Nat} {j : Nat} (hj : j < n - (lastOf r + 1)) : (growRow n r)[j]? = some (r ++ [lastOf r + 1 + j]) := by
  unfold growRow
  rw [List.getElem?_map, List.getElem?_range' hj]
  simp
theorem growRow_length (n : Nat) (r : List Nat) : (growRow n r).length = n - (lastOf r + 1) := by
  unfold growRow
  rw [List.length_map, List.length_range']
/-! ### the rows of places of so many, as choices_of makes them -/
def sttK (k : Nat) (r : List Nat) : Nat := if 0 < k then lastOf r + 1 else 0
def growK (n k : Nat) (r : List Nat) : List (List Nat) := (List.range' (sttK k r) (n - sttK k r)).map fun j => r ++ [j]
def nextK (n k : Nat) (rows : List (List Nat)) : List (List Nat) := rows.flatMap (growK n k)
def rowsK (n : Nat) : Nat → List (List Nat)
  | 0 => [[]]
  | k + 1 => nextK n k (rowsK n k)
/-- a row of k places, ascending as far as it matters -/
def RowK (n k : Nat) (r : List Nat) : Prop := (k = 0 ∧ r = []) ∨ ∃ k', k = k' + 1 ∧ RowOk n k' r
theorem RowK.len {n k : Nat} {r : List Nat} (h : RowK n k r) : r.length = k := by
  rcases h with ⟨rfl, rfl⟩ | ⟨k', rfl, o⟩
  · rfl
  · exact o.len
theorem RowK.lt {n k : Nat} {r : List Nat} (h : RowK n k r) : ∀ x ∈ r, x < n := by
  rcases h with ⟨rfl, rfl⟩ | ⟨k', rfl, o⟩
  · intro x hx
    cases hx
  · exact o.lt
theorem sttK_le {n k : Nat} {r : List Nat} (h : RowK n k r) : sttK k r ≤ n := by
  unfold sttK
  rcases h with ⟨rfl, rfl⟩ | ⟨k', rfl, o⟩
  · rw [if_neg (by omega)]
    exact Nat.zero_le _
  · rw [if_pos (by omega)]
    exact o.lt_last
theorem nextK_ok {n k : Nat} {rows : List (List Nat)} (h : ∀ r ∈ rows, RowK n k r) : ∀ r ∈ nextK n k rows, RowK n (k + 1) r := by
  intro r hr
  obtain ⟨r0, h0, hr⟩ := List.mem_flatMap.mp hr
  obtain ⟨j, hj, rfl⟩ := List.mem_map.mp hr
  obtain ⟨j1, j2⟩ := List.mem_range'_1.mp hj
  have o := h r0 h0
  have hs := sttK_le o
  refine .inr ⟨k, rfl, by rw [List.length_append, o.len]; rfl, fun x hx => ?_, ?_⟩
  · rcases List.mem_append.mp hx with hx | hx
    · exact o.lt x hx
    · rw [List.mem_singleton.mp hx]
      omega
  · rw [lastOf_snoc]
    rcases o with ⟨rfl, rfl⟩ | ⟨k', rfl, o⟩
    · exact Nat.zero_le _
    · have := o.last
      unfold sttK at j1
      rw [if_pos (by omega)] at j1
      omega
theorem rowsK_ok (n : Nat) : ∀ k, ∀ r ∈ rowsK n k, RowK n k r
  | 0 => fun r hr => .inl ⟨rfl, List.mem_singleton.mp hr⟩
  | k + 1 => nextK_ok (rowsK_ok n k)
theorem nextK_snoc {n k : Nat} {rows : List (List Nat)} {i : Nat} {r : List Nat} (h : rows[i]? = some r) : nextK n k (rows.take (i + 1)) = nextK n k (rows.take i) ++ growK n k r := by
  unfold nextK
  rw [take_succ h, List.flatMap_append, List.flatMap_cons, List.flatMap_nil, List.append_nil]
theorem growK_at {n k : Nat} {r : List Nat} {j : Nat} (hj : j < n - sttK k r) : (growK n k r)[j]? = some (r ++ [sttK k r + j]) := by
  unfold growK
  rw [List.getElem?_map, List.getElem?_range' hj]
  simp
theorem growK_length (n k : Nat) (r : List Nat) : (growK n k r).length = n - sttK k r := by
  unfold growK
  rw [List.length_map, List.length_range']
/-! how many there are -/
def potOf (n k : Nat) (rows : List (List Nat)) : Nat := (rows.map fun r => 2 ^ (n - sttK k r)).sum
theorem pot_range (n : Nat) : ∀ (m s : Nat), m + s = n → ((List.range' s m).map fun j => 2 ^ (n - (j + 1))).sum + 1 = 2 ^ m
  | 0, _, _ => rfl
  | m + 1, s, h => by
    have ih := pot_range n m (s + 1) (by omega)
    rw [List.range'_succ, List.map_cons, List.sum_cons, Nat.add_assoc, ih, show n - (s + 1) = m by omega, Nat.pow_succ]
    omega
theorem pot_grow {n k : Nat} {r : List Nat} (h : sttK k r ≤ n) : potOf n (k + 1) (growK n k r) + 1 = 2 ^ (n - sttK k r) := by
  unfold potOf growK
  rw [List.map_map]
  have e : (List.map ((fun r => 2 ^ (n - sttK (k + 1) r)) ∘ fun j => r ++ [j]) (List.range' (sttK k r) (n - sttK k r))) = ((List.range' (sttK k r) (n - sttK k r)).map fun j => 2 ^ (n - (j + 1))) := by
    apply List.map_congr_left
    intro j _
    show 2 ^ (n - sttK (k + 1) (r ++ [j])) = _
    unfold sttK
    rw [if_pos (by omega), lastOf_snoc]
  rw [e]
  exact pot_range n _ _ (by omega)
theorem pot_append (n k : Nat) (a b : List (List Nat)) : potOf n k (a ++ b) = potOf n k a + potOf n k b := by
  unfold potOf
  rw [List.map_append, List.sum_append]
theorem pot_next {n k : Nat} : ∀ {rows : List (List Nat)}, (∀ r ∈ rows, RowK n k r) → potOf n (k + 1) (nextK n k rows) ≤ potOf n k rows
  | [], _ => Nat.le_refl _
  | r :: t, h => by
    have ih := pot_next (rows := t) fun x hx => h x (List.mem_cons_of_mem _ hx)
    have g := pot_grow (sttK_le (h r List.mem_cons_self))
    have e : nextK n k (r :: t) = growK n k r ++ nextK n k t := List.flatMap_cons ..
    have e2 : potOf n k (r :: t) = 2 ^ (n - sttK k r) + potOf n k t := List.sum_cons ..
    rw [e, pot_append, e2]
    omega
theorem pot_rows (n : Nat) : ∀ k, potOf n k (rowsK n k) ≤ 2 ^ n
  | 0 => by
    show (2 ^ (n - sttK 0 []) + 0) ≤ _
    unfold sttK
    rw [if_neg (by omega)]
    exact Nat.le_refl _
  | k + 1 => Nat.le_trans (pot_next (rowsK_ok n k)) (pot_rows n k)
theorem len_pot (n k : Nat) : ∀ rows : List (List Nat), rows.length ≤ potOf n k rows
  | [] => Nat.zero_le _
  | r :: t => by
    have ih := len_pot n k t
    have e2 : potOf n k (r :: t) = 2 ^ (n - sttK k r) + potOf n k t := List.sum_cons ..
    have : 0 < 2 ^ (n - sttK k r) := Nat.pow_pos (by omega)
    rw [e2, List.length_cons]
    omega
theorem rowsK_len (n k : Nat) : (rowsK n k).length ≤ 2 ^ n := Nat.le_trans (len_pot n k _) (pot_rows n k)
theorem take_pot {n k : Nat} (rows : List (List Nat)) (i : Nat) : potOf n k (rows.take i) ≤ potOf n k rows := by
  have h := pot_append n k (rows.take i) (rows.drop i)
  rw [List.take_append_drop] at h
  omega
theorem nextK_take_len {n k : Nat} (i : Nat) : (nextK n k ((rowsK n k).take i)).length ≤ 2 ^ n :=
  Nat.le_trans (len_pot n (k + 1) _) (Nat.le_trans (pot_next fun r hr => rowsK_ok n k r (List.mem_of_mem_take hr)) (Nat.le_trans (take_pot _ i) (pot_rows n k)))
/-! all of them are the rows of all lots -/
theorem rowsK_one (n : Nat) : rowsK n 1 = firstRows n := by
  show nextK n 0 [[]] = _
  unfold nextK growK firstRows sttK
  rw [List.flatMap_cons, List.flatMap_nil, List.append_nil, if_neg (by omega), Nat.sub_zero, List.range_eq_range']
  rfl
theorem rowsK_two (n k : Nat) : rowsK n (k + 2) = nextRows n (rowsK n (k + 1)) := by
  show nextK n (k + 1) _ = _
  have e : growK n (k + 1) = growRow n := by
    funext r
    unfold growK growRow sttK
    rw [if_pos (by omega)]
  unfold nextK nextRows
  rw [e]
theorem rowsFrom_K (n : Nat) : ∀ f k, rowsFrom n f (rowsK n (k + 1)) = (List.range' (k + 1) f).flatMap (rowsK n)
  | 0, _ => rfl
  | f + 1, k => by
    show rowsK n (k + 1) ++ rowsFrom n f (nextRows n (rowsK n (k + 1))) = _
    rw [← rowsK_two, rowsFrom_K n f (k + 1), List.range'_succ, List.flatMap_cons]
theorem lotRows_K (n : Nat) : lotRows n = (List.range' 1 n).flatMap (rowsK n) := by
  unfold lotRows
  rw [← rowsK_one, rowsFrom_K]
theorem lotRows_few (n : Nat) : (lotRows n).length ≤ n * 2 ^ n := by
  rw [lotRows_K]
  have h := flatMap_len (f := rowsK n) (m := 2 ^ n) (l := List.range' 1 n) fun x _ => rowsK_len n x
  rw [List.length_range'] at h
  exact h
/-- rows that lie in range tell the choices of so many of the things, which lie in the heap -/
def subsOf (xs : List V) (rows : List (List Nat)) : List (List V) := rows.map fun r => r.map fun k => xs.getD k V.non
def spChoicesOf (K : PySem.W.Frag) : Sp := fun vs H Q _ => ∃ (a : Addr) (xs : List V) (m : Nat), vs = [.ref a, .int (m : Int)] ∧ (SqL K H a xs ∨ SqT K H a xs) ∧ xs.length ≤ 12 ∧ m ≤ 12 ∧
  ∀ (D : Addr) (ws : List V) (H' : Hp), H D = none → Same H H' → H' D = some (.lst ws) → Ats H' (fun l => l) ws (subsOf xs (rowsK xs.length m)) → Q (.ref D) H'
def spChoices (K : PySem.W.Frag) : Sp := fun vs H Q _ => ∃ (a : Addr) (xs : List V), vs = [.ref a] ∧ (SqL K H a xs ∨ SqT K H a xs) ∧ xs.length ≤ 12 ∧
  ∀ (D : Addr) (ws : List V) (H' : Hp), H D = none → Same H H' → H' D = some (.lst ws) → Ats H' (fun l => l) ws (subsOf xs (lotRows xs.length)) → Q (.ref D) H'
theorem subsOf_map {rows : List (List Nat)} (zs : List Str) (h : ∀ r ∈ rows, ∀ x ∈ r, x < zs.length) : subsOf (zs.map V.str) rows = (rows.map fun r => r.map fun k => zs.getD k Str.empty).map fun l => l.map V.str := by
  unfold subsOf
  rw [List.map_map]
  apply List.map_congr_left
  intro r hr
  show _ = (r.map fun k => zs.getD k Str.empty).map V.str
  rw [List.map_map]
  apply List.map_congr_left
  intro k hk
  have hkn := h r hr k hk
  show (zs.map V.str).getD k V.non = V.str (zs.getD k Str.empty)
  rw [List.getD_eq_getElem?_getD, List.getD_eq_getElem?_getD, List.getElem?_map, List.getElem?_eq_getElem hkn]
  rfl
theorem Ats.ofMap {α β : Type} {H : Hp} {g : β → List V} {f : α → β} {vs : List V} {xs : List α} (a : Ats H g vs (xs.map f)) : Ats H (fun x => g (f x)) vs xs := ⟨by rw [a.1, List.length_map], fun i v x h1 h2 => a.2 i v (f x) h1 (by rw [List.getElem?_map, h2]; rfl)⟩
/-- what choices tells of names are the lots -/
theorem lots_of_choices {H : Hp} {ws : List V} {zs : List Str} (a : Ats H (fun l => l) ws (subsOf (zs.map V.str) (lotRows (zs.map V.str).length))) : Ats H (fun l => l.map V.str) ws (lotsOf zs) := by
  rw [List.length_map, subsOf_map zs (fun r hr => (lotRows_ok r hr).choose_spec.lt)] at a
  exact a.ofMap
/-! ### the lots of a chain -/
def longRows (zs : List Str) (l : Nat) : List (List Str) := (List.range (zs.length - l)).map fun i => (zs.drop i).take (l + 1)
def chainLots (zs : List Str) : List (List Str) := (List.range zs.length).flatMap (longRows zs)
theorem longRows_len (zs : List Str) (l : Nat) : (longRows zs l).length = zs.length - l := by
  unfold longRows
  rw [List.length_map, List.length_range]
theorem longRows_at {zs : List Str} {l j : Nat} (h : j < zs.length - l) : (longRows zs l)[j]? = some ((zs.drop j).take (l + 1)) := by
  unfold longRows
  rw [List.getElem?_map, List.getElem?_range h]
  rfl
def spNeigh : Sp := fun vs H Q _ => ∃ (a : Addr) (zs : List Str), vs = [.ref a] ∧ H a = some (.tup (zs.map V.str)) ∧ zs.length ≤ 100 ∧
  ∀ (D : Addr) (ws : List V) (H' : Hp), H D = none → Same H H' → H' D = some (.lst ws) → Ats H' (fun l => l.map V.str) ws (chainLots zs) → Q (.ref D) H'
end Bk

namespace Bk
open PySem PySem.Spec PyProof.Rows L2
/-! ### an own error with one field -/
def spExcInit (C : Addr) (f : Str) : Sp := fun vs H Q _ => ∃ (a : Addr) (v : V), vs = [.ref a, v] ∧ H a = some (exo a C none) ∧ ∀ dx, H dx = none → dx ≠ a → Q .non (upd (upd H dx (exd dx [(f, v)])) a (exo a C (some dx)))
/-- what the top has written of the error's class C, whose __init__ stands at fI and stores f -/
structure ExT (K : PySem.W.Frag) (mg : Str → Option Value) (x : Str) (C fI : Addr) (f : Str) : Prop where
  g : mg x = some (.ref C)
  o : OexC K C
  xf : XfC K C
  noF : PySem.W.findIn K (.ref C) f = some none
  iC : PySem.W.findIn K (.ref C) "__init__" = some (some (.ref fI))
  tI : PySem.W.typeIn K (.ref fI) = some (.type "function")
  te : PySem.W.exmOne K (.ref C) (.ref C) = some true
/-- the heap behind the making of an error that carries v under f in its dict d -/
def ExcAt (H : Hp) (d : Addr) (f : Str) (v : V) (H' : Hp) : Prop := H d = none ∧ Same H H' ∧ H' d = some (.xd [(f, v)])
/-- raise C(e): the reading, made easy -/
theorem mkO_of {C : Addr} {f : Str} {ta : TA} {σ : L2.St} {H : Hp} {Q : XK} {v : V} {H1 : Hp} (ha : ∀ R : List V → Hp → Prop, R [v] H1 → ta σ H R) (h : ∀ d H', ExcAt H1 d f v H' → Q (.ref C) (some d) H') : tMkO C (spExcInit C f) [] ta σ H Q := by
  refine ha _ ⟨show 1 ≤ 1000 by decide, fun a na => ⟨a, v, rfl, upd_same, fun dx ndx hne => ⟨rfl, dx, [(f, v)], upd_same, ?_, ?_, ?_⟩⟩⟩
  · rw [upd_ne hne, upd_same]
  · rw [upd_ne hne] at ndx
    exact ndx
  · rw [upd_ne hne] at ndx
    refine h dx _ ⟨ndx, fun b o e => ?_, upd_same⟩
    have nb : b ≠ dx := ne_of_none e ndx
    have na' : b ≠ a := ne_of_none e na
    rw [upd_ne nb, del_ne na', upd_ne na', upd_ne nb, upd_ne na']
    exact e
/-! ### Folders as an object -/
def placesOf (ls : List (List Str)) : List (List Key × V) := ls.zipIdx.foldl (fun acc (p : List Str × Nat) => putK acc (p.1.map Sum.inr) (V.int (p.2 : Int))) []
theorem places_snoc {ls : List (List Str)} {i : Nat} {l : List Str} (h : ls[i]? = some l) : placesOf (ls.take (i + 1)) = putK (placesOf (ls.take i)) (l.map Sum.inr) (V.int (i : Int)) := by
  have hi := (List.getElem?_eq_some_iff.mp h).1
  unfold placesOf
  rw [take_succ h, List.zipIdx_append, List.foldl_append]
  have e : (ls.take i).length = i := by rw [List.length_take]; omega
  rw [e, Nat.zero_add]
  rfl
theorem places_len : ∀ ls : List (List Str), (placesOf ls).length ≤ ls.length := by
  intro ls
  have h : ∀ (l : List (List Str × Nat)) (acc : List (List Key × V)), (l.foldl (fun acc (p : List Str × Nat) => putK acc (p.1.map Sum.inr) (V.int (p.2 : Int))) acc).length ≤ acc.length + l.length := by
    intro l
    induction l with
    | nil => intro acc; exact Nat.le_refl _
    | cons x r ih =>
      intro acc
      have h1 := ih (putK acc (x.1.map Sum.inr) (V.int (x.2 : Int)))
      have h2 := length_putK acc (x.1.map Sum.inr) (V.int (x.2 : Int))
      show (r.foldl _ (putK acc (x.1.map Sum.inr) (V.int (x.2 : Int)))).length ≤ acc.length + (r.length + 1)
      omega
  have := h ls.zipIdx []
  rw [List.length_zipIdx] at this
  simpa [placesOf] using this
def foldersF (t pd : Addr) (ch : Bool) : List (Str × V) := [("names", .ref t), ("chain", .bl ch), ("places", .ref pd)]
def lotsFor (ch : Bool) (zs : List Str) : List (List Str) := if ch then chainLots zs else lotsOf zs
def mostFor (ch : Bool) : Nat := if ch then 12 else 5
/-- Folders of the names zs stand at x -/
def FoldersAt (C : Addr) (H : Hp) (x : Addr) (zs : List Str) (ch : Bool) : Prop := ∃ dx t pd, H x = some (.ins C dx (foldersF t pd ch)) ∧ H t = some (.tup (zs.map V.str)) ∧ H pd = some (.dT (placesOf (lotsFor ch zs)))
def spFolders (K : PySem.W.Frag) (C CB : Addr) : Sp := fun vs H Q E => ∃ (x dx : Addr) (nm : V) (o : Option (List V)) (ch : Bool), vs = [.ref x, nm, .bl ch] ∧ H x = some (.ins C dx []) ∧ Thing K H nm o ∧
  (∀ i d H', wrongOf o (mostFor ch) = some i → ExcAt H d "index" (.int (i : Int)) H' → E (.ref CB) (some d) H') ∧
  (∀ zs H', wrongOf o (mostFor ch) = none → o = some (zs.map V.str) → zs.Nodup → FoldersAt C H' x zs ch → (∀ b u, b ≠ x → H b = some u → H' b = some u) → Q .non H')
structure FolT (K : PySem.W.Frag) (mg : Str → Option Value) (C fI : Addr) : Prop where
  g : mg "Folders" = some (.ref C)
  cl : Cls K C
  nN : NoAttr K C "names"
  nC : NoAttr K C "chain"
  nP : NoAttr K C "places"
  make : Mk K C fI
theorem put1 (v : V) : putF "names" v [] = ([("names", v)] : List (Str × V)) := rfl
theorem put2 (v c : V) : putF "chain" c ([("names", v)] : List (Str × V)) = ([("names", v), ("chain", c)] : List (Str × V)) := by
  have h : ¬ (("names" : Str) = "chain") := by decide +kernel
  simp [putF, h]
theorem put3 (v c p : V) : putF "places" p ([("names", v), ("chain", c)] : List (Str × V)) = ([("names", v), ("chain", c), ("places", p)] : List (Str × V)) := by
  have h : ¬ (("names" : Str) = "places") := by decide +kernel
  have h2 : ¬ (("chain" : Str) = "places") := by decide +kernel
  simp [putF, h, h2]
theorem look_n2 (t : Addr) (c : V) : List.lookup ("names" : Str) ([("names", .ref t), ("chain", c)] : List (Str × V)) = some (.ref t) := by
  simp [List.lookup]
theorem look_names (t pd : Addr) (ch : Bool) : (foldersF t pd ch).lookup ("names" : Str) = some (.ref t) := by
  show List.lookup ("names" : Str) [(("names" : Str), V.ref t), ("chain", .bl ch), ("places", .ref pd)] = _
  simp [List.lookup]
/-- all but the object at x stays -/
def But (x : Addr) (H H' : Hp) : Prop := ∀ b u, b ≠ x → H b = some u → H' b = some u
theorem But.trans {x : Addr} {H H1 H2 : Hp} (a : But x H H1) (b : But x H1 H2) : But x H H2 := fun c u n e => b c u n (a c u n e)
theorem But.same {x : Addr} {H H' : Hp} (a : Same H H') : But x H H' := fun c u _ e => a c u e
theorem But.upd {x : Addr} {H : Hp} {o : HO} : But x H (L2.upd H x o) := fun c u n e => by rw [upd_ne n]; exact e
theorem rows_few : ∀ n, n < 6 → (lotRows n).length ≤ 31 := by decide +kernel
theorem lots_few {ch : Bool} {zs : List Str} (h : zs.length ≤ mostFor ch) : (lotsFor ch zs).length ≤ 2000 := by
  cases ch with
  | true =>
    have h : zs.length ≤ 12 := h
    have := flatMap_len (f := longRows zs) (m := 100) (l := List.range zs.length) fun x _ => by rw [longRows_len]; omega
    rw [List.length_range] at this
    show (chainLots zs).length ≤ 2000
    unfold chainLots
    omega
  | false =>
    have h : zs.length ≤ 5 := h
    have := rows_few zs.length (by omega)
    show (lotsOf zs).length ≤ 2000
    unfold lotsOf
    rw [List.length_map]
    omega
end Bk

namespace Bk
open PySem PySem.Spec PyProof.Rows L2
section
variable {P : Program} {w : World} {K : PySem.W.Frag} {mg : Str → Option Value} {base : Heap}
theorem startK {n k : Nat} {σ : L2.St} {H : Hp} {R : VK} {b : Addr} {row : List Nat} (h3 : σ[3]? = some (some (.int (0 + (k : Int))))) (h4 : σ[4]? = some (some (.ref b))) (hb : SqT K H b (rowV row)) (hrow : RowK n k row) (r : R (.int (sttK k row : Int)) H) :
    tIf (tTest (tOp (rI0 fun i j => V.bl (decide (j < i))) (tVar 3) (tC (V.int 0)))) (tOp (rI0 fun i j => V.int (i + j)) (tOp (rIxT K) (tVar 4) (tUn (rU fun i => V.int (-i)) (tC (V.int 1)))) (tC (V.int 1))) (tC (V.int 0)) σ H R := by
  refine ⟨_, h3, _, _, rfl, rfl, _, rfl, ?_⟩
  unfold sttK at r
  rcases hrow with ⟨rfl, rfl⟩ | ⟨k', rfl, o⟩
  · rw [if_neg (by omega)] at r
    exact iteF r
  · rw [if_pos (by omega)] at r
    rw [show decide ((0 : Int) < 0 + ((k' + 1 : Nat) : Int)) = true from decide_eq_true (by omega)]
    refine iteT ?_
    exact ⟨_, h4, 1, rfl, b, _, _, _, rfl, rfl, hb, at_last o.ne, _, _, rfl, rfl, r⟩
theorem scChoicesOf : FnScope ["things", "many", "rows", "k", "row", "at"] ["things", "many"] (defScope (topS 35)) := ⟨rfl, rfl, rfl, by decide +kernel, rfl, by decide +kernel, by decide +kernel⟩
theorem ok_choices_of (B : Bi mg) {f : Addr} {fd : FuncData} (F : Fun K "choices_of" "choices_of" (topS 35) f fd) : FnOk P w K mg base CX0 1 f fd ["things", "many"] (spChoicesOf K) := by
  refine F.ok scChoicesOf (fun vs H Q E h => ?_) (fun cdv A outer s H vs Q E hr h => ?_)
  · obtain ⟨a, xs, m, rfl, _⟩ := h
    rfl
  · obtain ⟨a, xs, m, rfl, hS, hl, hm, q⟩ := h
    have nd := scChoicesOf.nd
    have hu := hu_of hr
    have hpow : 2 ^ xs.length ≤ 2 ^ 12 := Nat.pow_le_pow_right (by decide) hl
    have hp12 : 2 ^ 12 = 4096 := by decide
    refine ⟨_, (Evl.pss_cut (ps_set (i := 2) nd rfl (Or.inl rfl) (pe_lst (pa_cons (pe_tup pa_nil) pa_nil)))
      (Evl.pss_cut (ps_for PassesOwn.never rfl (pi_range1 (by rfl) B.range (pa_cons (pv 1) pa_nil)) (pg_name (i := 3) nd rfl (Or.inr rfl)) (pss_one (ps_setLc2 (i := 2) (own := [("row", 4), ("at", 5)]) (vs1 := [5]) rfl nd rfl rfl (sw_true rfl rfl rfl (by decide +kernel)) (kPiL K (pv 2)) (blkOk_by (N := ["things", "many", "rows", "k", "row", "at"]) (sc := defScope (topS 35)) (by decide +kernel)) (by decide) (fun _ _ _ _ _ => (pg_name (i := 4) nd rfl (Or.inl rfl))) (fun _ _ _ _ _ => pts_nil) (fun _ _ _ _ _ => (pi_range2 (by rfl) B.range (pa_cons (pe_ifExp (pt_cmpR op_gt (pv 3) pe_int (nomark _)) (pe_op op_add (pe_ix (kIxT K) (pv 4) (pe_un un_neg pe_int) (fun _ _ => rfl)) pe_int) pe_int) (pa_cons (pe_callB (kLen K) (by rfl) B.len PySem.boot_len (pa_cons (pv 0) pa_nil)) pa_nil)))) (fun _ _ _ _ _ => (pg_name (i := 5) nd rfl (Or.inl rfl))) (fun _ _ _ _ _ => pts_nil) (fun _ _ _ _ _ => (pe_op (kCatA K) (pv 4) (pe_tup (pa_cons (pv 5) pa_nil)))))))
      (pss_one (ps_ret (pe_lc (own := [("row", 4)]) rfl nd (kPiL K (pv 2)) (blkOk_by (N := ["things", "many", "rows", "k", "row", "at"]) (sc := defScope (topS 35)) (by decide +kernel)) (fun _ _ _ _ _ => (pg_name (i := 4) nd rfl (Or.inl rfl))) (fun _ _ _ _ _ => pts_nil) (fun _ _ _ _ _ => (kTupleOf K (by rfl) B.tuple (pe_lc (own := [("at", 5)]) rfl nd (kPiT K (pv 4)) (blkOk_by (by with_unfolding_all rfl)) (fun _ _ _ _ _ => (pg_name (i := 5) nd rfl (Or.inl rfl))) (fun _ _ _ _ _ => pts_nil) (fun _ _ _ _ _ => (pe_ix (kIx K) (pv 0) (pv 5) (fun _ _ => rfl))))))))))), ?_⟩
    -- rows = [()]
    refine ⟨fun σ1 H1 => ∃ (d t : Addr), σ1 = [some (.ref a), some (.int (m : Int)), some (.ref d), none, none, none] ∧ Same H H1 ∧ H1 d = some (.lst [.ref t]) ∧ H1 t = some (.tup []), ?_, ?_⟩
    · refine ⟨Nat.zero_le _, fun t nt => ⟨by show 1 ≤ sizeLine; decide, fun d nd0 => ?_⟩⟩
      have et := same_upd (o := HO.tup []) nt
      have ed := same_upd (o := HO.lst [V.ref t]) nd0
      exact ⟨d, t, rfl, Same.trans et ed, upd_same, ed _ _ upd_same⟩
    rintro σ1 H1 ⟨d, t, rfl, e1, hd1, ht1⟩
    -- for k in range(many)
    refine ⟨fun σ2 H2 => ∃ (r : Addr) (v3 v4 v5 : Option V) (us : List V), σ2 = [some (.ref a), some (.int (m : Int)), some (.ref r), v3, v4, v5] ∧ Same H H2 ∧ H2 r = some (.lst us) ∧ Ats H2 rowV us (rowsK xs.length m), ?_, ?_⟩
    · refine ⟨_, rfl, (m : Int), rfl, by omega, by omega, ?_⟩
      refine for_it walk_range (fun k σ' H' => ∃ (r : Addr) (v3 v4 v5 : Option V) (us : List V), σ' = [some (.ref a), some (.int (m : Int)), some (.ref r), v3, v4, v5] ∧ Same H H' ∧ H' r = some (.lst us) ∧ Ats H' rowV us (rowsK xs.length k)) ?_ (fun _ _ _ _ _ => trivial) ?_ ?_
      · exact ⟨d, none, none, none, [.ref t], rfl, e1, hd1, Ats.one ht1⟩
      · rintro k x σ' H0 H2 hk ⟨r, v3, v4, v5, us, rfl, e2, hr2, at2⟩ ⟨rfl, rfl⟩
        have hok := rowsK_ok xs.length k
        refine ⟨_, rfl, r, rfl, ⟨_, SqL.of hr2⟩, fun D nD => ?_⟩
        refine outer_it (walk_list (xs := us)) (fun i H' => ∃ vs2, Same H2 H' ∧ H' D = some (.lst vs2) ∧ Ats H' rowV vs2 (nextK xs.length k ((rowsK xs.length k).take i))) ?_ (fun i H' _ ⟨_, e5, _⟩ => SqL.of (e5 _ _ hr2)) ?_ ?_
        · exact ⟨[], same_upd nD, upd_same, .nil⟩
        · rintro i x H5 H6 hi ⟨vs2, e5, hD, at5⟩ ⟨rfl, hx⟩
          have hir : i < (rowsK xs.length k).length := by rw [← at2.1]; exact hi
          obtain ⟨row, hrow⟩ : ∃ row, (rowsK xs.length k)[i]? = some row := ⟨_, List.getElem?_eq_getElem hir⟩
          obtain ⟨b, rfl, hb⟩ := at2.2 i x row hx hrow
          have o := hok row (List.mem_of_getElem? hrow)
          have hst := sttK_le o
          refine ⟨rfl, yes2 ?_⟩
          refine startK rfl rfl (SqT.of (e5 _ _ hb)) o ?_
          refine ⟨_, rfl, .ref a, xs.length, rfl, hS.imp (fun z => ⟨_, (Same.trans e2 e5).seq z, rfl⟩) (fun z => ⟨_, Same.sqt (Same.trans e2 e5) z, rfl⟩), _, _, rfl, ⟨by omega, by omega, by omega, by omega⟩, ?_⟩
          refine inner_it walk_range (fun j H' => ∃ vs3, Same H2 H' ∧ H' D = some (.lst vs3) ∧ Ats H' rowV vs3 (nextK xs.length k ((rowsK xs.length k).take i) ++ (growK xs.length k row).take j)) ?_ (fun _ _ _ _ => trivial) ?_ ?_
          · exact ⟨vs2, e5, hD, by rw [List.take_zero, List.append_nil]; exact at5⟩
          · rintro j x H7 H8 hj ⟨vs3, e7, hD7, at7⟩ ⟨rfl, rfl⟩
            have hj : j < xs.length - sttK k row := by omega
            refine ⟨rfl, yes2 ?_⟩
            have fin : ∀ (b' : Addr) (H9 : Hp), Same H8 H9 → H9 b' = some (.tup (rowV (row ++ [sttK k row + j]))) → ∃ acc, H9 D = some (.lst acc) ∧ acc.length < sizeLine ∧ ∃ vs3, Same H2 (upd H9 D (.lst (acc ++ [.ref b']))) ∧ (upd H9 D (.lst (acc ++ [.ref b']))) D = some (.lst vs3) ∧
                Ats (upd H9 D (.lst (acc ++ [.ref b']))) rowV vs3 (nextK xs.length k ((rowsK xs.length k).take i) ++ (growK xs.length k row).take (j + 1)) := by
              intro b' H9 e9 hb'
              have hD9 := e9 _ _ hD7
              have lenv : vs3.length ≤ 4096 + 12 := by
                rw [at7.1, List.length_append]
                have h1 := nextK_take_len (n := xs.length) (k := k) i
                have h3 : ((growK xs.length k row).take j).length ≤ 12 := by
                  rw [List.length_take, growK_length]
                  omega
                omega
              refine ⟨vs3, hD9, Evl.sz_lt (by omega), vs3 ++ [.ref b'], Same.grow (Same.trans e7 e9) nD, upd_same, ?_⟩
              refine Ats.updL ?_ hD9
              rw [take_succ (growK_at hj), ← List.append_assoc]
              exact (at7.same e9).append (Ats.one hb')
            refine ⟨_, rfl, _, rfl, by show 1 ≤ sizeLine; decide, fun p np => ?_⟩
            have ep := same_upd (o := HO.tup [V.int ((sttK k row : Int) + (j : Int))]) np
            have ev : rowV (row ++ [sttK k row + j]) = rowV row ++ [V.int ((sttK k row : Int) + (j : Int))] := by
              unfold rowV
              rw [List.map_append]
              show _ ++ [V.int ((sttK k row + j : Nat) : Int)] = _
              rw [show ((sttK k row + j : Nat) : Int) = (sttK k row : Int) + (j : Int) by omega]
            refine ⟨b, p, rowV row, _, rfl, rfl, SqT.of (ep _ _ (e7 _ _ hb)), SqT.of upd_same, ?_, fun z => ?_, fun _ z => ?_, fun _ _ t nt => ?_⟩
            · rw [rowV_len, o.len]
              refine Evl.sz_of ?_
              show k + 1 ≤ 100000
              omega
            · refine fin p _ ep ?_
              rw [upd_same, ev, z]
              rfl
            · cases z
            · refine fin t _ (Same.trans ep (same_upd nt)) ?_
              rw [upd_same, ev]
          · rintro H7 ⟨vs3, e7, hD7, at7⟩
            refine ⟨vs3, e7, hD7, ?_⟩
            have eg : (growK xs.length k row).take ((xs.length : Int) - (sttK k row : Int)).toNat = growK xs.length k row := List.take_of_length_le (by rw [growK_length]; omega)
            rw [eg] at at7
            rw [nextK_snoc hrow]
            exact at7
        · rintro H5 ⟨vs2, e5, hD, at5⟩
          rw [List.take_of_length_le (by rw [← at2.1]; exact Nat.le_refl _)] at at5
          exact ⟨D, _, _, _, vs2, rfl, Same.trans e2 e5, hD, at5⟩
      · rintro σ' H2 ⟨r, v3, v4, v5, us, rfl, e2, hr2, at2⟩
        exact ⟨r, v3, v4, v5, us, rfl, e2, hr2, at2⟩
    rintro σ3 H3 ⟨r, v3, v4, v5, us, rfl, e3, hr3, at3⟩
    -- the things of each row
    have hok := rowsK_ok xs.length m
    have lenus : us.length = (rowsK xs.length m).length := at3.1
    have hlen := rowsK_len xs.length m
    refine ⟨_, rfl, r, rfl, ⟨_, SqL.of hr3⟩, fun D nD => ?_⟩
    refine lc_it (walk_list (xs := us)) (fun i H' => ∃ vs2, Same H3 H' ∧ H' D = some (.lst vs2) ∧ Ats H' (fun l => l) vs2 ((subsOf xs (rowsK xs.length m)).take i)) ?_ (fun i H' _ ⟨_, e5, _⟩ => SqL.of (e5 _ _ hr3)) ?_ ?_
    · exact ⟨[], same_upd nD, upd_same, .nil⟩
    · rintro i x H5 H6 hi ⟨vs2, e5, hD, at5⟩ ⟨rfl, hx⟩
      have hir : i < (rowsK xs.length m).length := by rw [← at3.1]; exact hi
      obtain ⟨row, hrow⟩ : ∃ row, (rowsK xs.length m)[i]? = some row := ⟨_, List.getElem?_eq_getElem hir⟩
      obtain ⟨b, rfl, hb⟩ := at3.2 i x row hx hrow
      have o := hok row (List.mem_of_getElem? hrow)
      refine ⟨rfl, yes2 ?_⟩
      refine ⟨_, rfl, b, rfl, ⟨_, SqT.of (e5 _ _ hb)⟩, fun D2 nD2 => ?_⟩
      refine lc_it (walk_tup (xs := rowV row)) (Upto H6 D2 row fun k => xs.getD k .non) (.zero nD2) (fun j H' _ u => SqT.of (u.sm _ _ (e5 _ _ hb))) ?_ ?_
      · rintro j x H7 H8 hj u ⟨rfl, hx2⟩
        unfold rowV at hx2
        rw [List.getElem?_map] at hx2
        obtain ⟨k, hk, rfl⟩ := Option.map_eq_some_iff.mp hx2
        have hkn : k < xs.length := o.lt k (List.mem_of_getElem? hk)
        have ea : xs[k]? = some (xs.getD k .non) := by rw [List.getD_eq_getElem?_getD, List.getElem?_eq_getElem hkn]; rfl
        have hj12 : j < 12 := by
          have h1 := o.len
          have h2 : j < (rowV row).length := hj
          rw [rowV_len] at h2
          omega
        refine ⟨rfl, yes2 ?_⟩
        have eH := Same.trans e3 (Same.trans e5 u.sm)
        refine ⟨_, rfl, _, rfl, ?_⟩
        rcases hS with z | z
        · exact .inl ⟨a, xs, (k : Int), _, rfl, rfl, eH.seq z, atI_nat ea, u.next nD2 hk (Same.refl _) (by have := o.len; omega)⟩
        · exact .inr (.inl ⟨a, xs, (k : Int), _, rfl, rfl, Same.sqt eH z, atI_nat ea, u.next nD2 hk (Same.refl _) (by have := o.len; omega)⟩)
      · intro H7 u
        have eD2 := u.all (rowV_len row)
        refine .inl ⟨D2, _, rfl, SqL.of eD2, fun p np => ?_⟩
        have ep := same_upd (o := HO.tup (row.map fun k => xs.getD k V.non)) np
        have hD7 := ep _ _ (u.sm _ _ hD)
        have hlot : (subsOf xs (rowsK xs.length m))[i]? = some (row.map fun k => xs.getD k V.non) := by
          unfold subsOf
          rw [List.getElem?_map, hrow]
          rfl
        refine ⟨vs2, hD7, Evl.sz_lt ?_, vs2 ++ [.ref p], Same.grow (Same.trans e5 (Same.trans u.sm ep)) nD, upd_same, ?_⟩
        · rw [at5.1, List.length_take]
          unfold subsOf
          rw [List.length_map]
          omega
        · refine Ats.updL ?_ hD7
          rw [take_succ hlot]
          exact ((at5.same u.sm).same ep).append (Ats.one upd_same)
    · rintro H5 ⟨vs2, e5, hD, at5⟩
      rw [List.take_of_length_le (by unfold subsOf; rw [List.length_map, lenus]; exact Nat.le_refl _)] at at5
      exact q D vs2 H5 (e3.free nD) (Same.trans e3 e5) hD at5
theorem scChoices : FnScope ["things", "many", "choice"] ["things"] (defScope (topS 34)) := ⟨rfl, rfl, rfl, by decide +kernel, rfl, by decide +kernel, by decide +kernel⟩
theorem ok_choices (B : Bi mg) {f f1 : Addr} {fd fd1 : FuncData} (c_choices_of : Cal P w K mg base CX0 1 "choices_of" f1 fd1 ["things", "many"] (spChoicesOf K)) (F : Fun K "choices" "choices" (topS 34) f fd) : FnOk P w K mg base CX0 2 f fd ["things"] (spChoices K) := by
  refine F.ok scChoices (fun vs H Q E h => ?_) (fun cdv A outer s H vs Q E hr h => ?_)
  · obtain ⟨a, xs, rfl, _⟩ := h
    rfl
  · obtain ⟨a, xs, rfl, hS, hl, q⟩ := h
    have nd := scChoices.nd
    have hu := hu_of hr
    have hr_choices_of := hr
    have hpow : 2 ^ xs.length ≤ 2 ^ 12 := Nat.pow_le_pow_right (by decide) hl
    have hp12 : 2 ^ 12 = 4096 := by decide
    have hcl : ∀ i, i ≤ 12 → ((List.range' 1 i).flatMap (rowsK xs.length)).length ≤ 12 * 4096 := fun i hi => by
      have h := flatMap_len (f := rowsK xs.length) (m := 4096) (l := List.range' 1 i) fun x _ => by have := rowsK_len xs.length x; omega
      rw [List.length_range'] at h
      exact Nat.le_trans h (Nat.mul_le_mul_right _ hi)
    refine ⟨_, (pss_one (ps_ret (pe_lc2 (own := [("many", 1), ("choice", 2)]) (vs1 := [2]) rfl nd (pi_range2 (by rfl) B.range (pa_cons pe_int (pa_cons (pe_op op_add (pe_callB (kLen K) (by rfl) B.len PySem.boot_len (pa_cons (pv 0) pa_nil)) pe_int) pa_nil))) (blkOk_by (N := ["things", "many", "choice"]) (sc := defScope (topS 34)) (by decide +kernel)) (by decide) (fun _ _ _ _ _ => (pg_name (i := 1) nd rfl (Or.inl rfl))) (fun _ _ _ _ _ => pts_nil) (fun _ _ _ _ _ => (kPiL K (pe_call c_choices_of.ok hr_choices_of (by rfl) c_choices_of.g c_choices_of.kp c_choices_of.b .nil pass0 (pa_cons (pv 0) (pa_cons (pv 1) pa_nil))))) (fun _ _ _ _ _ => (pg_name (i := 2) nd rfl (Or.inl rfl))) (fun _ _ _ _ _ => pts_nil) (fun _ _ _ _ _ => (pv 2))))), ?_⟩
    refine ⟨.ref a, rfl, .ref a, xs.length, rfl, hS.imp (fun z => ⟨_, z, rfl⟩) (fun z => ⟨_, z, rfl⟩), _, _, rfl, rfl, _, _, rfl, ⟨by omega, by omega, by omega, by omega⟩, fun D nD => ?_⟩
    have en : ((xs.length : Int) + 1 - 1).toNat = xs.length := by omega
    rw [en]
    refine outer_it walk_range (fun i H' => ∃ ws, Same H H' ∧ H' D = some (.lst ws) ∧ Ats H' (fun l => l) ws (subsOf xs ((List.range' 1 i).flatMap (rowsK xs.length)))) ?_ (fun _ _ _ _ => trivial) ?_ ?_
    · exact ⟨[], same_upd nD, upd_same, .nil⟩
    · rintro i x H0 H6 hi ⟨ws, e6, hD, at6⟩ ⟨rfl, rfl⟩
      refine ⟨rfl, yes2 ?_⟩
      refine ⟨_, rfl, _, rfl, a, xs, i + 1, ?_, hS.imp (fun z => e6.seq z) (fun z => Same.sqt e6 z), hl, by omega, fun D2 ws2 H8 nD2 e8 hD2 at8 => ?_⟩
      · show [V.ref a, V.int (1 + (i : Int))] = [V.ref a, V.int ((i + 1 : Nat) : Int)]
        rw [show ((i + 1 : Nat) : Int) = 1 + (i : Int) by omega]
      have hD8 := e8 _ _ hD
      have nDD : D2 ≠ D := (ne_of_none hD nD2).symm
      refine ⟨D2, rfl, ⟨_, SqL.of hD2⟩, ?_⟩
      refine inner_it (walk_list (xs := ws2)) (fun j H' => ∃ vs3, But D H8 H' ∧ H' D = some (.lst vs3) ∧ Ats H' (fun l => l) vs3 (subsOf xs ((List.range' 1 i).flatMap (rowsK xs.length)) ++ (subsOf xs (rowsK xs.length (i + 1))).take j)) ?_ (fun j H' _ ⟨_, bt, _⟩ => SqL.of (bt _ _ nDD hD2)) ?_ ?_
      · exact ⟨ws, fun _ _ _ e => e, hD8, by rw [List.take_zero, List.append_nil]; exact at6.same e8⟩
      · rintro j x H9 H10 hj ⟨vs3, bt, hD9, at9⟩ ⟨rfl, hx⟩
        have hjr : j < (subsOf xs (rowsK xs.length (i + 1))).length := by rw [← at8.1]; exact hj
        obtain ⟨row, hrow⟩ : ∃ row, (subsOf xs (rowsK xs.length (i + 1)))[j]? = some row := ⟨_, List.getElem?_eq_getElem hjr⟩
        obtain ⟨b, rfl, hb⟩ := at8.2 j x row hx hrow
        refine ⟨rfl, yes2 ?_⟩
        have hlen9 : vs3.length < 60000 := by
          rw [at9.1, List.length_append]
          have h1 : (subsOf xs ((List.range' 1 i).flatMap (rowsK xs.length))).length ≤ 12 * 4096 := by
            unfold subsOf
            rw [List.length_map]
            exact hcl i (by omega)
          have h2 : ((subsOf xs (rowsK xs.length (i + 1))).take j).length ≤ 4096 := by
            rw [List.length_take]
            unfold subsOf
            rw [List.length_map]
            have := rowsK_len xs.length (i + 1)
            omega
          omega
        have nbD : b ≠ D := ne_of hb hD8 (fun z => nomatch z)
        refine ⟨_, rfl, vs3, hD9, Evl.sz_lt (by omega), vs3 ++ [.ref b], bt.trans But.upd, upd_same, ?_⟩
        rw [take_succ hrow, ← List.append_assoc]
        exact (at9.append (Ats.one (bt _ _ nbD hb))).updL hD9
      · rintro H9 ⟨vs3, bt, hD9, at9⟩
        rw [List.take_of_length_le (by rw [at8.1]; exact Nat.le_refl _)] at at9
        refine ⟨vs3, fun b u hb => bt _ _ (ne_of_none hb nD) (e8 _ _ (e6 _ _ hb)), hD9, ?_⟩
        have ee : subsOf xs ((List.range' 1 (i + 1)).flatMap (rowsK xs.length)) = subsOf xs ((List.range' 1 i).flatMap (rowsK xs.length)) ++ subsOf xs (rowsK xs.length (i + 1)) := by
          rw [List.range'_concat, List.flatMap_append, List.flatMap_cons, List.flatMap_nil, List.append_nil]
          unfold subsOf
          rw [List.map_append, show 1 + 1 * i = i + 1 by omega]
        rw [ee]
        exact at9
    · rintro H5 ⟨ws, e5, hD, at5⟩
      rw [← lotRows_K] at at5
      exact q D ws H5 nD e5 hD at5
end
end Bk

namespace Bk
open PySem PySem.Spec PyProof.Rows L2
section
variable {P : Program} {w : World} {K : PySem.W.Frag} {mg : Str → Option Value} {base : Heap}
theorem scNeigh : FnScope ["names", "many", "long", "at"] ["names"] (defScope (topS 36)) := ⟨rfl, rfl, rfl, by decide +kernel, rfl, by decide +kernel, by decide +kernel⟩
theorem ok_neigh (B : Bi mg) {f : Addr} {fd : FuncData} (F : Fun K "rows_of_neighbours" "rows_of_neighbours" (topS 36) f fd) : FnOk P w K mg base CX0 1 f fd ["names"] spNeigh := by
  refine F.ok scNeigh (fun vs H Q E h => ?_) (fun cdv A outer s H vs Q E hr h => ?_)
  · obtain ⟨a, zs, rfl, _⟩ := h
    rfl
  · obtain ⟨a, zs, rfl, hS, hl, q⟩ := h
    have nd := scNeigh.nd
    have hu := hu_of hr
    refine ⟨_, (pss_cons (ps_set (i := 1) nd rfl (Or.inr rfl) (pe_callB (kLen K) (by rfl) B.len PySem.boot_len (pa_cons (pv 0) pa_nil)))
      (pss_one (ps_ret (pe_lc2 (own := [("long", 2), ("at", 3)]) (vs1 := [3]) rfl nd (pi_range2 (by rfl) B.range (pa_cons pe_int (pa_cons (pe_op op_add (pv 1) pe_int) pa_nil))) (blkOk_by (N := ["names", "many", "long", "at"]) (sc := defScope (topS 36)) (by decide +kernel)) (by decide) (fun _ _ _ _ _ => (pg_name (i := 2) nd rfl (Or.inl rfl))) (fun _ _ _ _ _ => pts_nil) (fun _ _ _ _ _ => (pi_range1 (by rfl) B.range (pa_cons (pe_op op_sub (pe_op op_add (pv 1) pe_int) (pv 2)) pa_nil))) (fun _ _ _ _ _ => (pg_name (i := 3) nd rfl (Or.inl rfl))) (fun _ _ _ _ _ => pts_nil) (fun _ _ _ _ _ => (pe_slice (kSlT K) (pv 0) (po_some (pv 3)) (po_some (pe_op op_add (pv 3) (pv 2))))))))), ?_⟩
    refine ⟨_, rfl, .ref a, zs.length, rfl, .inr ⟨_, SqT.of hS, by rw [List.length_map]⟩, ?_⟩
    refine ⟨_, rfl, _, _, rfl, rfl, _, _, rfl, ⟨by omega, by omega, by omega, by omega⟩, fun D nD => ?_⟩
    have hcl : ∀ k, ((List.range k).flatMap (longRows zs)).length ≤ k * 100 := fun k => by
      have := flatMap_len (f := longRows zs) (m := 100) (l := List.range k) fun x _ => by rw [longRows_len]; omega
      rw [List.length_range] at this
      exact this
    have en : ((zs.length : Int) + 1 - 1).toNat = zs.length := by omega
    rw [en]
    refine outer_it walk_range (fun i H' => ∃ vs2, Same H H' ∧ H' D = some (.lst vs2) ∧ Ats H' (fun l : List Str => l.map V.str) vs2 ((List.range i).flatMap (longRows zs))) ?_ (fun _ _ _ _ => trivial) ?_ ?_
    · exact ⟨[], same_upd nD, upd_same, .nil⟩
    · rintro i x H5 H6 hi ⟨vs2, e5, hD, at5⟩ ⟨rfl, rfl⟩
      refine ⟨rfl, yes2 ?_⟩
      refine ⟨_, rfl, _, _, rfl, rfl, _, rfl, _, _, rfl, rfl, _, rfl, by omega, by omega, ?_⟩
      have ec : ((zs.length : Int) + 1 - (1 + (i : Int))).toNat = zs.length - i := by omega
      rw [ec]
      refine inner_it walk_range (fun j H' => ∃ vs3, Same H H' ∧ H' D = some (.lst vs3) ∧ Ats H' (fun l : List Str => l.map V.str) vs3 ((List.range i).flatMap (longRows zs) ++ (longRows zs i).take j)) ?_ (fun _ _ _ _ => trivial) ?_ ?_
      · exact ⟨vs2, e5, hD, by rw [List.take_zero, List.append_nil]; exact at5⟩
      · rintro j x H7 H8 hj ⟨vs3, e7, hD7, at7⟩ ⟨rfl, rfl⟩
        refine ⟨rfl, yes2 ?_⟩
        have ecut : cutV (zs.map V.str) (some (0 + (j : Int))) (some (0 + (j : Int) + (1 + (i : Int)))) = ((zs.drop j).take (i + 1)).map V.str := by
          rw [show 0 + (j : Int) = ((j : Nat) : Int) by omega, show (j : Int) + (1 + (i : Int)) = ((j + (i + 1) : Nat) : Int) by omega, cut_mid _ _ _ (by omega) (by rw [List.length_map]; omega), List.map_take, List.map_drop]
          congr 1
          omega
        have hS8 := e7 _ _ hS
        have lenv : vs3.length + 1 ≤ 100000 := by
          rw [at7.1, List.length_append, List.length_take, longRows_len]
          have := hcl i
          omega
        have last : ∀ (b : Addr) (H9 : Hp), Same H8 H9 → H9 b = some (.tup (((zs.drop j).take (i + 1)).map V.str)) → ∃ acc, H9 D = some (.lst acc) ∧ acc.length < sizeLine ∧ ∃ vs3, Same H (upd H9 D (.lst (acc ++ [.ref b]))) ∧ (upd H9 D (.lst (acc ++ [.ref b]))) D = some (.lst vs3) ∧
            Ats (upd H9 D (.lst (acc ++ [.ref b]))) (fun l : List Str => l.map V.str) vs3 ((List.range i).flatMap (longRows zs) ++ (longRows zs i).take (j + 1)) := by
          intro b H9 e9 hb
          have hD9 := e9 _ _ hD7
          refine ⟨vs3, hD9, Evl.sz_lt (by omega), vs3 ++ [.ref b], Same.grow (Same.trans e7 e9) nD, upd_same, ?_⟩
          refine Ats.updL ?_ hD9
          rw [take_succ (longRows_at hj), ← List.append_assoc]
          exact (at7.same e9).append (Ats.one hb)
        refine ⟨_, rfl, _, rfl, _, rfl, _, rfl, _, rfl, _, _, rfl, rfl, _, rfl, a, _, rfl, SqT.of hS8, fun hw => ?_, fun hw p np => ?_⟩
        · refine last a H8 (Same.refl _) ?_
          have e0 : cutV (zs.map V.str) (some (0 + (j : Int))) (some (0 + (j : Int) + (1 + (i : Int)))) = zs.map V.str := by
            unfold cutV
            rw [hw.1, hw.2, List.drop_zero, Nat.sub_zero, List.take_length]
          rw [← ecut, e0]
          exact hS8
        · rw [ecut]
          exact last p _ (same_upd np) upd_same
      · rintro H7 ⟨vs3, e7, hD7, at7⟩
        refine ⟨vs3, e7, hD7, ?_⟩
        have eg : (longRows zs i).take (zs.length - i) = longRows zs i := List.take_of_length_le (by rw [longRows_len]; omega)
        rw [eg] at at7
        rw [List.range_succ, List.flatMap_append, List.flatMap_cons, List.flatMap_nil, List.append_nil]
        exact at7
    · rintro H5 ⟨vs2, e5, hD, at5⟩
      exact q D vs2 H5 nD e5 hD at5
end
end Bk

namespace Bk
open PySem PySem.Spec PyProof.Rows L2
section
variable {P : Program} {w : World} {K : PySem.W.Frag} {mg : Str → Option Value} {base : Heap}
theorem scBF : FnScope ["self", "index"] ["self", "index"] (defScope (inClass (topS 3) 0)) := ⟨rfl, rfl, rfl, by decide +kernel, rfl, by decide +kernel, by decide +kernel⟩
theorem ok_BF {C f : Addr} {fd : FuncData} (T : ExT K mg "BadFolders" C f "index") (F : Fun K "__init__" "BadFolders.__init__" (inClass (topS 3) 0) f fd) : FnOk P w K mg base CX0 1 f fd ["self", "index"] (spExcInit C "index") := by
  refine F.ok scBF (fun vs H Q E h => ?_) (fun cdv A outer s H vs Q E hr h => ?_)
  · obtain ⟨a, v, rfl, _⟩ := h
    rfl
  · obtain ⟨a, v, rfl, ha, q⟩ := h
    refine ⟨_, pss_one (ps_ost (pv 0) (pv 1)), ?_⟩
    exact ⟨_, rfl, _, rfl, a, C, rfl, T.o, T.noF, .inl ⟨ha, fun dx ndx hne => q dx ndx hne⟩⟩
theorem scFol : FnScope ["self", "names", "chain", "wrong", "lots", "at", "lot"] ["self", "names", "chain"] (defScope (inClass (topS 32) 0)) := ⟨rfl, rfl, rfl, by decide +kernel, rfl, by decide +kernel, by decide +kernel⟩
theorem ok_folders (B : Bi mg) {C CB f fB f1 f2 f3 : Addr} {fd fdB fd1 fd2 fd3 : FuncData} {t1 t2 : Tok} {kws : List (Str × V)} (g_MOST_FOLDERS : mg "MOST_FOLDERS" = some (.int 5 t1)) (g_MOST_IN_CHAIN : mg "MOST_IN_CHAIN" = some (.int 12 t2)) (T_BadFolders : ExT K mg "BadFolders" CB fB "index") (T : FolT K mg C f)
    (G_BadFolders : FnOk P w K mg base CX0 1 fB fdB ["self", "index"] (spExcInit CB "index")) (b_BadFolders : Binds K fdB ["self", "index"] [])
    (c_first_wrong : Cal P w K mg base CX0 2 "first_wrong" f1 fd1 ["names", "most"] (spFirstWrong K)) (c_choices : Cal P w K mg base CX0 2 "choices" f2 fd2 ["things"] (spChoices K)) (c_rows_of_neighbours : Cal P w K mg base CX0 1 "rows_of_neighbours" f3 fd3 ["names"] spNeigh)
    (F : FunD K "__init__" "Folders.__init__" (defArgs (inClass (topS 32) 0)) (defBody (inClass (topS 32) 0)) (defScope (inClass (topS 32) 0)) [] kws f fd) : FnOk P w K mg base (L2.CX P w) 3 f fd ["self", "names", "chain"] (spFolders K C CB) := by
  refine F.ok scFol (fun vs H Q E h => ?_) (fun cdv A outer s H vs Q E hr h => ?_)
  · obtain ⟨x, dx, nm, o, ch, rfl, _⟩ := h
    rfl
  · obtain ⟨x, dx, nm, o, ch, rfl, hx, Th, kE, kQ⟩ := h
    have nd := scFol.nd
    have hu := hu_of hr
    have hr_first_wrong := hr
    have hrE := hr
    have hr_choices := hr
    have hr_rows_of_neighbours : Room 1 _ := hr.mono (by decide)
    refine ⟨_, (Evl.pss_cut (ps_set (i := 3) nd rfl (Or.inl rfl) (pe_call c_first_wrong.ok hr_first_wrong (by rfl) c_first_wrong.g c_first_wrong.kp c_first_wrong.b .nil pass0 (pa_cons (pv 1) (pa_cons (pe_ifExp (pt_val (pv 2)) (pe_glob (v := .int 12) (by rfl) g_MOST_IN_CHAIN ⟨_, rfl⟩) (pe_glob (v := .int 5) (by rfl) g_MOST_FOLDERS ⟨_, rfl⟩)) pa_nil))))
      (Evl.pss_cut (ps_if (pt_cmpR op_notN (pv 3) pe_non (nomark _)) (pss_one (ps_raise rfl (takes_of rfl rfl rfl rfl) (pmk_oex T_BadFolders.o T_BadFolders.iC T_BadFolders.tI G_BadFolders hrE b_BadFolders .nil pass0 (by rfl) T_BadFolders.g (pa_cons (pv 3) pa_nil)))) pss_nil)
      (Evl.pss_cut (ps_fld (pv 0) (kTupleOf K (by rfl) B.tuple (pv 1)) rfl)
      (Evl.pss_cut (ps_fld (pv 0) (pv 2) rfl)
      (Evl.pss_cut (ps_set (i := 4) nd rfl (Or.inl rfl) (pe_ifExp (pt_val (pv 2)) (pe_call c_rows_of_neighbours.ok hr_rows_of_neighbours (by rfl) c_rows_of_neighbours.g c_rows_of_neighbours.kp c_rows_of_neighbours.b .nil pass0 (pa_cons (pe_fld (pv 0) rfl) pa_nil)) (pe_call c_choices.ok hr_choices (by rfl) c_choices.g c_choices.kp c_choices.b .nil pass0 (pa_cons (pe_fld (pv 0) rfl) pa_nil))))
      (pss_one (ps_fld (pv 0) (pe_dcT (own := [("at", 5), ("lot", 6)]) hr.units0 rfl nd (kPiE K (by rfl) B.enumerate (pa_cons (pv 4) pa_nil)) (blkOk_by (N := ["self", "names", "chain", "wrong", "lots", "at", "lot"]) (sc := defScope (inClass (topS 32) 0)) (by decide +kernel)) (fun _ _ _ _ _ => (kTg K 2 rfl (pgs_cons (pg_name (i := 5) nd rfl (Or.inl rfl)) (pgs_cons (pg_name (i := 6) nd rfl (Or.inl rfl)) pgs_nil)))) (fun _ _ _ _ _ => (pv 6)) (fun _ _ _ _ _ => (pv 5))) rfl))))))), ?_⟩
    -- wrong = first_wrong(..)
    refine ⟨fun σ1 H1 => σ1 = [some (.ref x), some nm, some (.bl ch), some (optV (wrongOf o (mostFor ch))), none, none, none] ∧ Same H H1, ?_, ?_⟩
    · cases ch with
      | true =>
        refine ⟨_, rfl, _, rfl, _, rfl, ?_⟩
        refine iteT ?_
        exact ⟨nm, o, 12, rfl, Th, fun H1 e1 => ⟨rfl, e1⟩⟩
      | false =>
        refine ⟨_, rfl, _, rfl, _, rfl, ?_⟩
        refine iteF ?_
        exact ⟨nm, o, 5, rfl, Th, fun H1 e1 => ⟨rfl, e1⟩⟩
    rintro σ1 H1 ⟨rfl, e1⟩
    -- if wrong is not None: raise BadFolders(wrong)
    refine ⟨fun σ2 H2 => wrongOf o (mostFor ch) = none ∧ σ2 = [some (.ref x), some nm, some (.bl ch), some .non, none, none, none] ∧ Same H H2, ?_, ?_⟩
    · cases hw : wrongOf o (mostFor ch) with
      | some i =>
        refine ⟨_, rfl, rfl, _, rfl, ?_⟩
        refine iteT ?_
        refine mkO_of (v := .int (i : Int)) (H1 := H1) (fun R r => ⟨_, rfl, r⟩) fun d H' h => kE i d H' hw ⟨e1.free h.1, Same.trans e1 h.2.1, h.2.2⟩
      | none =>
        refine ⟨_, rfl, rfl, _, rfl, ?_⟩
        refine iteF ?_
        exact ⟨rfl, rfl, e1⟩
    rintro σ2 H2 ⟨hw, rfl, e2⟩
    obtain ⟨zs, rfl, zne, znames, zlen, znd⟩ := right_names hw
    obtain ⟨a, rfl, hS⟩ : ∃ a, nm = .ref a ∧ (SqL K H a (zs.map V.str) ∨ H a = some (.tup (zs.map V.str))) := by
      cases Th with
      | seq hS b hi hl => exact ⟨_, rfl, hS⟩
    have hx2 := e2 _ _ hx
    -- self.names = tuple(names)
    refine ⟨fun σ3 H3 => ∃ t, σ3 = [some (.ref x), some (.ref a), some (.bl ch), some .non, none, none, none] ∧ t ≠ x ∧ H3 x = some (.ins C dx [("names", .ref t)]) ∧ H3 t = some (.tup (zs.map V.str)) ∧ But x H H3, ?_, ?_⟩
    · have fin : ∀ (t : Addr) (H3 : Hp), Same H2 H3 → H3 t = some (.tup (zs.map V.str)) → ∃ p C' dx' fs, V.ref x = .ref p ∧ H3 p = some (.ins C' dx' fs) ∧ Cls K C' ∧ NoAttr K C' "names" ∧ fs.length < 1000 ∧
          ∃ t', [some (V.ref x), some (V.ref a), some (.bl ch), some .non, none, none, none] = [some (.ref x), some (.ref a), some (.bl ch), some .non, none, none, none] ∧ t' ≠ x ∧ (upd H3 p (.ins C' dx' (putF "names" (.ref t) fs))) x = some (.ins C dx [("names", .ref t')]) ∧ (upd H3 p (.ins C' dx' (putF "names" (.ref t) fs))) t' = some (.tup (zs.map V.str)) ∧ But x H (upd H3 p (.ins C' dx' (putF "names" (.ref t) fs))) := by
        intro t H3 e3 ht
        have ntx : t ≠ x := ne_of ht (e3 _ _ hx2) (fun z => nomatch z)
        exact ⟨x, C, dx, [], rfl, e3 _ _ hx2, T.cl, T.nN, by decide, t, rfl, ntx, upd_same, by rw [upd_ne ntx]; exact ht, (But.same (Same.trans e2 e3)).trans But.upd⟩
      rcases hS with hS | hS
      · exact ⟨_, rfl, .inl ⟨a, _, rfl, Same.seq e2 hS, fun q nq => ⟨_, rfl, fin q _ (same_upd nq) upd_same⟩⟩⟩
      · exact ⟨_, rfl, .inr ⟨a, _, rfl, SqT.of (e2 _ _ hS), ⟨_, rfl, fin a _ (Same.refl _) (e2 _ _ hS)⟩⟩⟩
    rintro σ3 H3 ⟨t, rfl, ntx, hx3, ht3, b3⟩
    -- self.chain = chain
    refine ⟨fun σ4 H4 => σ4 = [some (.ref x), some (.ref a), some (.bl ch), some .non, none, none, none] ∧ H4 x = some (.ins C dx [("names", .ref t), ("chain", .bl ch)]) ∧ H4 t = some (.tup (zs.map V.str)) ∧ But x H H4, ?_, ?_⟩
    · refine ⟨_, rfl, _, rfl, x, C, dx, _, rfl, hx3, T.cl, T.nC, by show 1 < 1000; decide, rfl, ?_, ?_, b3.trans But.upd⟩
      · rw [upd_same, put2]
      · rw [upd_ne ntx]
        exact ht3
    rintro σ4 H4 ⟨rfl, hx4, ht4, b4⟩
    -- lots = ..
    refine ⟨fun σ5 H5 => ∃ (D : Addr) (ws : List V), σ5 = [some (.ref x), some (.ref a), some (.bl ch), some .non, some (.ref D), none, none] ∧ Same H4 H5 ∧ H5 D = some (.lst ws) ∧ Ats H5 (fun l : List Str => l.map V.str) ws (lotsFor ch zs), ?_, ?_⟩
    · have hn : ∀ R : V → Hp → Prop, R (.ref t) H4 → ∃ p C' dx' fs v, V.ref x = .ref p ∧ H4 p = some (.ins C' dx' fs) ∧ Cls K C' ∧ NoAttr K C' "names" ∧ fs.lookup ("names" : Str) = some v ∧ R v H4 := fun R r => ⟨x, C, dx, _, _, rfl, hx4, T.cl, T.nN, look_n2 _ _, r⟩
      cases ch with
      | true =>
        refine ⟨_, rfl, _, rfl, ?_⟩
        refine iteT ?_
        exact ⟨_, rfl, hn _ ⟨t, zs, rfl, ht4, Nat.le_trans zlen (by decide), fun D ws H5 nD e5 hD at5 => ⟨D, ws, rfl, e5, hD, at5⟩⟩⟩
      | false =>
        refine ⟨_, rfl, _, rfl, ?_⟩
        refine iteF ?_
        exact ⟨_, rfl, hn _ ⟨t, zs.map V.str, rfl, .inr (SqT.of ht4), by rw [List.length_map]; exact Nat.le_trans zlen (by decide), fun D ws H5 nD e5 hD at5 => ⟨D, ws, rfl, e5, hD, lots_of_choices at5⟩⟩⟩
    rintro σ5 H5 ⟨D, ws, rfl, e5, hD5, at5⟩
    -- self.places = {lot: at for at, lot in enumerate(lots)}
    refine dcT_enL rfl (SqL.of hD5) fun D2 nD2 => ⟨fun k H' => Same H5 H' ∧ H' D2 = some (.dT (placesOf ((lotsFor ch zs).take k))), ⟨same_upd nD2, upd_same⟩, fun k H' ⟨e6, _⟩ => SqL.of (e6 _ _ hD5), ?_, ?_⟩
    · rintro k y H6 H7 hk ⟨e6, hd6⟩ ⟨T', y1, y2, rfl, nT, rfl, h1, h2⟩
      cases h1
      have h2 : ws[k]? = some y2 := h2
      obtain ⟨lot, hlot⟩ : ∃ lot, (lotsFor ch zs)[k]? = some lot := ⟨_, List.getElem?_eq_getElem (by rw [← at5.1]; exact hk)⟩
      obtain ⟨b, rfl, hb⟩ := at5.2 k y2 lot h2 hlot
      have eT := same_upd (o := HO.tup [V.int (k : Nat), .ref b]) nT
      refine ⟨T', _, rfl, SqT.of upd_same, rfl, _, _, rfl, _, _, rfl, rfl, ?_⟩
      refine ⟨rfl, _, rfl, _, rfl, placesOf ((lotsFor ch zs).take k), lot.map Sum.inr, b, rfl, ?_, eT _ _ hd6, ?_, Same.grow (Same.trans e6 eT) nD2, ?_⟩
      · rw [List.map_map]
        exact eT _ _ (e6 _ _ hb)
      · refine Nat.lt_of_le_of_lt (places_len _) ?_
        rw [List.length_take]
        have := lots_few zlen
        exact Evl.sz_lt (by omega)
      · rw [upd_same, places_snoc hlot]
    · rintro H6 ⟨e6, hd6⟩
      rw [at5.1, List.take_length] at hd6
      have hx6 := e6 _ _ (e5 _ _ hx4)
      have nD2x : D2 ≠ x := ne_of hd6 hx6 (fun z => nomatch z)
      refine ⟨_, rfl, x, C, dx, _, rfl, hx6, T.cl, T.nP, by show 2 < 1000; decide, kQ zs _ hw rfl znd ⟨dx, t, D2, ?_, ?_, ?_⟩ ?_⟩
      · rw [upd_same, put3]
        rfl
      · rw [upd_ne ntx]
        exact e6 _ _ (e5 _ _ ht4)
      · rw [upd_ne nD2x]
        exact hd6
      · exact (b4.trans (But.same (Same.trans e5 e6))).trans But.upd
end
end Bk

namespace Bk
open PySem PySem.Spec PyProof.Rows L2
section
variable {K : PySem.W.Frag} {H H' : Hp}
/-! ### data: None, truth values, ints, texts, lists and tuples of these -/
mutual
theorem Dp.sm (e : Same H H') : ∀ (d : PyData) (v : V), Dp K H v d → Dp K H' v d
  | _, _, .non => .non
  | _, _, .bl b => .bl b
  | _, _, .int i => .int i
  | _, _, .str x => .str x
  | .list ds, _, .lst h a => .lst (e.seq h) (DpAll.sm e ds _ a)
  | .tuple ds, _, .tup h a => .tup (Same.sqt e h) (DpAll.sm e ds _ a)
theorem DpAll.sm (e : Same H H') : ∀ (ds : List PyData) (vs : List V), DpAll K H vs ds → DpAll K H' vs ds
  | [], _, .nil => .nil
  | d :: ds, _, .cons a r => .cons (Dp.sm e d _ a) (DpAll.sm e ds _ r)
end
theorem DpAll.len : ∀ {vs : List V} {ds : List PyData}, DpAll K H vs ds → vs.length = ds.length
  | _, _, .nil => rfl
  | _, _, .cons _ r => congrArg (· + 1) (DpAll.len r)
theorem DpAll.get : ∀ {vs : List V} {ds : List PyData}, DpAll K H vs ds → ∀ {i : Nat} {v : V}, vs[i]? = some v → ∃ d, ds[i]? = some d ∧ Dp K H v d
  | _, _, .nil, i, v, h => by simp at h
  | _, _, .cons a r, 0, v, h => by
    cases h
    exact ⟨_, rfl, a⟩
  | _, _, .cons a r, i + 1, v, h => DpAll.get r (by simpa using h)
theorem tyx_l {a : Addr} {xs : List V} (h : SqL K H a xs) : TyX K H (.ref a) (.type "list") := by
  rcases h with (h | ⟨o, h⟩) | ⟨o, its, n, h, c, _⟩
  · exact .base (.lst h)
  · exact .base (.frz h)
  · exact .kList h c
theorem tyx_t {a : Addr} {xs : List V} (h : SqT K H a xs) : TyX K H (.ref a) (.type "tuple") := by
  rcases h with (h | ⟨o, h⟩) | ⟨o, its, n, h, c, _⟩
  · exact .base (.tup h)
  · exact .fTuple h
  · exact .kTuple h c
/-- the kind of a piece of data -/
def kindD : PyData → String
  | .none => "NoneType"
  | .bool _ => "bool"
  | .int _ => "int"
  | .str _ => "str"
  | .list _ => "list"
  | .tuple _ => "tuple"
  | .dict _ => "dict"
theorem tyx_d {v : V} {d : PyData} (h : Dp K H v d) : TyX K H v (.type (kindD d)) := by
  cases h with
  | non => exact .base .non
  | bl b => exact .base (.bl b)
  | int i => exact .base (.int i)
  | str x => exact .base (.str x)
  | lst h _ => exact tyx_l h
  | tup h _ => exact tyx_t h
theorem depth_mem : ∀ {ds : List PyData} {d : PyData}, d ∈ ds → d.depth ≤ PyData.depthAll ds
  | x :: r, d, h => by
    have e : PyData.depthAll (x :: r) = max (PyData.depth x) (PyData.depthAll r) := by simp [PyData.depthAll]
    rw [e]
    rcases List.mem_cons.mp h with rfl | h
    · exact Nat.le_max_left _ _
    · exact Nat.le_trans (depth_mem h) (Nat.le_max_right _ _)
mutual
/-- the greatest length of a list or tuple within -/
def wide : PyData → Nat
  | .list xs => max xs.length (wideAll xs)
  | .tuple xs => max xs.length (wideAll xs)
  | _ => 0
def wideAll : List PyData → Nat
  | [] => 0
  | x :: r => max (wide x) (wideAll r)
end
theorem wide_mem : ∀ {ds : List PyData} {d : PyData}, d ∈ ds → wide d ≤ wideAll ds
  | x :: r, d, h => by
    have e : wideAll (x :: r) = max (wide x) (wideAll r) := by simp [wideAll]
    rw [e]
    rcases List.mem_cons.mp h with rfl | h
    · exact Nat.le_max_left _ _
    · exact Nat.le_trans (wide_mem h) (Nat.le_max_right _ _)
/-- both read as one piece of data: they are the same -/
def spSame (K : PySem.W.Frag) : Nat → Sp
  | 0 => fun _ _ _ _ => False
  | n + 1 => fun vs H Q _ => ∃ (x y : V) (d : PyData), vs = [x, y] ∧ Dp K H x d ∧ Dp K H y d ∧ d.depth ≤ n ∧ wide d ≤ 90000 ∧ ∀ H', Same H H' → Q (.bl true) H'
end
section
variable {P : Program} {w : World} {K : PySem.W.Frag} {mg : Str → Option Value} {base : Heap}
theorem ok_never {CX : CXT} {k : Nat} {f : Addr} {fd : FuncData} {ps : List Str} : FnOk P w K mg base CX k f fd ps (fun _ _ _ _ => False) := ⟨fun _ _ _ _ z => z.elim, fun _ _ _ _ _ _ _ _ _ _ _ _ _ z => z.elim⟩
end
section
variable {K : PySem.W.Frag}
theorem walk_zipT {a b : Addr} {xs ys : List V} {n : Nat} (hn : n = min xs.length ys.length) : Walk (RZ.ItzT K a b) n (fun H => SqT K H a xs ∧ SqT K H b ys) (YPair (fun i => xs[i]?) (fun i => ys[i]?)) := by
  subst hn
  refine ⟨fun i _ hi q => ?_, fun _ q => ⟨xs, ys, q.1, q.2, by omega⟩, fun i H v H' _ q y => ?_⟩
  · have h1 : i < xs.length := by omega
    have h2 : i < ys.length := by omega
    exact ⟨xs, ys, xs[i], ys[i], q.1, q.2, by simp [h1], by simp [h2]⟩
  · obtain ⟨T, x, z, h1, h2, h3, h4, h5⟩ := y
    exact ⟨T, x, z, h1, h2, h3, h4 xs q.1, h5 ys q.2⟩
/-- a comprehension over zip(x, y), x and y both lists or both tuples of one length -/
theorem lcZ {i j : Nat} {a b : Addr} {xs ys : List V} {g : TG} {tt : TT} {te : TE} {vs : List Nat} {σ : L2.St} {H : Hp} {Q : VK} (hv1 : σ[i]? = some (some (.ref a))) (hv2 : σ[j]? = some (some (.ref b)))
    (hS : (SqL K H a xs ∧ SqL K H b ys) ∨ (SqT K H a xs ∧ SqT K H b ys)) (hl : xs.length = ys.length)
    (h : ∀ D, H D = none → ∃ Pv : Nat → Hp → Prop, Pv 0 (upd H D (.lst [])) ∧ (∀ k H', Pv k H' → Same H H') ∧
      (∀ k v H' H2, k < xs.length → Pv k H' → YPair (fun i => xs[i]?) (fun i => ys[i]?) k H' v H2 → g v (wipe σ vs) H2 fun σ2 H3 => wipe σ2 vs = wipe σ vs ∧ tt σ2 H3 fun b H4 =>
        if b = true then te σ2 H4 fun y H5 => ∃ acc, H5 D = some (.lst acc) ∧ acc.length < sizeLine ∧ Pv (k + 1) (upd H5 D (.lst (acc ++ [y]))) else Pv (k + 1) H4) ∧
      ∀ H', Pv xs.length H' → Q (.ref D) H') : tLc (RZ.iZipA K (tCons (tVar i) (tCons (tVar j) tNil))) g tt te vs σ H Q := by
  have hm : xs.length = min xs.length ys.length := by omega
  refine ⟨_, hv1, _, hv2, a, b, xs, ys, rfl, ?_⟩
  rcases hS with ⟨h1, h2⟩ | ⟨h1, h2⟩
  · refine .inl ⟨h1, h2, fun D nD => ?_⟩
    obtain ⟨Pv, p0, ps, pt, pd⟩ := h D nD
    exact lc_it (walk_zip hm) Pv p0 (fun k H' _ p => ⟨(ps k H' p).seq h1, (ps k H' p).seq h2⟩) pt pd
  · refine .inr ⟨h1, h2, fun D nD => ?_⟩
    obtain ⟨Pv, p0, ps, pt, pd⟩ := h D nD
    exact lc_it (walk_zipT hm) Pv p0 (fun k H' _ p => ⟨Same.sqt (ps k H' p) h1, Same.sqt (ps k H' p) h2⟩) pt pd
end
section
variable {K : PySem.W.Frag} {H : Hp} {σ : L2.St} {i : Nat} {v : V} {R : VK}
theorem isi1 {c : String} {t : Value} {k : Bool} (hv : σ[i]? = some (some v)) (tv : TyX K H v t) (hk : PySem.W.kitOne K t (.type c) = some k) (r : R (.bl k) H) : tCB (rIsi K) (tCons (tVar i) (tCons (tC (.ty c)) tNil)) σ H R :=
  ⟨_, hv, v, _, t, _, k, rfl, .ty c, tv, hk, r⟩
theorem isi2 {c1 c2 : String} {t : Value} {k : Bool} (hv : σ[i]? = some (some v)) (tv : TyX K H v t) (hk : PySem.W.kitAny K t [.type c1, .type c2] = some k) (r : ∀ H1, Same H H1 → R (.bl k) H1) :
    tCB (rIsiT K) (tCons (tVar i) (tCons (tTup (tCons (tC (.ty c1)) (tCons (tC (.ty c2)) tNil))) tNil)) σ H R :=
  ⟨_, hv, by show 2 ≤ sizeLine; decide, fun p np => ⟨v, p, _, t, _, k, rfl, upd_same, .cons (.ty c1) (.cons (.ty c2) .nil), TyX.same tv (same_upd np), hk, r _ (same_upd np)⟩⟩
theorem isi3 {c1 c2 c3 : String} {t : Value} {k : Bool} (hv : σ[i]? = some (some v)) (tv : TyX K H v t) (hk : PySem.W.kitAny K t [.type c1, .type c2, .type c3] = some k) (r : ∀ H1, Same H H1 → R (.bl k) H1) :
    tCB (rIsiT K) (tCons (tVar i) (tCons (tTup (tCons (tC (.ty c1)) (tCons (tC (.ty c2)) (tCons (tC (.ty c3)) tNil)))) tNil)) σ H R :=
  ⟨_, hv, by show 3 ≤ sizeLine; decide, fun p np => ⟨v, p, _, t, _, k, rfl, upd_same, .cons (.ty c1) (.cons (.ty c2) (.cons (.ty c3) .nil)), TyX.same tv (same_upd np), hk, r _ (same_upd np)⟩⟩
theorem kit2 {k c1 c2 : String} {b1 b2 : Bool} (h1 : kitB k c1 = some b1) (h2 : kitB k c2 = some b2) : PySem.W.kitAny K (.type k) [.type c1, .type c2] = some (b1 || b2) := by
  refine kitAny_cons (kit_ty h1) (fun e => ?_) (fun e => by rw [e]; rfl)
  rw [e, Bool.false_or]
  exact kitAny_cons (kit_ty h2) (fun e => by rw [e]; exact kitAny_nil) (fun e => e)
theorem kit3 {k c1 c2 c3 : String} {b1 b2 b3 : Bool} (h1 : kitB k c1 = some b1) (h2 : kitB k c2 = some b2) (h3 : kitB k c3 = some b3) : PySem.W.kitAny K (.type k) [.type c1, .type c2, .type c3] = some (b1 || (b2 || b3)) := by
  refine kitAny_cons (kit_ty h1) (fun e => ?_) (fun e => by rw [e]; rfl)
  rw [e, Bool.false_or]
  exact kit2 h2 h3
end
def isL : PyData → Bool
  | .list _ => true
  | _ => false
theorem kd_L : ∀ d : PyData, kitB (kindD d) "list" = some (isL d)
  | .none => (by decide +kernel : kitB "NoneType" "list" = some false)
  | .bool _ => (by decide +kernel : kitB "bool" "list" = some false)
  | .int _ => (by decide +kernel : kitB "int" "list" = some false)
  | .str _ => (by decide +kernel : kitB "str" "list" = some false)
  | .list _ => (by decide +kernel : kitB "list" "list" = some true)
  | .tuple _ => (by decide +kernel : kitB "tuple" "list" = some false)
  | .dict _ => (by decide +kernel : kitB "dict" "list" = some false)
def isT : PyData → Bool
  | .tuple _ => true
  | _ => false
theorem kd_T : ∀ d : PyData, kitB (kindD d) "tuple" = some (isT d)
  | .none => (by decide +kernel : kitB "NoneType" "tuple" = some false)
  | .bool _ => (by decide +kernel : kitB "bool" "tuple" = some false)
  | .int _ => (by decide +kernel : kitB "int" "tuple" = some false)
  | .str _ => (by decide +kernel : kitB "str" "tuple" = some false)
  | .list _ => (by decide +kernel : kitB "list" "tuple" = some false)
  | .tuple _ => (by decide +kernel : kitB "tuple" "tuple" = some true)
  | .dict _ => (by decide +kernel : kitB "dict" "tuple" = some false)
def isI : PyData → Bool
  | .bool _ => true
  | .int _ => true
  | _ => false
theorem kd_I : ∀ d : PyData, kitB (kindD d) "int" = some (isI d)
  | .none => (by decide +kernel : kitB "NoneType" "int" = some false)
  | .bool _ => (by decide +kernel : kitB "bool" "int" = some true)
  | .int _ => (by decide +kernel : kitB "int" "int" = some true)
  | .str _ => (by decide +kernel : kitB "str" "int" = some false)
  | .list _ => (by decide +kernel : kitB "list" "int" = some false)
  | .tuple _ => (by decide +kernel : kitB "tuple" "int" = some false)
  | .dict _ => (by decide +kernel : kitB "dict" "int" = some false)
def isB : PyData → Bool
  | .bool _ => true
  | _ => false
theorem kd_B : ∀ d : PyData, kitB (kindD d) "bool" = some (isB d)
  | .none => (by decide +kernel : kitB "NoneType" "bool" = some false)
  | .bool _ => (by decide +kernel : kitB "bool" "bool" = some true)
  | .int _ => (by decide +kernel : kitB "int" "bool" = some false)
  | .str _ => (by decide +kernel : kitB "str" "bool" = some false)
  | .list _ => (by decide +kernel : kitB "list" "bool" = some false)
  | .tuple _ => (by decide +kernel : kitB "tuple" "bool" = some false)
  | .dict _ => (by decide +kernel : kitB "dict" "bool" = some false)
theorem flat_eq {K : PySem.W.Frag} {H : Hp} {x y : V} {d : PyData} (hx : Dp K H x d) (hy : Dp K H y d) (h : (isL d || isT d) = false) : x = y ∧ scal x y = true := by
  cases hx <;> cases hy <;> first | exact ⟨rfl, rfl⟩ | cases h
theorem cb1 {r : List V → Hp → VK → Prop} {te : TE} {σ : L2.St} {H : Hp} {R : VK} (h : te σ H fun x H1 => r [x] H1 R) : tCB r (tCons te tNil) σ H R := h
theorem lt_one (a b : Nat) : decide (([a] : List Nat) < [b]) = decide (a < b) := by
  by_cases h : a < b
  · rw [decide_eq_true h]
    exact decide_eq_true (List.cons_lt_cons_iff.mpr (.inl h))
  · rw [decide_eq_false h]
    refine decide_eq_false fun z => ?_
    rcases List.cons_lt_cons_iff.mp z with z | ⟨_, z⟩
    · exact h z
    · exact absurd z (by simp)
theorem filter_all {α : Type} {p : α → Bool} : ∀ {l : List α}, (l.filter p).length = l.length ↔ l.all p = true
  | [] => by simp
  | x :: r => by
    have ih := filter_all (p := p) (l := r)
    have hle := List.length_filter_le p r
    cases h : p x with
    | true =>
      rw [List.filter_cons_of_pos h, List.all_cons, h, Bool.true_and, List.length_cons, List.length_cons, ← ih]
      omega
    | false =>
      rw [List.filter_cons_of_neg (by rw [h]; exact Bool.false_ne_true), List.all_cons, h, Bool.false_and, List.length_cons]
      constructor
      · intro e
        omega
      · intro e
        cases e
/-- the law's own look at a name -/
theorem name_by_letters {z : Str} {n : Nat} (h : n = (z.cps.toList.filter fun c => decide (c ∈ lettersL)).length) : isNameS z = (decide (0 < n) && decide (n < 9) && decide (n = z.length)) := by
  have e : z.length = z.cps.toList.length := by simp [Str.length]
  unfold isNameS
  by_cases ha : (z.cps.toList.all fun c => decide (c ∈ lettersL)) = true
  · have hn := filter_all.mpr ha
    rw [ha, Bool.and_true, e, h, hn]
    rw [decide_eq_true (rfl : z.cps.toList.length = z.cps.toList.length), Bool.and_true, decide_eq_decide.mpr (show 1 ≤ z.cps.toList.length ↔ 0 < z.cps.toList.length by omega), decide_eq_decide.mpr (show z.cps.toList.length ≤ 8 ↔ z.cps.toList.length < 9 by omega)]
  · have hn : ¬ n = z.length := fun q => ha (filter_all.mp (by rw [← h, q, e]))
    rw [decide_eq_false hn, Bool.and_false]
    have : (z.cps.toList.all fun c => decide (c ∈ lettersL)) = false := by
      cases q : z.cps.toList.all fun c => decide (c ∈ lettersL) with
      | true => exact absurd q ha
      | false => rfl
    rw [this, Bool.and_false]
end Bk

namespace Bk
open PySem PySem.Spec PyProof.Rows L2
section
variable {P : Program} {w : World} {K : PySem.W.Frag} {mg : Str → Option Value} {base : Heap}
theorem scSame : FnScope ["_law_found", "_law_due", "_law_x", "_law_y"] ["_law_found", "_law_due"] (defScope (topS 85)) := ⟨rfl, rfl, rfl, by decide +kernel, rfl, by decide +kernel, by decide +kernel⟩
theorem same_step (B : Bi mg) {n : Nat} {f : Addr} {fd : FuncData} (F : Fun K "_law_same" "_law_same" (topS 85) f fd) (g : mg "_law_same" = some (.ref f)) (b : Binds K fd ["_law_found", "_law_due"] [])
    (ih : FnOk P w K mg base CX0 (n + 1) f fd ["_law_found", "_law_due"] (spSame K n)) : FnOk P w K mg base CX0 (n + 2) f fd ["_law_found", "_law_due"] (spSame K (n + 1)) := by
  refine F.ok scSame (fun vs H Q E h => ?_) (fun cdv A outer s H vs Q E hr h => ?_)
  · obtain ⟨x, y, d, rfl, _⟩ := h
    rfl
  · obtain ⟨x, y, d, rfl, hx, hy, hd, hw, q⟩ := h
    have nd := scSame.nd
    have hu := hu_of hr
    have hr__law_same := hr
    have c__law_same : Cal P w K mg base CX0 (n + 1) "_law_same" f fd ["_law_found", "_law_due"] (spSame K n) := ⟨ih, g, F.kp, b⟩
    refine ⟨_, (pss_cons (ps_if (pt_val (pe_callB (kIsiT K) (by rfl) B.isinstance (by decide +kernel) (pa_cons (pv 1) (pa_cons (pe_tup (pa_cons (pe_bltn (v := .ty "list") (by rfl) B.list (by decide +kernel) rfl) (pa_cons (pe_bltn (v := .ty "tuple") (by rfl) B.tuple (by decide +kernel) rfl) pa_nil))) pa_nil)))) (pss_cons (ps_if (PW.pt (pw_or (pt_cmpR op_ne (pe_callB (kIsi K) (by rfl) B.isinstance (by decide +kernel) (pa_cons (pv 0) (pa_cons (pe_bltn (v := .ty "list") (by rfl) B.list (by decide +kernel) rfl) pa_nil))) (pe_callB (kIsi K) (by rfl) B.isinstance (by decide +kernel) (pa_cons (pv 1) (pa_cons (pe_bltn (v := .ty "list") (by rfl) B.list (by decide +kernel) rfl) pa_nil))) (nomark _)) (pw_or1 (pt_cmpR op_ne (pe_callB (kIsi K) (by rfl) B.isinstance (by decide +kernel) (pa_cons (pv 0) (pa_cons (pe_bltn (v := .ty "tuple") (by rfl) B.tuple (by decide +kernel) rfl) pa_nil))) (pe_callB (kIsi K) (by rfl) B.isinstance (by decide +kernel) (pa_cons (pv 1) (pa_cons (pe_bltn (v := .ty "tuple") (by rfl) B.tuple (by decide +kernel) rfl) pa_nil))) (nomark _))))) (pss_one (ps_ret pe_bl)) pss_nil)
      (pss_one (ps_ret (pe_and (pe_cmpR op_eq (pe_callB (kLen K) (by rfl) B.len PySem.boot_len (pa_cons (pv 0) pa_nil)) (pe_callB (kLen K) (by rfl) B.len PySem.boot_len (pa_cons (pv 1) pa_nil)) (nomark _)) (pe_one (pe_callB (kAll K rfl) (by rfl) B.all (by decide +kernel) (pa_cons (pe_lc (own := [("_law_x", 2), ("_law_y", 3)]) rfl nd (kPiZ K (by rfl) B.zip (pa_cons (pv 0) (pa_cons (pv 1) pa_nil))) (blkOk_by (N := ["_law_found", "_law_due", "_law_x", "_law_y"]) (sc := defScope (topS 85)) (by decide +kernel)) (fun _ _ _ _ _ => (kTg K 2 rfl (pgs_cons (pg_name (i := 2) nd rfl (Or.inl rfl)) (pgs_cons (pg_name (i := 3) nd rfl (Or.inl rfl)) pgs_nil)))) (fun _ _ _ _ _ => pts_nil) (fun _ _ _ _ _ => (pe_call c__law_same.ok hr__law_same (by rfl) c__law_same.g c__law_same.kp c__law_same.b .nil pass0 (pa_cons (pv 2) (pa_cons (pv 3) pa_nil))))) pa_nil))))))) pss_nil)
      (pss_cons (ps_if (pt_val (pe_callB (kIsi K) (by rfl) B.isinstance (by decide +kernel) (pa_cons (pv 1) (pa_cons (pe_bltn (v := .ty "int") (by rfl) B.int (by decide +kernel) rfl) pa_nil)))) (pss_one (ps_ret (pe_and (pe_callB (kIsi K) (by rfl) B.isinstance (by decide +kernel) (pa_cons (pv 0) (pa_cons (pe_bltn (v := .ty "int") (by rfl) B.int (by decide +kernel) rfl) pa_nil))) (pe_and (pe_cmpR op_eq (pe_callB (kIsi K) (by rfl) B.isinstance (by decide +kernel) (pa_cons (pv 0) (pa_cons (pe_bltn (v := .ty "bool") (by rfl) B.bool (by decide +kernel) rfl) pa_nil))) (pe_callB (kIsi K) (by rfl) B.isinstance (by decide +kernel) (pa_cons (pv 1) (pa_cons (pe_bltn (v := .ty "bool") (by rfl) B.bool (by decide +kernel) rfl) pa_nil))) (nomark _)) (pe_one (pe_cmpR op_eq (pv 0) (pv 1) (nomark _))))))) pss_nil)
      (pss_one (ps_ret (pe_and (pe_cmpR op_isBl (pe_callB (kIsiT K) (by rfl) B.isinstance (by decide +kernel) (pa_cons (pv 0) (pa_cons (pe_tup (pa_cons (pe_bltn (v := .ty "int") (by rfl) B.int (by decide +kernel) rfl) (pa_cons (pe_bltn (v := .ty "list") (by rfl) B.list (by decide +kernel) rfl) (pa_cons (pe_bltn (v := .ty "tuple") (by rfl) B.tuple (by decide +kernel) rfl) pa_nil)))) pa_nil))) pe_bl (nomark _)) (pe_one (pe_cmpR op_eq (pv 0) (pv 1) (nomark _)))))))), ?_⟩
    have tx := tyx_d hx
    have ty := tyx_d hy
    refine isi2 rfl ty (kit2 (kd_L d) (kd_T d)) fun H1 e1 => ⟨_, rfl, ?_⟩
    cases hs : isL d || isT d with
    | false =>
      refine iteF ?_
      refine isi1 rfl (TyX.same ty e1) (kit_ty (kd_I d)) ⟨_, rfl, ?_⟩
      obtain ⟨exy, hsc⟩ := flat_eq hx hy hs
      have hdec : decide (x = y) = true := decide_eq_true exy
      cases hi : isI d with
      | true =>
        refine iteT ?_
        refine isi1 rfl (TyX.same tx e1) (kit_ty (kd_I d)) ⟨_, rfl, ?_⟩
        rw [hi]
        refine iteT ?_
        refine isi1 rfl (TyX.same tx e1) (kit_ty (kd_B d)) ?_
        refine isi1 rfl (TyX.same ty e1) (kit_ty (kd_B d)) ⟨rfl, _, rfl, ?_⟩
        rw [decide_eq_true rfl]
        refine iteT ?_
        refine ⟨_, rfl, _, rfl, hsc, ?_⟩
        rw [hdec]
        exact q H1 e1
      | false =>
        refine iteF ?_
        have hl : isL d = false := by cases h : isL d <;> simp_all
        have ht : isT d = false := by cases h : isT d <;> simp_all
        refine isi3 rfl (TyX.same tx e1) (kit3 (kd_I d) (kd_L d) (kd_T d)) fun H2 e2 => ?_
        rw [hi, hl, ht]
        refine ⟨false, false, rfl, rfl, _, rfl, ?_⟩
        rw [decide_eq_true rfl]
        refine iteT ?_
        refine ⟨_, rfl, _, rfl, hsc, ?_⟩
        rw [hdec]
        exact q H2 (Same.trans e1 e2)
    | true =>
      refine iteT ?_
      obtain ⟨a, b, xs, ys, ds, rfl, rfl, hS, hxs, hys, hdp, hw1, hw2⟩ : ∃ a b xs ys ds, x = .ref a ∧ y = .ref b ∧ ((SqL K H a xs ∧ SqL K H b ys) ∨ (SqT K H a xs ∧ SqT K H b ys)) ∧ DpAll K H xs ds ∧ DpAll K H ys ds ∧ PyData.depthAll ds + 1 ≤ n ∧ ds.length ≤ 90000 ∧ wideAll ds ≤ 90000 := by
        cases hx with
        | lst h1 h2 =>
          cases hy with
          | lst h3 h4 => exact ⟨_, _, _, _, _, rfl, rfl, .inl ⟨h1, h3⟩, h2, h4, by simpa [PyData.depth] using hd, by simp only [wide] at hw; omega, by simp only [wide] at hw; omega⟩
        | tup h1 h2 =>
          cases hy with
          | tup h3 h4 => exact ⟨_, _, _, _, _, rfl, rfl, .inr ⟨h1, h3⟩, h2, h4, by simpa [PyData.depth] using hd, by simp only [wide] at hw; omega, by simp only [wide] at hw; omega⟩
        | _ => cases hs
      have hlen : xs.length = ys.length := by rw [DpAll.len hxs, DpAll.len hys]
      have hS1 : (SqL K H1 a xs ∧ SqL K H1 b ys) ∨ (SqT K H1 a xs ∧ SqT K H1 b ys) := hS.imp (fun z => ⟨e1.seq z.1, e1.seq z.2⟩) fun z => ⟨Same.sqt e1 z.1, Same.sqt e1 z.2⟩
      have lx : LenV K (.ref a) H1 xs.length := hS1.imp (fun z => ⟨xs, z.1, rfl⟩) fun z => ⟨xs, z.1, rfl⟩
      have ly : LenV K (.ref b) H1 ys.length := hS1.imp (fun z => ⟨ys, z.2, rfl⟩) fun z => ⟨ys, z.2, rfl⟩
      refine isi1 rfl (TyX.same tx e1) (kit_ty (kd_L d)) ?_
      refine isi1 rfl (TyX.same ty e1) (kit_ty (kd_L d)) ⟨rfl, _, rfl, ?_⟩
      rw [decide_eq_true rfl]
      refine iteF ?_
      refine isi1 rfl (TyX.same tx e1) (kit_ty (kd_T d)) ?_
      refine isi1 rfl (TyX.same ty e1) (kit_ty (kd_T d)) ⟨rfl, _, rfl, ?_⟩
      rw [decide_eq_true rfl]
      refine iteF ?_
      refine ⟨_, rfl, _, _, rfl, lx, _, rfl, _, _, rfl, ly, rfl, ?_⟩
      rw [hlen, decide_eq_true rfl]
      refine ⟨_, rfl, ?_⟩
      refine iteT ?_
      obtain ⟨m, rfl⟩ : ∃ m, n = m + 1 := ⟨n - 1, by omega⟩
      refine cb1 ?_
      refine lcZ (a := a) (b := b) (xs := xs) (ys := ys) rfl rfl hS1 hlen fun D nD => ⟨fun k H' => Same H1 H' ∧ H' D = some (.lst (List.replicate k (V.bl true))), ⟨same_upd nD, upd_same⟩, fun k H' z => z.1, ?_, ?_⟩
      · rintro k v H3 H4 hk ⟨e3, hD⟩ ⟨T, v1, v2, rfl, nT, rfl, g1, g2⟩
        have eT := same_upd (o := HO.tup [v1, v2]) nT
        refine ⟨T, _, rfl, SqT.of upd_same, rfl, _, _, rfl, _, _, rfl, rfl, ?_⟩
        refine ⟨rfl, yes2 ?_⟩
        have g1 : xs[k]? = some v1 := g1
        have g2 : ys[k]? = some v2 := g2
        obtain ⟨d1, f1, p1⟩ := DpAll.get hxs g1
        obtain ⟨d2, f2, p2⟩ := DpAll.get hys g2
        rw [f1] at f2
        obtain rfl := Option.some.inj f2
        have e04 := Same.trans e1 (Same.trans e3 eT)
        have hdd := depth_mem (List.mem_of_getElem? f1)
        have hww := wide_mem (List.mem_of_getElem? f1)
        refine ⟨_, rfl, _, rfl, v1, v2, d1, rfl, Dp.sm e04 _ _ p1, Dp.sm e04 _ _ p2, by omega, by omega, fun H5 e5 => ?_⟩
        have e15 := Same.trans e3 (Same.trans eT e5)
        refine ⟨_, e5 _ _ (eT _ _ hD), ?_, Same.grow e15 nD, ?_⟩
        · rw [List.length_replicate]
          have := DpAll.len hxs
          exact Evl.sz_lt (by omega)
        · rw [upd_same, List.replicate_succ']
      · rintro H3 ⟨e3, hD⟩
        refine ⟨D, List.replicate xs.length true, rfl, SqL.of (by rw [List.map_replicate]; exact hD), ?_⟩
        have : (List.replicate xs.length true).all id = true := by
          rw [List.all_eq_true]
          intro z hz
          rw [List.eq_of_mem_replicate hz]
          rfl
        rw [this]
        exact q H3 (Same.trans e1 e3)
theorem ok_same (B : Bi mg) {f : Addr} {fd : FuncData} (F : Fun K "_law_same" "_law_same" (topS 85) f fd) (g : mg "_law_same" = some (.ref f)) (b : Binds K fd ["_law_found", "_law_due"] []) : ∀ n, FnOk P w K mg base CX0 (n + 1) f fd ["_law_found", "_law_due"] (spSame K n)
  | 0 => ok_never
  | n + 1 => same_step B F g b (ok_same B F g b n)
end
end Bk

namespace Bk
open PySem PySem.Spec PyProof.Rows L2
section
variable {X : Cx} {CX : CXT} {k n : Nat} {f C : Addr} {fd : FuncData} {ps ks : List Str} {sp : Sp} {E : L2.St → XK} {x : Str} {p pos : Pos} {e : Expr} {es : List Expr} {kws : List Keyword} {t tk : TA} {g : List Value → List Value → List Value} {gV : List V → List V → List V}
/-- C(.., k = v, ..) within a try: what the making raises is wished for at the slots as they stand -/
def tMakeKS (C : Addr) (n m : Nat) (sp : Sp) (gV : List V → List V → List V) (E : L2.St → XK) (t tk : TA) : TE := fun σ H Q => t σ H fun vs H1 => tk σ H1 fun zs H2 => vs.length = n ∧ zs.length = m ∧ ∀ y dx, H2 y = none → H2 dx = none → dx ≠ y →
  sp (gV (.ref y :: vs) zs) (upd (upd H2 dx (.own y)) y (.ins C dx [])) (fun v H3 => v = .non ∧ Q (.ref y) H3) (E σ)
theorem pe_makeKS (M : Mk X.K C f) (F : FnOk X.prog X.w X.K X.mg X.base CX k f fd ps sp) (hr : Room (k + 1) X.A) (hg : Gl X x) (hm : X.mg x = some (.ref C)) (hb : KBn X.K fd ps (n + 1) ks g gV) (hx : ∀ σ, PassesAt CX X σ (E σ)) (ha : PA X (e :: es) t) (hkw : PK X kws tk)
    (hall : (backToKw pos (keywordEach kws X.env)).all (·.1.isSome) = true := by rfl) (hks : (backToKw pos (keywordEach kws X.env)).filterMap (·.1) = ks := by rfl) (hdb : (x == ("__debug__" : Str)) = false := by decide)
    (he : starEach (e :: es) X.env = (false, eval e X.env) :: starEach es X.env := by rfl) (hpl : ((backTo pos (starEach (e :: es) X.env)).any (·.1) || (backToKw pos (keywordEach kws X.env)).any (·.1.isNone)) = false := by rfl) :
    PE X (.Call (.Name x p) (e :: es) kws pos) (tMakeKS C n ks.length sp gV E t tk) := by
  refine ⟨fun pins s σ H Q I h => wpAny_Call_Name_kw (ld_glob I hg hm ?_ hdb)⟩
  refine PySem.W.callWith_KW (h₀ := X.base) I.ok.mod.kin M.kp hall (thn (ha.run pos pins s σ H _ I h) fun us s1 ⟨vs, H1, I1, r, q⟩ => ?_) hpl he
  refine thn (hkw.run pos pins s1 σ H1 _ I1 q) fun ws s2 ⟨zs, H2, I2, rz, l1, l2, q2⟩ => ⟨I2.kIn, ?_⟩
  rw [hks]
  have hq := q2 (s2.heap.objs.size + 1) s2.heap.objs.size (I2.hok.fresh (Nat.le_succ _)) (I2.hok.fresh (Nat.le_refl _)) (Nat.ne_of_lt (Nat.lt_succ_self _))
  have J := Inv.made (C := C) I2
  have rel : Vals (V.ref (s2.heap.objs.size + 1) :: vs) (Value.ref (s2.heap.objs.size + 1) :: us) := .cons rfl r
  have len1 : (Value.ref (s2.heap.objs.size + 1) :: us).length = n + 1 := by rw [List.length_cons, ← r.length, l1]
  refine wpAny_call (make_map (f := f) I2.kIn M.makes M.init (beq_iff_eq.mp M.fn) (codeAny_mono (F.run _ X.stack _ _ ⟨_, ks.zip ws⟩ _ _ _ (E σ) (hr.make C us (ks.zip ws)) (J.env0.make C us (ks.zip ws)) (hb.to _ _ ws J.kIn len1 (rz.length.symm.trans l2)) (hb.rel rel rz) hq) fun r s' hq' => ?_))
  cases r with
  | error er => exact hx σ pins _ _ er s' J hq'
  | ok fl =>
    cases fl with
    | ret u =>
      obtain ⟨v, H', J3, rv, ev, q3⟩ := J.after hq'
      subst ev
      exact ⟨rv, ⟨V.ref (s2.heap.objs.size + 1), H', J3, rfl, q3⟩⟩
    | next => exact hq'.elim
    | brk => exact hq'.elim
    | cont => exact hq'.elim
theorem kFld (K : PySem.W.Frag) {ta : TE} {fl : Str} (he : PE X e ta) (hk : X.K = K := by rfl) (hb : attributeBase e fl X.env (eval e X.env) = eval e X.env := by rfl) : PE X (.Attribute e fl pos) (tFld K ta fl) := hk ▸ pe_fld he hb
end
end Bk

namespace Bk
open PySem PySem.Spec PyProof.Rows L2
section
variable {K : PySem.W.Frag} {H H' : Hp} {st c : Addr}
theorem TyX.keep {x : V} {t : Value} (h : TyX K H x t) (e : ∀ p o, x = .ref p → H p = some o → H' p = some o) : TyX K H' x t := by
  cases h with
  | base b =>
    cases b with
    | non => exact .base .non
    | bl y => exact .base (.bl y)
    | int i => exact .base (.int i)
    | str y => exact .base (.str y)
    | flt y => exact .base (.flt y)
    | lst q => exact .base (.lst (e _ _ rfl q))
    | frz q => exact .base (.frz (e _ _ rfl q))
    | tup q => exact .base (.tup (e _ _ rfl q))
    | dK q => exact .base (.dK (e _ _ rfl q))
    | dT q => exact .base (.dT (e _ _ rfl q))
    | ins q c1 c2 c3 c4 c5 => exact .base (.ins (e _ _ rfl q) c1 c2 c3 c4 c5)
  | byt b => exact .byt b
  | set q => exact .set (e _ _ rfl q)
  | kList q c => exact .kList q c
  | kTuple q c => exact .kTuple q c
  | kDict q c => exact .kDict q c
  | fTuple q => exact .fTuple (e _ _ rfl q)
  | fDict q => exact .fDict (e _ _ rfl q)
theorem sql_keep {a : Addr} {xs : List V} (h : SqL K H a xs) (e : ∀ o, H a = some o → H' a = some o) : SqL K H' a xs := by
  rcases h with (h | ⟨o, h⟩) | h
  · exact .inl (.inl (e _ h))
  · exact .inl (.inr ⟨o, e _ h⟩)
  · exact .inr h
theorem fcons {p : V → Prop} {x : V} {l : List V} (h : p x) (r : ∀ y ∈ l, p y) : ∀ y ∈ x :: l, p y := fun y m => by
  rcases List.mem_cons.mp m with rfl | m
  · exact h
  · exact r y m
/-- not the stream's own objects -/
def Off (st c : Addr) (x : V) : Prop := ∀ p, x = .ref p → p ≠ st ∧ p ≠ c
theorem Off.ref {p : Addr} (h1 : p ≠ st) (h2 : p ≠ c) : Off st c (.ref p) := fun q e => by cases e; exact ⟨h1, h2⟩
theorem Off.flat {x : V} (h : flatV x = true) : Off st c x := fun q e => by subst e; cases h
def Far (K : PySem.W.Frag) (H : Hp) (st c : Addr) (x : V) : Prop := Itm K H x ∧ Off st c x
theorem Far.kept {x : V} (h : Far K H st c x) (k : Kept st c H H') : Far K H' st c x := by
  obtain ⟨⟨t, a, b⟩, o⟩ := h
  exact ⟨⟨t, TyX.keep a fun p u e q => k p u (o p e).1 (o p e).2 q, b⟩, o⟩
theorem Far.str {z : Str} (h : z.length ≤ 100000) : Far K H st c (.str z) := ⟨.str h, Off.flat rfl⟩
theorem itm_kit {x : V} {k : String} (t : TyX K H x (.type k)) (h : kitB k "str" = some false) (hs : isStr x = false) : Itm K H x := ⟨_, t, by rw [hs]; exact kit_ty h, fun z e => by subst e; cases hs⟩
theorem sqs_kit {x : V} {k : String} {b1 b2 : Bool} (t : TyX K H x (.type k)) (h1 : kitB k "list" = some b1) (h2 : kitB k "tuple" = some b2) : Sqs K H x (b1 || b2) := ⟨_, t, kit2 h1 h2⟩
/-- a thing of any objects, none of them the stream's -/
def ThF (K : PySem.W.Frag) (H : Hp) (st c : Addr) (x : V) (o : Option (List V)) : Prop := Thing K H x o ∧ Off st c x ∧ ∀ xs, o = some xs → ∀ y ∈ xs, Far K H st c y
theorem ThF.kept {x : V} {o : Option (List V)} (h : ThF K H st c x o) (k : Kept st c H H') : ThF K H' st c x o := by
  obtain ⟨T, off, hy⟩ := h
  refine ⟨?_, off, fun xs e y m => (hy xs e y m).kept k⟩
  have sq : ∀ {b : Bool}, Sqs K H x b → Sqs K H' x b := fun ⟨t, a, b⟩ => ⟨t, TyX.keep a fun p u e q => k p u (off p e).1 (off p e).2 q, b⟩
  cases T with
  | @seq a xs hS b hi hl =>
    have ka : ∀ o, H a = some o → H' a = some o := fun o q => k a o (off a rfl).1 (off a rfl).2 q
    exact .seq (hS.imp (fun z => sql_keep z ka) fun z => ka _ z) (sq b) (fun y m => ((hy xs rfl y m).kept k).1) hl
  | no b => exact .no (sq b)
theorem thf_lst {a : Addr} {xs : List V} (h : H a = some (.lst xs)) (h1 : a ≠ st) (h2 : a ≠ c) (hl : xs.length ≤ 100000) (hy : ∀ y ∈ xs, Far K H st c y) : ThF K H st c (.ref a) (some xs) :=
  ⟨.seq (.inl (SqL.of h)) (sqs_kit (k := "list") (b1 := true) (b2 := false) (.base (.lst h)) (by decide +kernel) (by decide +kernel)) (fun y m => (hy y m).1) hl, Off.ref h1 h2, fun ys e y m => by cases e; exact hy y m⟩
theorem thf_tup {a : Addr} {xs : List V} (h : H a = some (.tup xs)) (h1 : a ≠ st) (h2 : a ≠ c) (hl : xs.length ≤ 100000) (hy : ∀ y ∈ xs, Far K H st c y) : ThF K H st c (.ref a) (some xs) :=
  ⟨.seq (.inr h) (sqs_kit (k := "tuple") (b1 := false) (b2 := true) (.base (.tup h)) (by decide +kernel) (by decide +kernel)) (fun y m => (hy y m).1) hl, Off.ref h1 h2, fun ys e y m => by cases e; exact hy y m⟩
theorem thf_no {x : V} {k : String} (t : TyX K H x (.type k)) (h1 : kitB k "list" = some false) (h2 : kitB k "tuple" = some false) (o : Off st c x) : ThF K H st c x none := ⟨.no (sqs_kit t h1 h2), o, fun _ e => by cases e⟩
/-- what a turn of the law starts from: the stream and the list of odd things -/
structure Ground (K : PySem.W.Frag) (H : Hp) (st c od : Addr) (n : Nat) : Prop where
  S : Strm H st c n
  n1 : od ≠ st
  n2 : od ≠ c
  odd : ∃ xs, H od = some (.lst xs) ∧ xs.length = 14 ∧ ∀ x ∈ xs, Far K H st c x
theorem Ground.kept {od : Addr} {n n' : Nat} (G : Ground K H st c od n) (S : Strm H' st c n') (k : Kept st c H H') : Ground K H' st c od n' := by
  obtain ⟨xs, h1, h2, h3⟩ := G.odd
  exact ⟨S, G.n1, G.n2, xs, k _ _ G.n1 G.n2 h1, h2, fun x m => (h3 x m).kept k⟩
theorem pk_lst {a : Addr} {xs : List V} (h : SqL K H a xs) (n1 : a ≠ st) (n2 : a ≠ c) : Pk K H st c (.ref a) xs.length (fun j => xs.getD j .non) :=
  .lst h n1 n2 fun j hj => by rw [List.getD_eq_getElem?_getD, List.getElem?_eq_getElem hj]; rfl
theorem getD_mem {xs : List V} {j : Nat} (h : j < xs.length) : xs.getD j .non ∈ xs := by
  rw [List.getD_eq_getElem?_getD, List.getElem?_eq_getElem h]
  exact List.getElem_mem h
/-! ### the answers as data -/
theorem dp_strs : ∀ zs : List Str, DpAll K H (zs.map V.str) (zs.map PyData.str)
  | [] => .nil
  | x :: r => .cons (.str x) (dp_strs r)
theorem depth_strs : ∀ zs : List Str, PyData.depthAll (zs.map PyData.str) = 0
  | [] => by simp [PyData.depthAll]
  | x :: r => by
    have := depth_strs r
    simp [PyData.depthAll, PyData.depth, this]
theorem wide_strs : ∀ zs : List Str, wideAll (zs.map PyData.str) = 0
  | [] => by simp [wideAll]
  | x :: r => by
    have := wide_strs r
    simp [wideAll, wide, this]
def dMade (zs : List Str) : PyData := .tuple [.str (Str.ofString "made"), .tuple (zs.map PyData.str)]
def dBad (i : Nat) : PyData := .tuple [.str (Str.ofString "bad"), .int (i : Int)]
theorem dp_made {p t : Addr} {zs : List Str} (hp : H p = some (.tup [.str (Str.ofString "made"), .ref t])) (ht : SqT K H t (zs.map V.str)) : Dp K H (.ref p) (dMade zs) := .tup (SqT.of hp) (.cons (.str _) (.cons (.tup ht (dp_strs zs)) .nil))
theorem dp_bad {p : Addr} {i : Nat} (hp : H p = some (.tup [.str (Str.ofString "bad"), .int (i : Int)])) : Dp K H (.ref p) (dBad i) := .tup (SqT.of hp) (.cons (.str _) (.cons (.int _) .nil))
theorem made_depth (zs : List Str) : (dMade zs).depth ≤ 3 := by
  have := depth_strs zs
  simp [dMade, PyData.depth, PyData.depthAll, this]
theorem bad_depth (i : Nat) : (dBad i).depth ≤ 3 := by simp [dBad, PyData.depth, PyData.depthAll]
theorem made_wide {zs : List Str} (h : zs.length ≤ 100) : wide (dMade zs) ≤ 90000 := by
  have := wide_strs zs
  simp [dMade, wide, wideAll, this]
  omega
theorem bad_wide (i : Nat) : wide (dBad i) ≤ 90000 := by simp [dBad, wide, wideAll]
end
end Bk

namespace Bk
open PySem PySem.Spec PyProof.Rows L2
/-! ### the law's own rows of places -/
def startB (r : List Nat) : Nat := if r = [] then 0 else lastOf r + 1
def growB (n : Nat) (r : List Nat) : List (List Nat) := (List.range' (startB r) (n - startB r)).map fun j => r ++ [j]
def bRows (n : Nat) : Nat → List (List Nat)
  | 0 => [[]]
  | k + 1 => (bRows n k).flatMap (growB n)
structure BOk (n k : Nat) (r : List Nat) : Prop where
  len : r.length = k
  lt : ∀ x ∈ r, x < n
theorem bRows_ok {n : Nat} : ∀ k, ∀ r ∈ bRows n k, BOk n k r
  | 0, r, hr => by
    rw [List.mem_singleton.mp hr]
    exact ⟨rfl, fun x hx => nomatch hx⟩
  | k + 1, r, hr => by
    obtain ⟨r0, h0, hr⟩ := List.mem_flatMap.mp hr
    obtain ⟨j, hj, rfl⟩ := List.mem_map.mp hr
    obtain ⟨j1, j2⟩ := List.mem_range'_1.mp hj
    have o := bRows_ok k r0 h0
    refine ⟨by rw [List.length_append, o.len]; rfl, fun x hx => ?_⟩
    rcases List.mem_append.mp hx with hx | hx
    · exact o.lt x hx
    · rw [List.mem_singleton.mp hx]
      omega
theorem BOk.start {n k : Nat} {r : List Nat} (h : BOk n k r) : startB r ≤ n := by
  unfold startB
  split
  · exact Nat.zero_le _
  · rename_i e
    exact h.lt _ (lastOf_mem e)
theorem growB_length (n : Nat) (r : List Nat) : (growB n r).length = n - startB r := by
  unfold growB
  rw [List.length_map, List.length_range']
theorem growB_at {n : Nat} {r : List Nat} {j : Nat} (hj : j < n - startB r) : (growB n r)[j]? = some (r ++ [startB r + j]) := by
  unfold growB
  rw [List.getElem?_map, List.getElem?_range' hj]
  simp
theorem bRows_len {n : Nat} (hn : n ≤ 5) : ∀ k, (bRows n k).length ≤ 5 ^ k
  | 0 => Nat.le_refl _
  | k + 1 => by
    have h1 := flatMap_len (f := growB n) (m := 5) (l := bRows n k) fun x _ => by rw [growB_length]; omega
    have h2 := bRows_len hn k
    rw [Nat.pow_succ]
    show ((bRows n k).flatMap (growB n)).length ≤ _
    omega
theorem bRows_snoc {n : Nat} {rows : List (List Nat)} {i : Nat} {r : List Nat} (h : rows[i]? = some r) : (rows.take (i + 1)).flatMap (growB n) = (rows.take i).flatMap (growB n) ++ growB n r := by
  rw [take_succ h, List.flatMap_append, List.flatMap_cons, List.flatMap_nil, List.append_nil]
/-- both rows alike -/
theorem growB_eq {n k : Nat} {r : List Nat} (h : RowOk n k r) : growB n r = growRow n r := by
  unfold growB growRow startB
  rw [if_neg h.ne]
theorem flatMap_eq {α β : Type} {f g : α → List β} : ∀ {l : List α}, (∀ x ∈ l, f x = g x) → l.flatMap f = l.flatMap g
  | [], _ => rfl
  | x :: r, h => by rw [List.flatMap_cons, List.flatMap_cons, h x List.mem_cons_self, flatMap_eq (l := r) fun y hy => h y (List.mem_cons_of_mem _ hy)]
theorem bRows_one (n : Nat) : bRows n 1 = firstRows n := by
  show [[]].flatMap (growB n) = firstRows n
  rw [List.flatMap_cons, List.flatMap_nil, List.append_nil]
  unfold growB firstRows startB
  rw [if_pos rfl, Nat.sub_zero, List.range_eq_range']
  rfl
theorem bRows_next {n : Nat} : ∀ k, (∀ r ∈ bRows n (k + 1), RowOk n k r) ∧ bRows n (k + 2) = nextRows n (bRows n (k + 1))
  | 0 => by
    have h : ∀ r ∈ bRows n 1, RowOk n 0 r := by
      rw [bRows_one]
      exact firstRows_ok
    exact ⟨h, flatMap_eq fun r m => growB_eq (h r m)⟩
  | k + 1 => by
    obtain ⟨h1, h2⟩ := bRows_next (n := n) k
    have h : ∀ r ∈ bRows n (k + 2), RowOk n (k + 1) r := by
      rw [h2]
      exact nextRows_ok h1
    exact ⟨h, flatMap_eq fun r m => growB_eq (h r m)⟩
/-- all rows of one, two, .. places, as the law joins them -/
def bAll (n : Nat) : List (List Nat) := (List.range n).flatMap fun k => bRows n (k + 1)
theorem rowsFrom_b {n : Nat} : ∀ f k, rowsFrom n f (bRows n (k + 1)) = (List.range' k f).flatMap fun j => bRows n (j + 1)
  | 0, k => rfl
  | f + 1, k => by
    show bRows n (k + 1) ++ rowsFrom n f (nextRows n (bRows n (k + 1))) = _
    rw [← (bRows_next k).2, rowsFrom_b f (k + 1), List.range'_succ, List.flatMap_cons]
theorem bAll_eq (n : Nat) : bAll n = lotRows n := by
  unfold bAll lotRows
  rw [← bRows_one, rowsFrom_b n 0, List.range_eq_range']
theorem depth_rows (r : List Nat) : PyData.depthAll (r.map fun (k : Nat) => PyData.int (k : Int)) = 0 := by
  induction r with
  | nil => simp [PyData.depthAll]
  | cons x r ih => simp [PyData.depthAll, PyData.depth, ih]
theorem lay_rows (r : List Nat) : PyData.canLayAll0 (r.map fun (k : Nat) => PyData.int (k : Int)) = true := by
  induction r with
  | nil => simp [PyData.canLayAll0]
  | cons x r ih => simp [PyData.canLayAll0, PyData.canLay0, ih]
theorem shaped_row (r : List Nat) : SeqAt.shaped (.tuple (r.map fun (k : Nat) => PyData.int (k : Int))) = true := by
  have h1 := lay_rows r
  have h2 := depth_rows r
  simp [SeqAt.shaped, PyData.canLay0, PyData.depth, h1, h2]
theorem eqv_row (r : List Nat) : PyData.eqv (.tuple (r.map fun (k : Nat) => PyData.int (k : Int))) (.tuple []) = r.isEmpty := by
  cases r <;> simp [PyData.eqv, PyData.eqvAll]
theorem dp_row {K : PySem.W.Frag} {H : Hp} : ∀ r : List Nat, DpAll K H (rowV r) (r.map fun (k : Nat) => PyData.int (k : Int))
  | [] => .nil
  | x :: r => .cons (.int _) (dp_row r)
def pickAt (zs : List Str) (r : List Nat) : List Str := r.map fun k => zs.getD k Str.empty
/-- the lots of the first i lengths -/
def lawLots (ch : Bool) (zs : List Str) (i : Nat) : List (List Str) := if ch then (List.range i).flatMap (longRows zs) else ((List.range i).flatMap fun k => bRows zs.length (k + 1)).map (pickAt zs)
theorem lawLots_all (ch : Bool) (zs : List Str) : lawLots ch zs zs.length = lotsFor ch zs := by
  cases ch with
  | true => rfl
  | false =>
    show (bAll zs.length).map (pickAt zs) = lotsOf zs
    rw [bAll_eq]
    rfl
theorem lawLots_next (ch : Bool) (zs : List Str) (i : Nat) : lawLots ch zs (i + 1) = lawLots ch zs i ++ (if ch then longRows zs i else (bRows zs.length (i + 1)).map (pickAt zs)) := by
  cases ch with
  | true =>
    show (List.range (i + 1)).flatMap (longRows zs) = (List.range i).flatMap (longRows zs) ++ longRows zs i
    rw [List.range_succ, List.flatMap_append, List.flatMap_cons, List.flatMap_nil, List.append_nil]
  | false =>
    show ((List.range (i + 1)).flatMap fun k => bRows zs.length (k + 1)).map (pickAt zs) = _
    rw [List.range_succ, List.flatMap_append, List.flatMap_cons, List.flatMap_nil, List.append_nil, List.map_append]
    rfl
def spBlots (K : PySem.W.Frag) : Sp := fun vs H Q _ => ∃ (a : Addr) (zs : List Str) (ch : Bool), vs = [.ref a, .bl ch] ∧ H a = some (.lst (zs.map V.str)) ∧ zs.length ≤ mostFor ch ∧
  ∀ (D : Addr) (ws : List V) (H' : Hp), H D = none → Same H H' → H' D = some (.lst ws) → Ats H' (fun l => l.map V.str) ws (lotsFor ch zs) → Q (.ref D) H'
def spRows (K : PySem.W.Frag) : Nat → Sp
  | 0 => fun _ _ _ _ => False
  | m + 1 => fun vs H Q _ => ∃ k n : Nat, vs = [.int (k : Int), .int (n : Int)] ∧ k ≤ m ∧ k ≤ 5 ∧ n ≤ 5 ∧ ∀ (D : Addr) (ws : List V) (H' : Hp), H D = none → Same H H' → H' D = some (.lst ws) → Ats H' rowV ws (bRows n k) → Q (.ref D) H'
end Bk

namespace Bk
open PySem PySem.Spec PyProof.Rows L2
section
variable {P : Program} {w : World} {K : PySem.W.Frag} {mg : Str → Option Value} {base : Heap}
theorem scBrows : FnScope ["_law_many", "_law_left", "_law_found", "_law_head", "_law_at"] ["_law_many", "_law_left"] (defScope (topS 89)) := ⟨rfl, rfl, rfl, by decide +kernel, rfl, by decide +kernel, by decide +kernel⟩
theorem startE {σ : L2.St} {H : Hp} {R : VK} {a : Addr} {row : List Nat} (hv : σ[3]? = some (some (.ref a))) (ha : H a = some (.tup (rowV row))) (r : ∀ H', Same H H' → R (.int (startB row : Int)) H') :
    tIf (tTest (tOp (rNeD K) (tVar 3) (tTup tNil))) (tOp (rI0 fun i j => V.int (i + j)) (tOp (rIxT K) (tVar 3) (tUn (rU fun i => V.int (-i)) (tC (V.int 1)))) (tC (V.int 1))) (tC (V.int 0)) σ H R := by
  refine ⟨_, hv, Nat.zero_le _, fun t nt => ⟨.tuple (row.map fun (k : Nat) => PyData.int (k : Int)), .tuple [], .tup (SqT.of (same_upd nt _ _ ha)) (dp_row row), .tup (SqT.of upd_same) .nil, shaped_row row, rfl, _, rfl, ?_⟩⟩
  rw [eqv_row]
  have et := same_upd (o := HO.tup []) nt
  by_cases h : row = []
  · subst h
    refine iteF ?_
    exact r _ et
  · have e : (!row.isEmpty) = true := by
      cases row with
      | nil => exact absurd rfl h
      | cons x r => rfl
    rw [e]
    refine iteT ?_
    refine ⟨_, hv, 1, rfl, a, _, _, _, rfl, rfl, SqT.of (et _ _ ha), at_last h, _, _, rfl, rfl, ?_⟩
    have := r _ et
    unfold startB at this
    rw [if_neg h] at this
    exact this
theorem brows_step (B : Bi mg) {m : Nat} {f : Addr} {fd : FuncData} (F : Fun K "_law_b_rows" "_law_b_rows" (topS 89) f fd) (g : mg "_law_b_rows" = some (.ref f)) (b : Binds K fd ["_law_many", "_law_left"] [])
    (ih : FnOk P w K mg base CX0 (m + 1) f fd ["_law_many", "_law_left"] (spRows K m)) : FnOk P w K mg base CX0 (m + 2) f fd ["_law_many", "_law_left"] (spRows K (m + 1)) := by
  refine F.ok scBrows (fun vs H Q E h => ?_) (fun cdv A outer s H vs Q E hr h => ?_)
  · obtain ⟨k, n, rfl, _⟩ := h
    rfl
  · obtain ⟨k, n, rfl, hk, hk5, hn, q⟩ := h
    have nd := scBrows.nd
    have hu := hu_of hr
    have hr__law_b_rows := hr
    have c__law_b_rows : Cal P w K mg base CX0 (m + 1) "_law_b_rows" f fd ["_law_many", "_law_left"] (spRows K m) := ⟨ih, g, F.kp, b⟩
    refine ⟨_, (pss_cons (ps_set (i := 2) nd rfl (Or.inl rfl) (pe_lst pa_nil))
      (pss_cons (ps_for PassesOwn.never rfl (kPiL K (pe_ifExp (pt_cmpR op_gt (pv 0) pe_int (nomark _)) (pe_call c__law_b_rows.ok hr__law_b_rows (by rfl) c__law_b_rows.g c__law_b_rows.kp c__law_b_rows.b .nil pass0 (pa_cons (pe_op op_sub (pv 0) pe_int) (pa_cons (pv 1) pa_nil))) (pe_lst pa_nil))) (pg_name (i := 3) nd rfl (Or.inr rfl)) (pss_one (ps_expr (pe_bm PySem.F.plainAttrs_list PySem.F.slot_list_extend PySem.F.type_list_extend mt_extend (pv 2) (pa_cons (pe_lc (own := [("_law_at", 4)]) rfl nd (pi_range2 (by rfl) B.range (pa_cons (pe_ifExp (pt_cmpR (kNeD K hr.units) (pv 3) (pe_tup pa_nil) (nomark _)) (pe_op op_add (pe_ix (kIxT K) (pv 3) (pe_un un_neg pe_int) (fun _ _ => rfl)) pe_int) pe_int) (pa_cons (pv 1) pa_nil))) (blkOk_by (N := ["_law_many", "_law_left", "_law_found", "_law_head", "_law_at"]) (sc := defScope (topS 89)) (by decide +kernel)) (fun _ _ _ _ _ => (pg_name (i := 4) nd rfl (Or.inl rfl))) (fun _ _ _ _ _ => pts_nil) (fun _ _ _ _ _ => (pe_op (kCatA K) (pv 3) (pe_tup (pa_cons (pv 4) pa_nil))))) pa_nil)))))
      (pss_one (ps_ret (pe_ifExp (pt_cmpR op_gt (pv 0) pe_int (nomark _)) (pv 2) (pe_lst (pa_cons (pe_tup pa_nil) pa_nil))))))), ?_⟩
    refine ⟨Nat.zero_le _, fun l nl => ?_⟩
    have e0 := same_upd (o := HO.lst []) nl
    have hl0 : upd H l (.lst []) l = some (.lst []) := upd_same
    generalize upd H l (.lst []) = H0 at e0 hl0 ⊢
    refine ⟨_, rfl, _, _, rfl, rfl, _, rfl, ?_⟩
    cases k with
    | zero =>
      refine iteF ?_
      refine ⟨Nat.zero_le _, fun b0 nb0 => ?_⟩
      have hb0 : upd H0 b0 (.lst []) b0 = some (.lst []) := upd_same
      have e1 := Same.trans e0 (same_upd (o := HO.lst []) nb0)
      generalize upd H0 b0 (.lst []) = H1 at hb0 e1 ⊢
      refine ⟨b0, rfl, ⟨_, SqL.of hb0⟩, for_it (walk_list (xs := [])) (fun _ σ' H' => σ' = [some (.int ((0 : Nat) : Int)), some (.int (n : Int)), some (.ref l), none, none] ∧ H' = H1) ⟨rfl, rfl⟩ (fun _ _ _ _ ⟨_, e⟩ => by rw [e]; exact SqL.of hb0) ?_ ?_⟩
      · intro i x σ' H' H'' hi
        exact absurd hi (Nat.not_lt_zero _)
      · rintro σ' H' ⟨rfl, rfl⟩
        refine ⟨_, rfl, _, _, rfl, rfl, _, rfl, ?_⟩
        refine iteF ?_
        refine ⟨Nat.zero_le _, fun t nt => ⟨by show 1 ≤ sizeLine; rw [sizeLine_eq]; omega, fun D nD => ?_⟩⟩
        have et := same_upd (o := HO.tup []) nt
        have eD := same_upd (o := HO.lst [V.ref t]) nD
        have e2 := Same.trans e1 (Same.trans et eD)
        exact q D _ _ (Same.free (Same.trans e1 et) nD) e2 upd_same (Ats.one (eD _ _ upd_same))
    | succ k =>
      rw [show decide ((0 : Int) < ((k + 1 : Nat) : Int)) = true from decide_eq_true (by omega)]
      refine iteT ?_
      cases m with
      | zero => omega
      | succ m =>
      refine ⟨_, rfl, _, _, rfl, rfl, _, rfl, k, n, ?_, by omega, by omega, hn, fun b1 us H1 nb1 e1 hb1 at1 => ?_⟩
      · show [V.int (((k + 1 : Nat) : Int) - 1), V.int (n : Int)] = [V.int (k : Int), V.int (n : Int)]
        rw [show ((k + 1 : Nat) : Int) - 1 = (k : Int) by omega]
      have hl1 := e1 _ _ hl0
      have nlb : l ≠ b1 := ne_of_none hl0 nb1
      have e01 := Same.trans e0 e1
      have hok := bRows_ok (n := n) k
      have hlr := bRows_len hn k
      have hpow : 5 ^ k ≤ 5 ^ 5 := Nat.pow_le_pow_right (by decide) (by omega)
      refine ⟨b1, rfl, ⟨_, SqL.of hb1⟩, for_it (walk_list (xs := us)) (fun i σ' H' => ∃ (v3 : Option V) (ws : List V), σ' = [some (.int ((k + 1 : Nat) : Int)), some (.int (n : Int)), some (.ref l), v3, none] ∧ But l H1 H' ∧ H' l = some (.lst ws) ∧ Ats H' rowV ws (((bRows n k).take i).flatMap (growB n))) ?_ (fun i σ' H' _ ⟨_, _, _, bt, _⟩ => SqL.of (bt _ _ nlb.symm hb1)) ?_ ?_⟩
      · exact ⟨none, [], rfl, fun _ _ _ e => e, hl1, .nil⟩
      · rintro i x σ' H2 H3 hi ⟨v3, ws, rfl, bt, hl2, at2⟩ ⟨rfl, hx⟩
        have hir : i < (bRows n k).length := by rw [← at1.1]; exact hi
        obtain ⟨row, hrow⟩ : ∃ row, (bRows n k)[i]? = some row := ⟨_, List.getElem?_eq_getElem hir⟩
        obtain ⟨a, rfl, ha⟩ := at1.2 i x row hx hrow
        have o := hok row (List.mem_of_getElem? hrow)
        have nal : a ≠ l := ne_of ha hl1 (fun z => nomatch z)
        have ha3 := bt _ _ nal ha
        refine ⟨_, rfl, .inl ⟨rfl, _, SqL.of hl2⟩, ?_⟩
        have hsB := o.start
        refine startE rfl ha3 fun H4 e4 => ?_
        refine ⟨_, rfl, _, _, rfl, ⟨by omega, by omega, by omega, by omega⟩, fun D nD => ?_⟩
        have hnD : D ≠ l := (ne_of_none (e4 _ _ hl2) nD).symm
        have hlw : ws.length ≤ 5 ^ 5 * 5 := by
          rw [at2.1]
          have h1 := flatMap_len (f := growB n) (m := 5) (l := (bRows n k).take i) fun x _ => by rw [growB_length]; omega
          have h2 : ((bRows n k).take i).length ≤ 5 ^ k := by rw [List.length_take]; omega
          omega
        refine lc_it walk_range (fun j H' => ∃ vs3, Same H4 H' ∧ H' D = some (.lst vs3) ∧ Ats H' rowV vs3 ((growB n row).take j)) ?_ (fun _ _ _ _ => trivial) ?_ ?_
        · exact ⟨[], same_upd nD, upd_same, .nil⟩
        · rintro j x H7 H8 hj ⟨vs3, e7, hD7, at7⟩ ⟨rfl, rfl⟩
          have hj : j < n - startB row := by omega
          refine ⟨rfl, yes2 ?_⟩
          refine ⟨_, rfl, _, rfl, by show 1 ≤ sizeLine; rw [sizeLine_eq]; omega, fun p np => ?_⟩
          have ep := same_upd (o := HO.tup [V.int ((startB row : Int) + (j : Int))]) np
          have ha7 := ep _ _ (e7 _ _ (e4 _ _ ha3))
          have lenv : vs3.length ≤ 5 := by
            rw [at7.1, List.length_take, growB_length]
            omega
          refine ⟨a, p, rowV row, _, rfl, rfl, SqT.of ha7, SqT.of upd_same, ?_, fun z => ?_, fun _ z => ?_, fun _ _ t nt => ?_⟩
          · rw [rowV_len, o.len]
            refine Evl.sz_of ?_
            show k + 1 ≤ 100000
            omega
          · have hrow0 : row = [] := List.map_eq_nil_iff.mp z
            refine ⟨vs3, ep _ _ hD7, Evl.sz_lt (by omega), vs3 ++ [.ref p], Same.grow (Same.trans e7 ep) nD, upd_same, ?_⟩
            refine Ats.updL ?_ (ep _ _ hD7)
            rw [take_succ (growB_at hj)]
            refine (at7.same ep).append (Ats.one ?_)
            rw [upd_same, hrow0]
            show some (HO.tup [V.int ((startB [] : Int) + (j : Int))]) = some (HO.tup [V.int ((startB [] + j : Nat) : Int)])
            rw [show ((startB [] + j : Nat) : Int) = (startB [] : Int) + (j : Int) by omega]
          · cases z
          · have et := same_upd (o := HO.tup (rowV row ++ [V.int ((startB row : Int) + (j : Int))])) nt
            have hDt := et _ _ (ep _ _ hD7)
            refine ⟨vs3, hDt, Evl.sz_lt (by omega), vs3 ++ [.ref t], Same.grow (Same.trans e7 (Same.trans ep et)) nD, upd_same, ?_⟩
            refine Ats.updL ?_ hDt
            rw [take_succ (growB_at hj)]
            refine ((at7.same ep).same et).append (Ats.one ?_)
            rw [upd_same]
            unfold rowV
            rw [List.map_append]
            show some (HO.tup (_ ++ [V.int ((startB row : Int) + (j : Int))])) = some (HO.tup (_ ++ [V.int ((startB row + j : Nat) : Int)]))
            rw [show ((startB row + j : Nat) : Int) = (startB row : Int) + (j : Int) by omega]
        · rintro H7 ⟨vs3, e7, hD7, at7⟩
          have hl7 := e7 _ _ (e4 _ _ hl2)
          have bt7 : But l H1 (upd H7 l (.lst (ws ++ vs3))) := (bt.trans (But.same (Same.trans e4 e7))).trans But.upd
          rw [List.take_of_length_le (by rw [growB_length]; omega)] at at7
          refine ⟨l, D, ws, vs3, rfl, rfl, hl7, hD7, ?_, some (.ref a), ws ++ vs3, rfl, bt7, upd_same, ?_⟩
          · rw [at7.1, growB_length, sizeLine_eq]
            omega
          · rw [bRows_snoc hrow]
            exact (((at2.same e4).same e7).append at7).updL hl7
      · rintro σ' H2 ⟨v3, ws, rfl, bt, hl2, at2⟩
        refine ⟨_, rfl, _, _, rfl, rfl, _, rfl, ?_⟩
        rw [show decide ((0 : Int) < ((k + 1 : Nat) : Int)) = true from decide_eq_true (by omega)]
        refine iteT ?_
        rw [at1.1, List.take_length] at at2
        have e2 : Same H H2 := fun b u e => bt _ _ (ne_of_none e nl) (e01 _ _ e)
        exact ⟨_, rfl, q l ws H2 nl e2 hl2 at2⟩
theorem ok_brows (B : Bi mg) {f : Addr} {fd : FuncData} (F : Fun K "_law_b_rows" "_law_b_rows" (topS 89) f fd) (g : mg "_law_b_rows" = some (.ref f)) (b : Binds K fd ["_law_many", "_law_left"] []) : ∀ m, FnOk P w K mg base CX0 (m + 1) f fd ["_law_many", "_law_left"] (spRows K m)
  | 0 => ok_never
  | m + 1 => brows_step B F g b (ok_brows B F g b m)
end
end Bk

namespace Bk
open PySem PySem.Spec PyProof.Rows L2
section
variable {P : Program} {w : World} {K : PySem.W.Frag} {mg : Str → Option Value} {base : Heap}
theorem scBlots : FnScope ["_law_names_here", "_law_is_chain", "_law_found", "_law_many", "_law_at", "_law_row"] ["_law_names_here", "_law_is_chain"] (defScope (topS 90)) := ⟨rfl, rfl, rfl, by decide +kernel, rfl, by decide +kernel, by decide +kernel⟩
theorem ok_blots (B : Bi mg) {f f1 : Addr} {fd fd1 : FuncData} (c__law_b_rows : Cal P w K mg base CX0 7 "_law_b_rows" f1 fd1 ["_law_many", "_law_left"] (spRows K 6)) (F : Fun K "_law_b_lots" "_law_b_lots" (topS 90) f fd) : FnOk P w K mg base CX0 8 f fd ["_law_names_here", "_law_is_chain"] (spBlots K) := by
  refine F.ok scBlots (fun vs H Q E h => ?_) (fun cdv A outer s H vs Q E hr h => ?_)
  · obtain ⟨a, zs, ch, rfl, _⟩ := h
    rfl
  · obtain ⟨a, zs, ch, rfl, hS, hl, q⟩ := h
    have nd := scBlots.nd
    have hu := hu_of hr
    have hr__law_b_rows := hr
    have hl12 : zs.length ≤ 12 := by
      cases ch with
      | true => exact hl
      | false => exact Nat.le_trans hl (by decide)
    refine ⟨_, (pss_cons (ps_set (i := 2) nd rfl (Or.inl rfl) (pe_lst pa_nil))
      (pss_cons (ps_for PassesOwn.never rfl (pi_range2 (by rfl) B.range (pa_cons pe_int (pa_cons (pe_op op_add (pe_callB (kLen K) (by rfl) B.len PySem.boot_len (pa_cons (pv 0) pa_nil)) pe_int) pa_nil))) (pg_name (i := 3) nd rfl (Or.inr rfl)) (pss_one (ps_if (pt_val (pv 1)) (pss_one (ps_expr (pe_bm PySem.F.plainAttrs_list PySem.F.slot_list_extend PySem.F.type_list_extend mt_extend (pv 2) (pa_cons (pe_lc (own := [("_law_at", 4)]) rfl nd (pi_range1 (by rfl) B.range (pa_cons (pe_op op_add (pe_op op_sub (pe_callB (kLen K) (by rfl) B.len PySem.boot_len (pa_cons (pv 0) pa_nil)) (pv 3)) pe_int) pa_nil)) (blkOk_by (N := ["_law_names_here", "_law_is_chain", "_law_found", "_law_many", "_law_at", "_law_row"]) (sc := defScope (topS 90)) (by decide +kernel)) (fun _ _ _ _ _ => (pg_name (i := 4) nd rfl (Or.inl rfl))) (fun _ _ _ _ _ => pts_nil) (fun _ _ _ _ _ => (kTupleOf K (by rfl) B.tuple (pe_slice (kSlL K) (pv 0) (po_some (pv 4)) (po_some (pe_op op_add (pv 4) (pv 3))))))) pa_nil)))) (pss_one (ps_expr (pe_bm PySem.F.plainAttrs_list PySem.F.slot_list_extend PySem.F.type_list_extend mt_extend (pv 2) (pa_cons (pe_lc (own := [("_law_row", 5)]) rfl nd (kPiL K (pe_call c__law_b_rows.ok hr__law_b_rows (by rfl) c__law_b_rows.g c__law_b_rows.kp c__law_b_rows.b .nil pass0 (pa_cons (pv 3) (pa_cons (pe_callB (kLen K) (by rfl) B.len PySem.boot_len (pa_cons (pv 0) pa_nil)) pa_nil)))) (blkOk_by (N := ["_law_names_here", "_law_is_chain", "_law_found", "_law_many", "_law_at", "_law_row"]) (sc := defScope (topS 90)) (by decide +kernel)) (fun _ _ _ _ _ => (pg_name (i := 5) nd rfl (Or.inl rfl))) (fun _ _ _ _ _ => pts_nil) (fun _ _ _ _ _ => (kTupleOf K (by rfl) B.tuple (pe_lc (own := [("_law_at", 4)]) rfl nd (kPiT K (pv 5)) (blkOk_by (by with_unfolding_all rfl)) (fun _ _ _ _ _ => (pg_name (i := 4) nd rfl (Or.inl rfl))) (fun _ _ _ _ _ => pts_nil) (fun _ _ _ _ _ => (pe_ix (kIxL K) (pv 0) (pv 4) (fun _ _ => rfl))))))) pa_nil)))))))
      (pss_one (ps_ret (pv 2))))), ?_⟩
    refine ⟨Nat.zero_le _, fun l nl => ?_⟩
    have e0 := same_upd (o := HO.lst []) nl
    have hl0 : upd H l (.lst []) l = some (.lst []) := upd_same
    generalize upd H l (.lst []) = H0 at e0 hl0 ⊢
    have hS0 : SqL K H0 a (zs.map V.str) := SqL.of (e0 _ _ hS)
    have nal : a ≠ l := ne_of_none hS nl
    refine ⟨_, rfl, .ref a, zs.length, rfl, .inl ⟨_, hS0, by rw [List.length_map]⟩, _, _, rfl, rfl, _, _, rfl, ⟨by omega, by omega, by omega, by omega⟩, ?_⟩
    have en : ((zs.length : Int) + 1 - 1).toNat = zs.length := by omega
    rw [en]
    refine for_it walk_range (fun i σ' H' => ∃ (v3 : Option V) (ws : List V), σ' = [some (.ref a), some (.bl ch), some (.ref l), v3, none, none] ∧ But l H0 H' ∧ H' l = some (.lst ws) ∧ ws.length ≤ i * 10000 ∧ Ats H' (fun l : List Str => l.map V.str) ws (lawLots ch zs i)) ?_ (fun _ _ _ _ _ => trivial) ?_ ?_
    · refine ⟨none, [], rfl, fun _ _ _ e => e, hl0, Nat.zero_le _, ?_⟩
      cases ch <;> exact .nil
    · rintro i x σ' H1 H2 hi ⟨v3, ws, rfl, bt, hl2, lw, at2⟩ ⟨rfl, rfl⟩
      have hS2 : H2 a = some (.lst (zs.map V.str)) := bt _ _ nal (e0 _ _ hS)
      have ext : ∀ (D : Addr) (us : List V) (H' : Hp), Same H2 H' → D ≠ l → H' D = some (.lst us) → us.length ≤ 10000 → Ats H' (fun l : List Str => l.map V.str) us (if ch then longRows zs i else (bRows zs.length (i + 1)).map (pickAt zs)) →
          rExtend (.ref l) [.ref D] H' (fun _ H3 => ∃ (v3 : Option V) (ws : List V), [some (V.ref a), some (.bl ch), some (.ref l), some (.int (1 + (i : Int))), none, none] = [some (.ref a), some (.bl ch), some (.ref l), v3, none, none] ∧ But l H0 H3 ∧ H3 l = some (.lst ws) ∧ ws.length ≤ (i + 1) * 10000 ∧ Ats H3 (fun l : List Str => l.map V.str) ws (lawLots ch zs (i + 1))) := by
        intro D us H' e hD hus lus atu
        have hl' := e _ _ hl2
        refine ⟨l, D, ws, us, rfl, rfl, hl', hus, ?_, _, ws ++ us, rfl, (bt.trans (But.same e)).trans But.upd, upd_same, ?_, ?_⟩
        · rw [sizeLine_eq]
          omega
        · rw [List.length_append]
          omega
        · rw [lawLots_next]
          exact ((at2.same e).append atu).updL hl'
      cases ch with
      | true =>
        refine ⟨_, rfl, _, rfl, ?_⟩
        refine iteT ?_
        refine ⟨_, rfl, .inl ⟨rfl, _, SqL.of hl2⟩, ?_⟩
        refine ⟨_, rfl, .ref a, zs.length, rfl, .inl ⟨_, SqL.of hS2, by rw [List.length_map]⟩, _, rfl, _, _, rfl, rfl, _, _, rfl, rfl, _, rfl, by omega, by omega, fun D nD => ?_⟩
        have ec : ((zs.length : Int) - (1 + (i : Int)) + 1).toNat = zs.length - i := by omega
        rw [ec]
        refine lc_it walk_range (fun j H' => ∃ vs3, Same H2 H' ∧ H' D = some (.lst vs3) ∧ Ats H' (fun l : List Str => l.map V.str) vs3 ((longRows zs i).take j)) ?_ (fun _ _ _ _ => trivial) ?_ ?_
        · exact ⟨[], same_upd nD, upd_same, .nil⟩
        · rintro j x H7 H8 hj ⟨vs3, e7, hD7, at7⟩ ⟨rfl, rfl⟩
          refine ⟨rfl, yes2 ?_⟩
          have ecut : cutV (zs.map V.str) (some (0 + (j : Int))) (some (0 + (j : Int) + (1 + (i : Int)))) = ((zs.drop j).take (i + 1)).map V.str := by
            rw [show 0 + (j : Int) = ((j : Nat) : Int) by omega, show (j : Int) + (1 + (i : Int)) = ((j + (i + 1) : Nat) : Int) by omega, cut_mid _ _ _ (by omega) (by rw [List.length_map]; omega), List.map_take, List.map_drop]
            congr 1
            omega
          refine ⟨_, rfl, _, rfl, _, rfl, _, rfl, _, rfl, _, _, rfl, rfl, _, rfl, a, _, rfl, SqL.of (e7 _ _ hS2), fun p np => ?_⟩
          rw [ecut]
          have ep := same_upd (o := HO.lst (((zs.drop j).take (i + 1)).map V.str)) np
          refine .inl ⟨p, _, rfl, SqL.of upd_same, fun t nt => ?_⟩
          have et := same_upd (o := HO.tup (((zs.drop j).take (i + 1)).map V.str)) nt
          have hDt := et _ _ (ep _ _ hD7)
          have lenv : vs3.length ≤ 12 := by
            rw [at7.1, List.length_take, longRows_len]
            omega
          refine ⟨vs3, hDt, Evl.sz_lt (by omega), vs3 ++ [.ref t], Same.grow (Same.trans e7 (Same.trans ep et)) nD, upd_same, ?_⟩
          refine Ats.updL ?_ hDt
          rw [take_succ (longRows_at hj)]
          refine ((at7.same ep).same et).append (Ats.one ?_)
          rw [upd_same]
        · rintro H7 ⟨vs3, e7, hD7, at7⟩
          rw [List.take_of_length_le (by rw [longRows_len]; omega)] at at7
          refine ext D vs3 H7 e7 (ne_of_none hl2 nD).symm hD7 ?_ at7
          rw [at7.1, longRows_len]
          omega
      | false =>
        have hl5 : zs.length ≤ 5 := hl
        refine ⟨_, rfl, _, rfl, ?_⟩
        refine iteF ?_
        refine ⟨_, rfl, .inl ⟨rfl, _, SqL.of hl2⟩, ?_⟩
        refine ⟨_, rfl, _, rfl, .ref a, zs.length, rfl, .inl ⟨_, SqL.of hS2, by rw [List.length_map]⟩, i + 1, zs.length, ?_, by show i + 1 ≤ 5; omega, by omega, hl5, fun b us H3 nb e3 hb at3 => ?_⟩
        · show [V.int (1 + (i : Int)), V.int (zs.length : Int)] = [V.int ((i + 1 : Nat) : Int), V.int (zs.length : Int)]
          rw [show ((i + 1 : Nat) : Int) = 1 + (i : Int) by omega]
        have hok := bRows_ok (n := zs.length) (i + 1)
        have hlr := bRows_len hl5 (i + 1)
        have hpow : 5 ^ (i + 1) ≤ 5 ^ 5 := Nat.pow_le_pow_right (by decide) (by omega)
        refine ⟨b, rfl, ⟨_, SqL.of hb⟩, fun D nD => ?_⟩
        refine lc_it (walk_list (xs := us)) (fun j H' => ∃ vs2, Same H3 H' ∧ H' D = some (.lst vs2) ∧ Ats H' (fun l : List Str => l.map V.str) vs2 (((bRows zs.length (i + 1)).map (pickAt zs)).take j)) ?_ (fun j H' _ ⟨_, e5, _⟩ => SqL.of (e5 _ _ hb)) ?_ ?_
        · exact ⟨[], same_upd nD, upd_same, .nil⟩
        · rintro j x H5 H6 hj ⟨vs2, e5, hD, at5⟩ ⟨rfl, hx⟩
          have hir : j < (bRows zs.length (i + 1)).length := by rw [← at3.1]; exact hj
          obtain ⟨row, hrow⟩ : ∃ row, (bRows zs.length (i + 1))[j]? = some row := ⟨_, List.getElem?_eq_getElem hir⟩
          obtain ⟨b', rfl, hb'⟩ := at3.2 j x row hx hrow
          have o := hok row (List.mem_of_getElem? hrow)
          refine ⟨rfl, yes2 ?_⟩
          refine ⟨_, rfl, b', rfl, ⟨_, SqT.of (e5 _ _ hb')⟩, fun D2 nD2 => ?_⟩
          refine lc_it (walk_tup (xs := rowV row)) (Upto H6 D2 row fun k => V.str (zs.getD k Str.empty)) (.zero nD2) (fun j H' _ u => SqT.of (u.sm _ _ (e5 _ _ hb'))) ?_ ?_
          · rintro j x H7 H8 hj u ⟨rfl, hx2⟩
            unfold rowV at hx2
            rw [List.getElem?_map] at hx2
            obtain ⟨k, hk, rfl⟩ := Option.map_eq_some_iff.mp hx2
            have hkn : k < zs.length := o.lt k (List.mem_of_getElem? hk)
            refine ⟨rfl, yes2 ?_⟩
            refine ⟨_, rfl, _, rfl, a, zs.map V.str, (k : Int), _, rfl, rfl, SqL.of ((Same.trans e3 (Same.trans e5 u.sm)) _ _ hS2), atI_nat ?_, u.next nD2 hk (Same.refl _) ?_⟩
            · rw [List.getElem?_map, List.getElem?_eq_getElem hkn, List.getD_eq_getElem?_getD, List.getElem?_eq_getElem hkn]
              rfl
            · have := o.len
              omega
          · intro H7 u
            have eD2 := u.all (rowV_len row)
            refine .inl ⟨D2, _, rfl, SqL.of eD2, fun p np => ?_⟩
            have ep := same_upd (o := HO.tup (row.map fun k => V.str (zs.getD k Str.empty))) np
            have hD7 := ep _ _ (u.sm _ _ hD)
            have hlot : ((bRows zs.length (i + 1)).map (pickAt zs))[j]? = some (row.map fun k => zs.getD k Str.empty) := by
              rw [List.getElem?_map, hrow]
              rfl
            refine ⟨vs2, hD7, Evl.sz_lt ?_, vs2 ++ [.ref p], Same.grow (Same.trans e5 (Same.trans u.sm ep)) nD, upd_same, ?_⟩
            · rw [at5.1, List.length_take, List.length_map]
              omega
            · refine Ats.updL ?_ hD7
              rw [take_succ hlot]
              refine ((at5.same u.sm).same ep).append (Ats.one ?_)
              rw [upd_same, List.map_map]
              rfl
        · rintro H5 ⟨vs2, e5, hD, at5⟩
          rw [List.take_of_length_le (by rw [List.length_map, at3.1]; exact Nat.le_refl _)] at at5
          have e35 := Same.trans e3 e5
          refine ext D vs2 H5 e35 ?_ hD ?_ at5
          · exact (ne_of_none (e3 _ _ hl2) nD).symm
          · rw [at5.1, List.length_map]
            omega
    · rintro σ' H1 ⟨v3, ws, rfl, bt, hl2, lw, at2⟩
      rw [lawLots_all] at at2
      exact ⟨_, rfl, q l ws H1 nl (fun b u e => bt _ _ (ne_of_none e nl) (e0 _ _ e)) hl2 at2⟩
end
end Bk

namespace Bk
open PySem PySem.Spec PyProof.Rows L2
def signsZ : Str := Str.ofString "zyxwvutsrqponmlkjihg"
def spareNames : List Str := signsZ.cps.toList.map fun c => Str.ofString "z" ++ sg c
theorem spare_nodup : spareNames.Nodup := by decide +kernel
theorem spare_len : spareNames.length = 20 := by decide +kernel
theorem spare_names : ∀ z ∈ spareNames, isNameS z = true := by decide +kernel
theorem fresh_spare (found : List Str) (hf : found.length < 20) : ∃ y r, spareNames.filter (fun x => decide (¬ x ∈ found)) = y :: r ∧ isNameS y = true ∧ y ∉ found := by
  cases e : spareNames.filter (fun x => decide (¬ x ∈ found)) with
  | nil =>
    have h : ∀ x ∈ spareNames, x ∈ found := by
      intro x hx
      by_cases h : x ∈ found
      · exact h
      · have : x ∈ spareNames.filter (fun x => decide (¬ x ∈ found)) := List.mem_filter.mpr ⟨hx, decide_eq_true h⟩
        rw [e] at this
        cases this
    have := pigeon spareNames found spare_nodup h
    rw [spare_len] at this
    omega
  | cons y r =>
    have hy : y ∈ spareNames.filter (fun x => decide (¬ x ∈ found)) := by rw [e]; exact List.mem_cons_self
    obtain ⟨h1, h2⟩ := List.mem_filter.mp hy
    exact ⟨y, r, rfl, spare_names y h1, of_decide_eq_true h2⟩
def spSpare (K : PySem.W.Frag) : Sp := fun vs H Q _ => ∃ (a : Addr) (zs : List Str), vs = [.ref a] ∧ (SqL K H a (zs.map V.str) ∨ SqT K H a (zs.map V.str)) ∧ zs.length < 20 ∧ ∀ (z : Str) (H' : Hp), Same H H' → isNameS z = true → z ∉ zs → Q (.str z) H'
section
variable {P : Program} {w : World} {K : PySem.W.Frag} {mg : Str → Option Value} {base : Heap}
theorem scSpare : FnScope ["_law_names_here", "_law_x", "_law_sign"] ["_law_names_here"] (defScope (topS 88)) := ⟨rfl, rfl, rfl, by decide +kernel, rfl, by decide +kernel, by decide +kernel⟩
theorem ok_spare (B : Bi mg) {f : Addr} {fd : FuncData} (F : Fun K "_law_spare" "_law_spare" (topS 88) f fd) : FnOk P w K mg base CX0 1 f fd ["_law_names_here"] (spSpare K) := by
  refine F.ok scSpare (fun vs H Q E h => ?_) (fun cdv A outer s H vs Q E hr h => ?_)
  · obtain ⟨a, zs, rfl, _⟩ := h
    rfl
  · obtain ⟨a, zs, rfl, hS, hl, q⟩ := h
    have nd := scSpare.nd
    have hu := hu_of hr
    refine ⟨_, (pss_one (ps_ret (pe_ix (kIxL K) (pe_lc (own := [("_law_x", 1)]) rfl nd (kPiL K (pe_lc (own := [("_law_sign", 2)]) rfl nd (pi_str pe_str) (blkOk_by (N := ["_law_names_here", "_law_x", "_law_sign"]) (sc := defScope (topS 88)) (by decide +kernel)) (fun _ _ _ _ _ => (pg_name (i := 2) nd rfl (Or.inl rfl))) (fun _ _ _ _ _ => pts_nil) (fun _ _ _ _ _ => (pe_op op_add_str pe_str (pv 2))))) (blkOk_by (N := ["_law_names_here", "_law_x", "_law_sign"]) (sc := defScope (topS 88)) (by decide +kernel)) (fun _ _ _ _ _ => (pg_name (i := 1) nd rfl (Or.inl rfl))) (fun _ _ _ _ _ => (pts_one (pt_cmpR (kNotIn K) (pv 1) (pv 0) rfl))) (fun _ _ _ _ _ => (pv 1))) pe_int (fun _ _ => rfl)))), ?_⟩
    obtain ⟨y, r, ey, hy, hny⟩ := fresh_spare zs hl
    refine ⟨_, rfl, fun D nD => lc_it walk_str (Upto H D signsZ.cps.toList fun ch => V.str (Str.ofString "z" ++ sg ch)) (.zero nD) (fun _ _ _ _ => trivial) ?_ ?_⟩
    · rintro j x H5 H6 hj u ⟨rfl, ch, hc, rfl⟩
      refine ⟨rfl, yes2 ?_⟩
      have hc' : signsZ.cps.toList[j]? = some ch := by rw [← hc]; simp [signsZ]
      exact ⟨_, rfl, _, _, rfl, rfl, (by show 2 ≤ sizeLine; decide), u.next nD hc' (Same.refl _) (by decide)⟩
    · intro H5 u
      have eD := u.all (by simp [signsZ])
      have eD : H5 D = some (.lst (spareNames.map V.str)) := by
        rw [eD]
        unfold spareNames
        rw [List.map_map]
        rfl
      have e5 := u.sm
      have hS5 : SqL K H5 a (zs.map V.str) ∨ SqT K H5 a (zs.map V.str) := hS.imp (fun z => Same.seq e5 z) fun z => Same.sqt e5 z
      refine ⟨D, rfl, ⟨_, SqL.of eD⟩, fun D2 nD2 => lc_it (walk_list (xs := spareNames.map V.str)) (UptoF H5 D2 spareNames V.str fun x => decide (¬ x ∈ zs)) (.zero nD2) (fun j H4 _ u => SqL.of (u.sm _ _ eD)) ?_ ?_⟩
      · rintro j x H6 H7 hj u ⟨rfl, hx⟩
        rw [List.getElem?_map] at hx
        obtain ⟨y0, hy0, rfl⟩ := Option.map_eq_some_iff.mp hx
        refine ⟨rfl, ?_⟩
        refine ⟨_, rfl, _, rfl, a, _, rfl, hS5.imp (fun z => Same.seq u.sm z) (fun z => Same.sqt u.sm z), rfl, flat_strs _, _, rfl, ?_⟩
        rw [inV_strs]
        by_cases hm : y0 ∈ zs
        · rw [decide_eq_true hm]
          refine iteF ?_
          exact u.no hy0 (by simp [hm]) (Same.refl _)
        · rw [decide_eq_false hm]
          refine iteT ?_
          exact ⟨_, rfl, u.yes nD2 hy0 (by simp [hm]) (Same.refl _) (by rw [spare_len]; decide)⟩
      · intro H6 u
        have eD2 := u.all (by rw [List.length_map])
        rw [ey] at eD2
        exact ⟨D2, _, 0, V.str y, rfl, rfl, SqL.of eD2, atI_nat (j := 0) rfl, q y H6 (Same.trans e5 u.sm) hy hny⟩
end
end Bk

namespace Bk
open PySem PySem.Spec PyProof.Rows L2
section
variable {K : PySem.W.Frag}
/-! ### the top's facts -/
theorem fun_of {x qual : Str} {st : Stmt} {f : Addr} {fd : FuncData} (F : FunD K x qual (defArgs st) (defBody st) (defScope st) [] [] f fd) : Fun K x qual st f fd := by
  obtain ⟨⟨oc, od, dV, kV, doc, pm, an, cdv, ct, osl, rfl, lk, hcd, hD, _⟩, kp⟩ := F
  rcases hD with ⟨_, rfl⟩ | ⟨e, _⟩
  · exact ⟨⟨oc, od, kV, doc, pm, an, cdv, ct, osl, rfl, lk, hcd⟩, kp⟩
  · exact absurd rfl e
theorem mroE_ok {C : Addr} {l : List Value} (h : mroE C l = true) : ∃ bm, l = .ref C :: bm ∧ PySem.HandSPX.refsVE bm = true := by
  unfold mroE at h
  split at h
  · obtain ⟨h1, h2⟩ := Bool.and_eq_true_iff.mp h
    have e := of_decide_eq_true h1
    subst e
    exact ⟨_, rfl, h2⟩
  · cases h
theorem sixE_ok {l : List (Option Value)} (h : sixE l = true) : ∃ a b c d e, l = [a, b, c, d, some (.builtin "ValueError.__new__"), e] := by
  unfold sixE at h
  split at h
  · have e := of_decide_eq_true h
    subst e
    exact ⟨_, _, _, _, _, rfl⟩
  · cases h
theorem ownErr_ok {C : Addr} (h : ownErr K C = true) : ∃ nm q N bs bm sn sub ab col dd k0 k1 k2 k3 k5, K.lookup C = some (excClassObj nm q C N bs bm true sn sub ab col dd k0 k1 k2 k3 k5 "ValueError.__new__") ∧ PySem.HandSPX.refsVE bm = true := by
  unfold ownErr at h
  split at h
  · rename_i t dd cd sl q
    obtain ⟨h1, h⟩ := Bool.and_eq_true_iff.mp h
    obtain ⟨h2, h⟩ := Bool.and_eq_true_iff.mp h
    obtain ⟨h3, h⟩ := Bool.and_eq_true_iff.mp h
    obtain ⟨h4, h5⟩ := Bool.and_eq_true_iff.mp h
    have e1 := of_decide_eq_true h1
    obtain ⟨bm, e4, e5⟩ := mroE_ok h4
    obtain ⟨a, b, c, d, e, e6⟩ := sixE_ok h5
    obtain ⟨l⟩ := sl
    obtain ⟨c1, c2, c3, c4, c5, c6, c7, c8, c9, c10, c11⟩ := cd
    subst e1
    simp only at h2 h3 e4 e6
    subst h2 e4 e6
    have h3 : c11 = false := by
      cases c11 with
      | true => cases h3
      | false => rfl
    subst h3
    exact ⟨c1, c5, c4, c2, bm, c7, c8, c9, c10, dd, a, b, c, d, e, q, e5⟩
  · cases h
theorem errB_ok {mg : Str → Option Value} {x : Str} {C fI : Addr} {f : Str} (h : errB K C fI = true) (g : mg x = some (.ref C)) (noF : PySem.W.findIn K (.ref C) f = some none) (iC : PySem.W.findIn K (.ref C) "__init__" = some (some (.ref fI))) (te : PySem.W.exmOne K (.ref C) (.ref C) = some true) : ExT K mg x C fI f := by
  obtain ⟨h1, h⟩ := Bool.and_eq_true_iff.mp h
  obtain ⟨h2, h⟩ := Bool.and_eq_true_iff.mp h
  obtain ⟨h3, h⟩ := Bool.and_eq_true_iff.mp h
  obtain ⟨h4, h⟩ := Bool.and_eq_true_iff.mp h
  obtain ⟨h5, h⟩ := Bool.and_eq_true_iff.mp h
  obtain ⟨h6, h7⟩ := Bool.and_eq_true_iff.mp h
  exact ⟨g, ⟨ownErr_ok h1, of_decide_eq_true h7, of_decide_eq_true h3, of_decide_eq_true h4, h5⟩, xfB_ok h2, noF, iC, of_decide_eq_true h6, te⟩
theorem insB_ok {C : Addr} (h : insB K C = true) (c : Cls K C) (H : Hp) (x dx : Addr) (fs : List (Str × V)) (e : H x = some (.ins C dx fs)) : TyX K H (.ref x) (.ref C) := by
  obtain ⟨h1, h⟩ := Bool.and_eq_true_iff.mp h
  obtain ⟨h2, h⟩ := Bool.and_eq_true_iff.mp h
  obtain ⟨h3, h4⟩ := Bool.and_eq_true_iff.mp h
  exact .base (.ins e c (of_decide_eq_true h1) (of_decide_eq_true h2) (of_decide_eq_true h3) (of_decide_eq_true h4))
end
end Bk

/-! len, in, comparisons and subscripts of instances whose class says them itself: my own rules beside the layer's -/
namespace Bk
open PySem PySem.Spec PyProof.Rows L2
section
variable {X : Cx} {CX : CXT} {n : Nat} {C f : Addr} {fd : FuncData} {ps : List Str} {sp : Sp} {E : XK} {A : Around}
/-- a def of the text called from within a builtin -/
theorem own_run {pins : List (Addr × Obj)} {σ : L2.St} {H : Hp} {s : Shared} {Q : VK} {vs : List V} {us : List Value} (F : FnOk X.prog X.w X.K X.mg X.base CX n f fd ps sp) (hb : Binds X.K fd ps []) (hx : Passes CX X E) (sb : Sub X n A) (I : Inv X pins σ H s) (r : Vals vs us)
    (h : sp vs H Q E) : wpAny (model X.prog X.w) A (call (.ref f) us) (EP X pins σ Q) X.xe s := by
  have e := I.env0
  have e0 : Env0 X.prog X.w X.K X.mg X.base A X.stack s H := ⟨by rw [sb.fr]; exact e.frames, e.mod, e.bs, e.bsz, e.funs, e.frf, e.hok, e.bare⟩
  have hl := F.len _ _ _ _ h
  refine wpAny_call (codeAny_mono (F.run A X.stack s H ⟨us, []⟩ us vs _ E sb.room e0 (by
    have := hb s us I.kIn (by rw [List.append_nil, ← r.length, hl])
    simpa using this) r h) fun z s' hq => ?_)
  cases z with
  | error er => exact hx pins σ H s er s' I hq
  | ok fl =>
    cases fl with
    | ret w => exact I.after hq
    | next => exact False.elim hq
    | brk => exact False.elim hq
    | cont => exact False.elim hq
/-- a method that the class at C says itself, by name -/
structure Own (K : PySem.W.Frag) (C : Addr) (m : Str) (f : Addr) : Prop where
  at_ : PySem.W.findIn K (.ref C) m = some (some (.ref f))
  fn : PySem.W.isFn K (.ref f) = true
/-- len(x) -/
def rLenOwn (C : Addr) (sp : Sp) (E : XK) : List V → Hp → VK → Prop := fun xs H Q => ∃ (a dx : Addr) (fs : List (Str × V)), xs = [.ref a] ∧ H a = some (.ins C dx fs) ∧ sp [.ref a] H (fun v H' => ∃ k : Int, v = .int k ∧ 0 ≤ k ∧ k < 2 ^ 63 ∧ Q (.int k) H') E
theorem call_lenOwn (F : FnOk X.prog X.w X.K X.mg X.base CX n f fd ps sp) (hb : Binds X.K fd ps []) (hx : Passes CX X E) (hr : Room (n + 1) X.A) (m : Own X.K C "__len__" f) : CallR X (.builtin "len") (rLenOwn C sp E) := by
  intro pins s σ H xs us Q I r h
  obtain ⟨a, dx, fs, rfl, ha, hs⟩ := h
  cases r with
  | cons ra rn =>
    cases rn
    cases ra
    obtain ⟨mA, J, _⟩ := ins_get I.hok ha
    obtain ⟨od, J, _⟩ := J.look
    have sb : Sub X (n + 1) X.A := ⟨hr, rfl⟩
    obtain ⟨_, hF⟩ := I.fr
    refine PySem.W.len_K hF I.ok.mod.kin J m.at_ m.fn (wpAny_mono (own_run (vs := [.ref a]) F hb hx sb.in1 I (.cons rfl .nil) hs) (fun v s' hv => ?_) fun _ _ z => z)
    obtain ⟨x, H', I', rv, k, rfl, h0, h1, q⟩ := hv
    obtain ⟨t, rfl⟩ := rv
    exact ⟨⟨h0, h1⟩, .int k, H', I'.tok _, ⟨_, rfl⟩, q⟩
/-- x in y, y such an instance -/
def rInOwn (C : Addr) (sp : Sp) (E : XK) (neg : Bool) : R2 := fun x y H Q => ∃ (a dx : Addr) (fs : List (Str × V)), y = .ref a ∧ H a = some (.ins C dx fs) ∧ sp [.ref a, x] H (fun v H' => ∃ b : Bool, v = .bl b ∧ Q (.bl (if neg then !b else b)) H') E
theorem op_inOwn (F : FnOk X.prog X.w X.K X.mg X.base CX n f fd ps sp) (hb : Binds X.K fd ps []) (hx : Passes CX X E) (hr : Room n X.A) (m : Own X.K C "__contains__" f) : OpR X (compareOp .In) (rInOwn C sp E false) := by
  intro pins s σ H x y v u Q I rx ry h
  obtain ⟨a, dx, fs, rfl, ha, hs⟩ := h
  cases ry
  obtain ⟨mA, J, _⟩ := ins_get I.hok ha
  obtain ⟨od, J, _⟩ := J.look
  obtain ⟨_, hF⟩ := I.fr
  refine PySem.W.in_K hF I.ok.mod.kin J m.at_ m.fn (wpAny_mono (own_run (vs := [.ref a, x]) F hb hx ⟨hr, rfl⟩ I (.cons rfl (.cons rx .nil)) hs) (fun v s' hv => ?_) fun _ _ z => z)
  obtain ⟨x, H', I', rv, b, rfl, q⟩ := hv
  cases rv
  exact wpAny_truthy_bool ⟨.bl b, H', I', rfl, q⟩
theorem op_notInOwn (F : FnOk X.prog X.w X.K X.mg X.base CX n f fd ps sp) (hb : Binds X.K fd ps []) (hx : Passes CX X E) (hr : Room n X.A) (m : Own X.K C "__contains__" f) : OpR X (compareOp .NotIn) (rInOwn C sp E true) := by
  intro pins s σ H x y v u Q I rx ry h
  obtain ⟨a, dx, fs, rfl, ha, hs⟩ := h
  cases ry
  obtain ⟨mA, J, _⟩ := ins_get I.hok ha
  obtain ⟨od, J, _⟩ := J.look
  obtain ⟨_, hF⟩ := I.fr
  refine PySem.W.notIn_K hF I.ok.mod.kin J m.at_ m.fn (wpAny_mono (own_run (vs := [.ref a, x]) F hb hx ⟨hr, rfl⟩ I (.cons rfl (.cons rx .nil)) hs) (fun v s' hv => ?_) fun _ _ z => z)
  obtain ⟨x, H', I', rv, b, rfl, q⟩ := hv
  cases rv
  exact wpAny_truthy_bool ⟨.bl (!b), H', I', rfl, q⟩
end
section
variable {X : Cx} {pins : List (Addr × Obj)} {σ : L2.St} {H : Hp} {s : Shared}
theorem looks_cls {M : Model} {h : Heap} {a : Addr} {o : Obj} {t : Value} (e : h.get? a = some o) (c : o.cls = t) : PySem.W.Looks M h (typeOf (.ref a)) t := fun _ _ _ _ k q => wpAny_typeOf_ref (k _ _ e) (by rw [c]; exact q)
/-- the class of what a tracked value stands for -/
theorem type_of {x : V} {u t : Value} (I : Inv X pins σ H s) (rx : RelV x u) (ty : TyX X.K H x t) : PySem.W.Looks (model X.prog X.w) s.heap (typeOf u) t := by
  cases ty with
  | base b =>
    cases b with
    | non => cases (show u = Value.none from rx); exact PySem.W.Looks.of_pure rfl
    | bl y => cases (show u = Value.bool y from rx); exact PySem.W.Looks.of_pure rfl
    | int i => obtain ⟨t, q⟩ := (show ∃ t, u = Value.int i t from rx); cases q; exact PySem.W.Looks.of_pure rfl
    | str y => obtain ⟨t, q⟩ := (show ∃ t, u = Value.str y t from rx); cases q; exact PySem.W.Looks.of_pure rfl
    | flt y => obtain ⟨t, q⟩ := (show ∃ t, u = Value.float y t from rx); cases q; exact PySem.W.Looks.of_pure rfl
    | @lst a xs ea =>
      cases (show u = Value.ref a from rx)
      obtain ⟨_, _, n, _, h1⟩ := (show ObjOk X.prog X.w H s.heap a (.lst xs) from I.hok a _ ea)
      exact looks_cls h1 rfl
    | @frz a ob xs ea =>
      cases (show u = Value.ref a from rx)
      obtain ⟨_, _, _, n, _, h1⟩ := (show ObjOk X.prog X.w H s.heap a (.frz ob (.lst xs)) from I.hok a _ ea)
      exact looks_cls h1 rfl
    | @tup a xs ea =>
      cases (show u = Value.ref a from rx)
      obtain ⟨_, _, _, o, h1, h2, _⟩ := (show ObjOk X.prog X.w H s.heap a (.tup xs) from I.hok a _ ea)
      exact looks_cls h1 h2
    | @dK a kvs ea =>
      cases (show u = Value.ref a from rx)
      obtain ⟨_, _, vs, _, o, es, ep, h1, h2, _⟩ := (show ObjOk X.prog X.w H s.heap a (.dK kvs) from I.hok a _ ea)
      exact looks_cls h1 h2.1
    | @dT a kvs ea =>
      cases (show u = Value.ref a from rx)
      obtain ⟨_, _, xs, _, o, es, ep, h1, h2, _⟩ := (show ObjOk X.prog X.w H s.heap a (.dT kvs) from I.hok a _ ea)
      exact looks_cls h1 h2.1
    | @ins a C dx fs ea cl ha hn htk hm =>
      cases (show u = Value.ref a from rx)
      obtain ⟨mA, O, _⟩ := ins_get I.hok ea
      exact looks_cls O.obj rfl
  | byt y => obtain ⟨t, q⟩ := (show ∃ t, u = Value.bytes y t from rx); cases q; exact PySem.W.Looks.of_pure rfl
  | @set a S n ea =>
    cases (show u = Value.ref a from rx)
    obtain ⟨o, _, _, _, e, ex, _⟩ := I.hok a _ ea
    exact looks_cls e ex.1
  | @kList a o e c =>
    cases (show u = Value.ref a from rx)
    exact looks_cls (I.kIn a o e) c
  | @kTuple a o e c =>
    cases (show u = Value.ref a from rx)
    exact looks_cls (I.kIn a o e) c
  | @kDict a o e c =>
    cases (show u = Value.ref a from rx)
    exact looks_cls (I.kIn a o e) c
  | @fTuple a o xs ea =>
    cases (show u = Value.ref a from rx)
    obtain ⟨_, _, _, _, o', h1, h2, _⟩ := (show ObjOk X.prog X.w H s.heap a (.frz o (.tup xs)) from I.hok a _ ea)
    exact looks_cls h1 h2
  | @fDict a o kvs ea =>
    cases (show u = Value.ref a from rx)
    obtain ⟨_, _, _, vs, _, o', es, ep, h1, h2, _⟩ := (show ObjOk X.prog X.w H s.heap a (.frz o (.dK kvs)) from I.hok a _ ea)
    exact looks_cls h1 h2.1
end
section
variable {X : Cx} {CX : CXT} {n : Nat} {C f : Addr} {fd : FuncData} {ps : List Str} {sp : Sp} {E : XK}
/-- x op y, x an instance whose class says the comparison itself; it tells a truth value -/
def rCmpOwn (K : PySem.W.Frag) (C : Addr) (sp : Sp) (E : XK) : R2 := fun x y H Q => ∃ (a dx : Addr) (fs : List (Str × V)) (t : Value), x = .ref a ∧ H a = some (.ins C dx fs) ∧ TyX K H y t ∧ PySem.W.notFirst K C t = true ∧ sp [.ref a, y] H (fun v H' => ∃ b : Bool, v = .bl b ∧ Q (.bl b) H') E
theorem op_cmpOwn {op : CmpOp} (F : FnOk X.prog X.w X.K X.mg X.base CX n f fd ps sp) (hb : Binds X.K fd ps []) (hx : Passes CX X E) (hr : Room n X.A) (m : Own X.K C (cmpInfo op).2.1 f) (hop : compareOp op = richCompare op := by rfl) : OpR X (compareOp op) (rCmpOwn X.K C sp E) := by
  intro pins s σ H x y v u Q I rx ry h
  obtain ⟨a, dx, fs, t, rfl, ha, ty, nf, hs⟩ := h
  cases rx
  obtain ⟨mA, J, _⟩ := ins_get I.hok ha
  obtain ⟨od, J, _⟩ := J.look
  obtain ⟨_, hF⟩ := I.fr
  rw [hop]
  refine PySem.W.cmp_K (op := op) hr.units0 hF I.ok.mod.kin J (type_of I ry ty) nf m.at_ m.fn (wpAny_mono (own_run (vs := [.ref a, y]) F hb hx ⟨hr, rfl⟩ I (.cons rfl (.cons ry .nil)) hs) (fun v s' hv => ?_) fun _ _ z => z)
  obtain ⟨z, H', I', rv, b, rfl, q⟩ := hv
  cases rv
  exact ⟨.bl b, H', I', rfl, q⟩
end
end Bk

namespace Bk
open PySem PySem.Spec PyProof.Rows L2
def spFLen (C : Addr) : Sp := fun vs H Q _ => ∃ (x : Addr) (zs : List Str) (ch : Bool), vs = [.ref x] ∧ FoldersAt C H x zs ch ∧ zs.length ≤ 100 ∧ Q (.int (zs.length : Int)) H
def spFEq (K : PySem.W.Frag) (C : Addr) : Sp := fun vs H Q _ => ∃ (x : Addr) (y : V) (t : Value) (zs : List Str) (ch r : Bool), vs = [.ref x, y] ∧ FoldersAt C H x zs ch ∧ (∀ z ∈ zs, isNameS z = true) ∧ TyX K H y t ∧
  ((PySem.W.kitOne K t (.ref C) = some false ∧ r = false) ∨ (PySem.W.kitOne K t (.ref C) = some true ∧ ∃ (b : Addr) (zs' : List Str) (ch' : Bool), y = .ref b ∧ FoldersAt C H b zs' ch' ∧ (∀ z ∈ zs', isNameS z = true) ∧ r = (decide (zs = zs') && decide (ch = ch')))) ∧ ∀ H', Same H H' → Q (.bl r) H'
theorem name_ok {z : Str} (h : isNameS z = true) : PyData.strOk z = true := by
  unfold isNameS at h
  simp only [Bool.and_eq_true] at h
  unfold PyData.strOk
  rw [← Array.all_toList]
  refine List.all_eq_true.mpr fun c m => ?_
  have := (letters_mem c).mp (of_decide_eq_true (List.all_eq_true.mp h.2 c m))
  exact decide_eq_true (by omega)
theorem look_chain (t pd : Addr) (ch : Bool) : (foldersF t pd ch).lookup ("chain" : Str) = some (.bl ch) := by
  have h : (("chain" : Str) == ("names" : Str)) = false := by decide +kernel
  show List.lookup ("chain" : Str) [(("names" : Str), V.ref t), ("chain", .bl ch), ("places", .ref pd)] = _
  simp [List.lookup, h]
theorem look_places (t pd : Addr) (ch : Bool) : (foldersF t pd ch).lookup ("places" : Str) = some (.ref pd) := by
  have h : (("places" : Str) == ("names" : Str)) = false := by decide +kernel
  have h2 : (("places" : Str) == ("chain" : Str)) = false := by decide +kernel
  show List.lookup ("places" : Str) [(("names" : Str), V.ref t), ("chain", .bl ch), ("places", .ref pd)] = _
  simp [List.lookup, h, h2]
theorem lay_strs : ∀ zs : List Str, (∀ z ∈ zs, isNameS z = true) → PyData.canLayAll0 (zs.map PyData.str) = true
  | [], _ => by simp [PyData.canLayAll0]
  | x :: r, h => by
    have := lay_strs r fun z m => h z (List.mem_cons_of_mem _ m)
    simp [PyData.canLayAll0, PyData.canLay0, this, name_ok (h x List.mem_cons_self)]
theorem shaped_strs (zs : List Str) (h : ∀ z ∈ zs, isNameS z = true) : SeqAt.shaped (.tuple (zs.map PyData.str)) = true := by
  have h1 := lay_strs zs h
  have h2 := depth_strs zs
  simp [SeqAt.shaped, PyData.canLay0, PyData.depth, h1, h2]
theorem eqvAll_strs : ∀ a b : List Str, PyData.eqvAll (a.map PyData.str) (b.map PyData.str) = decide (a = b)
  | [], [] => by simp [PyData.eqvAll]
  | [], _ :: _ => by simp [PyData.eqvAll]
  | _ :: _, [] => by simp [PyData.eqvAll]
  | x :: r, y :: t => by
    have ih := eqvAll_strs r t
    simp only [List.map_cons, PyData.eqvAll, PyData.eqv, ih]
    by_cases h1 : x = y
    · subst h1
      by_cases h2 : r = t
      · subst h2
        simp
      · simp [h2]
    · simp [h1]
theorem eqv_strs (a b : List Str) : PyData.eqv (.tuple (a.map PyData.str)) (.tuple (b.map PyData.str)) = decide (a = b) := by
  simp [PyData.eqv, eqvAll_strs]
section
variable {P : Program} {w : World} {K : PySem.W.Frag} {mg : Str → Option Value} {base : Heap}
theorem scFLen : FnScope ["self"] ["self"] (defScope (inClass (topS 32) 1)) := ⟨rfl, rfl, rfl, by decide +kernel, rfl, by decide +kernel, by decide +kernel⟩
theorem ok_flen (B : Bi mg) {C f0 f : Addr} {fd : FuncData} (T : FolT K mg C f0) (F : Fun K "__len__" "Folders.__len__" (inClass (topS 32) 1) f fd) : FnOk P w K mg base CX0 1 f fd ["self"] (spFLen C) := by
  refine F.ok scFLen (fun vs H Q E h => ?_) (fun cdv A outer s H vs Q E hr h => ?_)
  · obtain ⟨x, zs, ch, rfl, _⟩ := h
    rfl
  · obtain ⟨x, zs, ch, rfl, ⟨dx, t, pd, hx, ht, hp⟩, hl, q⟩ := h
    have nd := scFLen.nd
    refine ⟨_, (pss_one (ps_ret (pe_callB (kLen K) (by rfl) B.len PySem.boot_len (pa_cons (pe_fld (pv 0) rfl) pa_nil)))), ?_⟩
    exact ⟨_, rfl, x, C, dx, _, _, rfl, hx, T.cl, T.nN, look_names _ _ _, .ref t, zs.length, rfl, .inr ⟨_, SqT.of ht, by rw [List.length_map]⟩, q⟩
theorem scFEq : FnScope ["self", "other"] ["self", "other"] (defScope (inClass (topS 32) 3)) := ⟨rfl, rfl, rfl, by decide +kernel, rfl, by decide +kernel, by decide +kernel⟩
theorem ok_feq (B : Bi mg) {C_Folders f0 f : Addr} {fd : FuncData} (T : FolT K mg C_Folders f0) (F : Fun K "__eq__" "Folders.__eq__" (inClass (topS 32) 3) f fd) : FnOk P w K mg base CX0 1 f fd ["self", "other"] (spFEq K C_Folders) := by
  refine F.ok scFEq (fun vs H Q E h => ?_) (fun cdv A outer s H vs Q E hr h => ?_)
  · obtain ⟨x, y, t, zs, ch, r, rfl, _⟩ := h
    rfl
  · obtain ⟨x, y, ty, zs, ch, r, rfl, ⟨dx, t, pd, hx, ht, hp⟩, hl, tyx, hcase, q⟩ := h
    have nd := scFEq.nd
    have g_Folders := T.g
    refine ⟨_, (pss_one (ps_ret (pe_and (pe_callB (kIsi K) (by rfl) B.isinstance (by decide +kernel) (pa_cons (pv 1) (pa_cons (pe_glob (v := .ref _) (by rfl) g_Folders rfl) pa_nil))) (pe_and (pe_cmpR (kEqD K hr.units) (pe_fld (pv 0) rfl) (pe_fld (pv 1) rfl) (nomark _)) (pe_one (pe_cmpR op_eq (pe_fld (pv 0) rfl) (pe_fld (pv 1) rfl) (nomark _))))))), ?_⟩
    rcases hcase with ⟨hk, rfl⟩ | ⟨hk, b, zs', ch', rfl, ⟨dx', t', pd', hx', ht', hp'⟩, hl', rfl⟩
    · refine ⟨_, rfl, y, .ref C_Folders, ty, .ref C_Folders, false, rfl, .own _, tyx, hk, _, rfl, ?_⟩
      refine iteF ?_
      exact q H (Same.refl _)
    · refine ⟨_, rfl, .ref b, .ref C_Folders, ty, .ref C_Folders, true, rfl, .own _, tyx, hk, _, rfl, ?_⟩
      refine iteT ?_
      refine ⟨_, rfl, x, C_Folders, dx, _, _, rfl, hx, T.cl, T.nN, look_names _ _ _, _, rfl, b, C_Folders, dx', _, _, rfl, hx', T.cl, T.nN, look_names _ _ _, ?_⟩
      refine ⟨.tuple (zs.map PyData.str), .tuple (zs'.map PyData.str), .tup (SqT.of ht) (dp_strs zs), .tup (SqT.of ht') (dp_strs zs'), shaped_strs zs hl, shaped_strs zs' hl', _, rfl, ?_⟩
      rw [eqv_strs]
      by_cases e : zs = zs'
      · rw [decide_eq_true e]
        refine iteT ?_
        refine ⟨_, rfl, x, C_Folders, dx, _, _, rfl, hx, T.cl, T.nC, look_chain _ _ _, _, rfl, b, C_Folders, dx', _, _, rfl, hx', T.cl, T.nC, look_chain _ _ _, ?_⟩
        refine ⟨rfl, ?_⟩
        have := q H (Same.refl _)
        rw [decide_eq_true e, Bool.true_and] at this
        rw [show decide (V.bl ch = V.bl ch') = decide (ch = ch') by cases ch <;> cases ch' <;> rfl]
        exact this
      · rw [decide_eq_false e]
        refine iteF ?_
        have := q H (Same.refl _)
        rw [decide_eq_false e, Bool.false_and] at this
        exact this
end
end Bk

namespace Bk
open PySem PySem.Spec PyProof.Rows L2
/-! ### no lot stands twice -/
theorem nodup_inj {α : Type} {l : List α} (h : l.Nodup) {i j : Nat} (hi : i < l.length) (hj : j < l.length) (e : l[i] = l[j]) : i = j := by
  have p := List.pairwise_iff_getElem.mp h
  rcases Nat.lt_trichotomy i j with q | q | q
  · exact absurd e (p i j hi hj q)
  · exact q
  · exact absurd e.symm (p j i hj hi q)
theorem growB_nodup (n : Nat) (r : List Nat) : (growB n r).Nodup := by
  unfold growB
  unfold List.Nodup
  rw [List.pairwise_map]
  refine List.Pairwise.imp ?_ (List.nodup_range' (s := startB r) (n := n - startB r) (step := 1))
  intro a b hne e
  exact hne (by simpa using e)
theorem bRows_nodup (n : Nat) : ∀ k, (bRows n k).Nodup
  | 0 => List.nodup_cons.mpr ⟨(fun h => nomatch h), List.nodup_nil⟩
  | k + 1 => by
    show ((bRows n k).flatMap (growB n)).Nodup
    unfold List.Nodup
    rw [List.pairwise_flatMap]
    refine ⟨fun r _ => growB_nodup n r, List.Pairwise.imp ?_ (bRows_nodup n k)⟩
    intro a b hne x hx y hy e
    subst e
    obtain ⟨i, _, rfl⟩ := List.mem_map.mp hx
    obtain ⟨j, _, h⟩ := List.mem_map.mp hy
    exact hne (List.append_inj_left' h rfl).symm
theorem range_pair (n : Nat) : (List.range n).Pairwise (· ≠ ·) := List.nodup_range
theorem bAll_nodup (n : Nat) : (bAll n).Nodup := by
  unfold bAll
  unfold List.Nodup
  rw [List.pairwise_flatMap]
  refine ⟨fun k _ => bRows_nodup n (k + 1), List.Pairwise.imp ?_ (range_pair n)⟩
  intro a b hne x hx y hy e
  subst e
  have h1 := (bRows_ok (a + 1) x hx).len
  have h2 := (bRows_ok (b + 1) x hy).len
  exact hne (by omega)
theorem getD_inj {zs : List Str} (h : zs.Nodup) {i j : Nat} (hi : i < zs.length) (hj : j < zs.length) (e : zs.getD i Str.empty = zs.getD j Str.empty) : i = j := by
  rw [List.getD_eq_getElem?_getD, List.getD_eq_getElem?_getD, List.getElem?_eq_getElem hi, List.getElem?_eq_getElem hj] at e
  exact nodup_inj h hi hj e
theorem pick_inj {zs : List Str} (h : zs.Nodup) : ∀ {a b : List Nat}, (∀ x ∈ a, x < zs.length) → (∀ x ∈ b, x < zs.length) → pickAt zs a = pickAt zs b → a = b
  | [], [], _, _, _ => rfl
  | [], _ :: _, _, _, e => nomatch e
  | _ :: _, [], _, _, e => nomatch e
  | x :: r, y :: t, ha, hb, e => by
    have e : zs.getD x Str.empty :: pickAt zs r = zs.getD y Str.empty :: pickAt zs t := e
    injection e with e1 e2
    have h1 := getD_inj h (ha x List.mem_cons_self) (hb y List.mem_cons_self) e1
    have h2 := pick_inj h (fun z m => ha z (List.mem_cons_of_mem _ m)) (fun z m => hb z (List.mem_cons_of_mem _ m)) e2
    rw [h1, h2]
theorem bAll_lt {n : Nat} {r : List Nat} (h : r ∈ bAll n) : ∀ x ∈ r, x < n := by
  obtain ⟨k, _, hr⟩ := List.mem_flatMap.mp h
  exact (bRows_ok (k + 1) r hr).lt
theorem map_nodup {α β : Type} {f : α → β} : ∀ {l : List α}, l.Nodup → (∀ x ∈ l, ∀ y ∈ l, f x = f y → x = y) → (l.map f).Nodup
  | [], _, _ => List.nodup_nil
  | x :: r, h, hf => by
    obtain ⟨h1, h2⟩ := List.nodup_cons.mp h
    rw [List.map_cons, List.nodup_cons]
    refine ⟨fun m => ?_, map_nodup h2 fun a ha b hb => hf a (List.mem_cons_of_mem _ ha) b (List.mem_cons_of_mem _ hb)⟩
    obtain ⟨y, hy, e⟩ := List.mem_map.mp m
    have := hf y (List.mem_cons_of_mem _ hy) x List.mem_cons_self e
    exact h1 (this ▸ hy)
theorem lotsOf_nodup {zs : List Str} (h : zs.Nodup) : (lotsOf zs).Nodup := by
  show ((lotRows zs.length).map (pickAt zs)).Nodup
  rw [← bAll_eq]
  exact map_nodup (bAll_nodup _) fun x hx y hy e => pick_inj h (bAll_lt hx) (bAll_lt hy) e
theorem cut_head {zs : List Str} {i l : Nat} (h : i < zs.length) : ((zs.drop i).take (l + 1))[0]? = some zs[i] := by
  rw [List.getElem?_take_of_lt (Nat.succ_pos _), List.getElem?_drop, Nat.add_zero, List.getElem?_eq_getElem h]
theorem longRows_nodup {zs : List Str} (h : zs.Nodup) (l : Nat) : (longRows zs l).Nodup := by
  unfold longRows
  refine map_nodup List.nodup_range fun i hi j hj e => ?_
  have hi := List.mem_range.mp hi
  have hj := List.mem_range.mp hj
  have h1 := cut_head (zs := zs) (l := l) (i := i) (by omega)
  have h2 := cut_head (zs := zs) (l := l) (i := j) (by omega)
  rw [e, h2] at h1
  exact (nodup_inj h (by omega) (by omega) (Option.some.inj h1)).symm
theorem chainLots_nodup {zs : List Str} (h : zs.Nodup) : (chainLots zs).Nodup := by
  unfold chainLots
  unfold List.Nodup
  rw [List.pairwise_flatMap]
  refine ⟨fun l _ => longRows_nodup h l, List.Pairwise.imp ?_ (range_pair zs.length)⟩
  intro a b hne x hx y hy e
  subst e
  obtain ⟨i, hi, rfl⟩ := List.mem_map.mp hx
  obtain ⟨j, hj, e⟩ := List.mem_map.mp hy
  have hi := List.mem_range.mp hi
  have hj := List.mem_range.mp hj
  have := congrArg List.length e
  rw [List.length_take, List.length_take, List.length_drop, List.length_drop] at this
  exact hne (by omega)
theorem lots_nodup {ch : Bool} {zs : List Str} (h : zs.Nodup) : (lotsFor ch zs).Nodup := by
  cases ch with
  | true => exact chainLots_nodup h
  | false => exact lotsOf_nodup h
theorem inr_inj : ∀ {a b : List Str}, (a.map Sum.inr : List Key) = b.map Sum.inr → a = b
  | [], [], _ => rfl
  | [], _ :: _, h => nomatch h
  | _ :: _, [], h => nomatch h
  | x :: r, y :: t, h => by
    have h : (Sum.inr x : Key) :: r.map Sum.inr = Sum.inr y :: t.map Sum.inr := h
    injection h with h1 h2
    injection h1 with h1
    rw [h1, inr_inj h2]
theorem putK_fresh {kvs : List (List Key × V)} {k : List Key} {v : V} (h : k ∉ kvs.map (·.1)) : putK kvs k v = kvs ++ [(k, v)] := by
  unfold putK
  rw [if_neg]
  intro e
  obtain ⟨p, hp, hk⟩ := List.any_eq_true.mp e
  exact h (List.mem_map.mpr ⟨p, hp, of_decide_eq_true hk⟩)
theorem places_keys {ls : List (List Str)} (h : ls.Nodup) : ∀ i, i ≤ ls.length → (placesOf (ls.take i)).map (·.1) = (ls.take i).map fun l => (l.map Sum.inr : List Key)
  | 0, _ => rfl
  | i + 1, hi => by
    have ih := places_keys h i (by omega)
    have e : ls[i]? = some ls[i] := List.getElem?_eq_getElem (by omega)
    rw [places_snoc e, putK_fresh, List.map_append, ih, take_succ e, List.map_append]
    · rfl
    · rw [ih]
      intro m
      obtain ⟨l, hl, q⟩ := List.mem_map.mp m
      have q := inr_inj q
      subst q
      obtain ⟨j, hj, e2⟩ := List.mem_take_iff_getElem.mp hl
      have := nodup_inj h (by omega) (by omega) e2
      omega
theorem keys_ats {H : Hp} {kvs : List (List Key × V)} {bs : List Addr} {ls : List (List Str)} (h : IsKeys H kvs bs) (e : kvs.map (·.1) = ls.map fun l => (l.map Sum.inr : List Key)) : Ats H (fun l : List Str => l.map V.str) (bs.map V.ref) ls := by
  unfold IsKeys at h
  induction h generalizing ls with
  | nil =>
    cases ls with
    | nil => exact .nil
    | cons l r => cases e
  | @cons p b ps bs hp t ih =>
    cases ls with
    | nil => cases e
    | cons l r =>
      have e : p.1 :: ps.map (·.1) = (l.map Sum.inr : List Key) :: r.map fun l => (l.map Sum.inr : List Key) := e
      injection e with e1 e2
      have a := Ats.one (g := fun l : List Str => l.map V.str) (H := H) (b := b) (x := l) (by
        rw [hp, e1, List.map_map]
        rfl)
      exact a.append (ih e2)
/-- the keys of places are the lots, in their order -/
theorem places_ats {H : Hp} {ch : Bool} {zs : List Str} {bs : List Addr} (hn : zs.Nodup) (h : IsKeys H (placesOf (lotsFor ch zs)) bs) : Ats H (fun l : List Str => l.map V.str) (bs.map V.ref) (lotsFor ch zs) := by
  have := places_keys (lots_nodup (ch := ch) hn) (lotsFor ch zs).length (Nat.le_refl _)
  rw [List.take_length] at this
  exact keys_ats h this
end Bk

namespace Bk
open PySem PySem.Spec PyProof.Rows L2
def spFLots (C : Addr) : Sp := fun vs H Q _ => ∃ (x : Addr) (zs : List Str) (ch : Bool), vs = [.ref x] ∧ FoldersAt C H x zs ch ∧ zs.Nodup ∧ ∀ (D : Addr) (ws : List V) (H' : Hp), H D = none → Same H H' → H' D = some (.lst ws) → Ats H' (fun l : List Str => l.map V.str) ws (lotsFor ch zs) → Q (.ref D) H'
def spFIn (C : Addr) : Sp := fun vs H Q _ => ∃ (x : Addr) (y : V) (zs : List Str) (ch : Bool), vs = [.ref x, y] ∧ FoldersAt C H x zs ch ∧ flatV y = true ∧ ∀ H', Same H H' → Q (.bl (inV y (zs.map V.str))) H'
section
variable {P : Program} {w : World} {K : PySem.W.Frag} {mg : Str → Option Value} {base : Heap}
theorem scFLots : FnScope ["self"] ["self"] (defScope (inClass (topS 32) 4)) := ⟨rfl, rfl, rfl, by decide +kernel, rfl, by decide +kernel, by decide +kernel⟩
theorem ok_flots (B : Bi mg) {C f0 f : Addr} {fd : FuncData} (T : FolT K mg C f0) (F : Fun K "lots" "Folders.lots" (inClass (topS 32) 4) f fd) : FnOk P w K mg base CX0 1 f fd ["self"] (spFLots C) := by
  refine F.ok scFLots (fun vs H Q E h => ?_) (fun cdv A outer s H vs Q E hr h => ?_)
  · obtain ⟨x, zs, ch, rfl, _⟩ := h
    rfl
  · obtain ⟨x, zs, ch, rfl, ⟨dx, t, pd, hx, ht, hp⟩, hn, q⟩ := h
    have nd := scFLots.nd
    refine ⟨_, (pss_one (ps_ret (pe_callTy (call_list_dT rfl) (by rfl) B.list (by decide +kernel) (pa_cons (pe_fld (pv 0) rfl) pa_nil)))), ?_⟩
    refine ⟨_, rfl, x, C, dx, _, _, rfl, hx, T.cl, T.nP, look_places _ _ _, pd, _, rfl, .inl hp, fun D bs nD hk => ?_⟩
    have e := same_upd (o := HO.lst (bs.map V.ref)) nD
    exact q D _ _ nD e upd_same ((places_ats hn hk).same e)
theorem scFIn : FnScope ["self", "x"] ["self", "x"] (defScope (inClass (topS 32) 2)) := ⟨rfl, rfl, rfl, by decide +kernel, rfl, by decide +kernel, by decide +kernel⟩
theorem ok_fin (B : Bi mg) {C f0 f : Addr} {fd : FuncData} (T : FolT K mg C f0) (F : Fun K "__contains__" "Folders.__contains__" (inClass (topS 32) 2) f fd) : FnOk P w K mg base CX0 1 f fd ["self", "x"] (spFIn C) := by
  refine F.ok scFIn (fun vs H Q E h => ?_) (fun cdv A outer s H vs Q E hr h => ?_)
  · obtain ⟨x, y, zs, ch, rfl, _⟩ := h
    rfl
  · obtain ⟨x, y, zs, ch, rfl, ⟨dx, t, pd, hx, ht, hp⟩, hf, q⟩ := h
    have nd := scFIn.nd
    refine ⟨_, (pss_one (ps_ret (pe_cmpR (kIn K) (pv 1) (pe_fld (pv 0) rfl) rfl))), ?_⟩
    exact ⟨_, rfl, _, rfl, x, C, dx, _, _, rfl, hx, T.cl, T.nN, look_names _ _ _, t, _, rfl, .inr (SqT.of ht), hf, flat_strs _, q H (Same.refl _)⟩
end
end Bk

/-! == with an instance on the right whose class says == itself, and in of a tuple for such an instance -/
namespace Bk
open PySem PySem.Spec PyProof.Rows L2
open AutoSeq1 (wpAny_loadPart')
open MeetsSeq
theorem str_eq_inst (b : Str) (u : Tok) (l : Addr) (c : Value) (dd : Option Addr) (sl : Array (Option Value)) :
    Meets (Builtin.«str.__eq__» ⟨[.str b u, .ref l], []⟩) (fun _ R s => s.heap.get? l = some { cls := c, dict := dd, data := .plain, slots := sl } ∧ R (.ok (.ret .notImplemented)) s) :=
  .of_wp fun prog w A R s h => by obtain ⟨hp, g, d, tk, os⟩ := s; obtain ⟨hl, h⟩ := h; wp_walk using wpAny_loadPart' hl, wpAny_load hl; exact ⟨_, rfl, h⟩
theorem int_eq_inst (b : Int) (u : Tok) (l : Addr) (c : Value) (dd : Option Addr) (sl : Array (Option Value)) :
    Meets (Builtin.«int.__eq__» ⟨[.int b u, .ref l], []⟩) (fun _ R s => s.heap.get? l = some { cls := c, dict := dd, data := .plain, slots := sl } ∧ R (.ok (.ret .notImplemented)) s) :=
  .of_wp fun prog w A R s h => by obtain ⟨hp, g, d, tk, os⟩ := s; obtain ⟨hl, h⟩ := h; wp_walk using wpAny_loadPart' hl, wpAny_load hl; exact ⟨_, rfl, h⟩
def NotSub (C : Addr) (T : String) (s : Shared) : Prop := ∀ (M : Model) (A : Around) (E : Value → Shared → Prop) (Q : Bool → Shared → Prop), Q false s → wpAny M A (isSubtype (.ref C) (.type T)) Q E s
theorem list_eq_inst (l b C : Addr) (items : Array Value) (n : Nat) (dd db : Option Addr) (sl sb : Array (Option Value)) :
    Meets (Builtin.«list.__eq__» ⟨[.ref l, .ref b], []⟩) (fun _ R s => s.heap.get? l = some { cls := .type "list", dict := dd, data := .seq items n, slots := sl } ∧ s.heap.get? b = some { cls := .ref C, dict := db, data := .plain, slots := sb } ∧ NotSub C "list" s ∧ R (.ok (.ret .notImplemented)) s) :=
  .of_wp fun prog w A R s h => by obtain ⟨hp, g, d, tk, os⟩ := s; obtain ⟨hl, hb, hn, h⟩ := h; wp_walk using wpAny_loadPart' hl, wpAny_loadPart' hb; refine hn _ _ _ _ ?_; wp_walk; exact ⟨_, rfl, h⟩
theorem tuple_eq_inst (l b C : Addr) (items : Array Value) (n : Nat) (dd db : Option Addr) (sl sb : Array (Option Value)) :
    Meets (Builtin.«tuple.__eq__» ⟨[.ref l, .ref b], []⟩) (fun _ R s => s.heap.get? l = some { cls := .type "tuple", dict := dd, data := .seq items n, slots := sl } ∧ s.heap.get? b = some { cls := .ref C, dict := db, data := .plain, slots := sb } ∧ NotSub C "tuple" s ∧ R (.ok (.ret .notImplemented)) s) :=
  .of_wp fun prog w A R s h => by obtain ⟨hp, g, d, tk, os⟩ := s; obtain ⟨hl, hb, hn, h⟩ := h; wp_walk using wpAny_loadPart' hl, wpAny_loadPart' hb; refine hn _ _ _ _ ?_; wp_walk; exact ⟨_, rfl, h⟩
section
variable {X : Cx} {prog : Program} {w : World} {A : Around} {E : Value → Shared → Prop} {s : Shared} {K : PySem.W.Frag} {a C f : Addr} {ox : Obj} {od : Option Obj} {u : Value} {T id : String}
theorem rc_own_refl {Q : Value → Shared → Prop} (hu : A.units < cLine) (X : K.In s.heap) (ha : s.TypeIs u T) (I : PySem.W.InstAt s.heap a ox C od) (hsub : PySem.W.subIn K (.ref C) (.type T) = some false) (h1 : Slot T (cmpInfo .Eq).2.1 id)
    (hc1 : ∀ Q' : Value → Shared → Prop, Q' .notImplemented s → wpAny (model prog w) A (call (.builtin id) [u, .ref a]) Q' E s)
    (hs : PySem.W.findIn K (.ref C) "__eq__" = some (some (.ref f))) (hf : PySem.W.isFn K (.ref f) = true) (h : wpAny (model prog w) A (call (.ref f) [.ref a, u]) (PySem.W.CmpBack Q) E s) : wpAny (model prog w) A (richCompare .Eq u (.ref a)) Q E s := by
  have one : wpAny (model prog w) A (tryCompare (.ref a) (cmpInfo .Eq).2.2 u) (fun r s' => ∃ v, r = some v ∧ Q v s') E s := by
    unfold tryCompare
    refine wpAny_bind (PySem.W.ifBound_K X I hs hf (wpAny_mono h (fun v s' hv => ?_) fun _ _ e => e))
    cases v <;> first | exact hv.elim | exact wpAny_pure ⟨_, rfl, hv⟩
  rcases hi : cmpInfo CmpOp.Eq with ⟨sym, f1, r⟩
  rw [hi] at h1 one
  simp only [richCompare, hi, ha.oneThing_none]
  try with_reducible refine wpAny_holding ?_
  refine wpAny_bind (wpAny_cRoomFor_or (.inr hu) ?_)
  refine wpAny_bind (wpAny_typeOf ha (wpAny_bind (I.type.here ?_)))
  have hne : (Value.type T != Value.ref C) = true := rfl
  simp only [hne, if_true]
  refine wpAny_bind ((PySem.W.looks_subIn X hsub).here ?_)
  simp only [Bool.false_eq_true, if_false, Bool.not_false, if_true]
  refine wpAny_bind (m := tryCompare u _ (.ref a)) (wpAny_tryCompare_declines ha h1 (hc1 _ ⟨rfl, ?_⟩))
  refine wpAny_bind (m := tryCompare (.ref a) _ u) (wpAny_mono one (fun r s' z => ?_) fun _ _ e => e)
  obtain ⟨v, rfl, hq⟩ := z
  exact wpAny_pure hq
end
/-- values of the kinds whose own == knows nothing of an instance -/
inductive Bik (H : Hp) : V → String → Prop where
  | non : Bik H .non "NoneType"
  | int (i : Int) : Bik H (.int i) "int"
  | str (z : Str) : Bik H (.str z) "str"
  | lst {l : Addr} {xs : List V} (h : H l = some (.lst xs)) : Bik H (.ref l) "list"
  | tup {l : Addr} {xs : List V} (h : H l = some (.tup xs)) : Bik H (.ref l) "tuple"
section
variable {X : Cx} {CX : CXT} {n : Nat} {C f : Addr} {fd : FuncData} {ps : List Str} {sp : Sp} {E : XK}
theorem not_sub {K : PySem.W.Frag} {T : String} {s : Shared} (X : K.In s.heap) (h : PySem.W.subIn K (.ref C) (.type T) = some false) : NotSub C T s := fun M A E Q q => (PySem.W.looks_subIn X h).here q
def rEqRefl (K : PySem.W.Frag) (C : Addr) (sp : Sp) (E : XK) : R2 := fun x y H Q => ∃ (a dx : Addr) (fs : List (Str × V)) (T : String), y = .ref a ∧ H a = some (.ins C dx fs) ∧ Bik H x T ∧ PySem.W.subIn K (.ref C) (.type T) = some false ∧ sp [.ref a, x] H (fun v H' => ∃ b : Bool, v = .bl b ∧ Q (.bl b) H') E
/-- the comparison of such a value with an instance, at any place below the body -/
theorem rc_refl {A : Around} {pins : List (Addr × Obj)} {σ : L2.St} {H : Hp} {s : Shared} {x : V} {v : Value} {a dx : Addr} {fs : List (Str × V)} {T : String} {Q : VK} (FO : FnOk X.prog X.w X.K X.mg X.base CX n f fd ps sp) (hb : Binds X.K fd ps []) (hx : Passes CX X E) (sb : Sub X n A) (m : Own X.K C "__eq__" f)
    (I : Inv X pins σ H s) (rx : RelV x v) (ha : H a = some (.ins C dx fs)) (bk : Bik H x T) (hsub : PySem.W.subIn X.K (.ref C) (.type T) = some false) (hs : sp [.ref a, x] H (fun v H' => ∃ b : Bool, v = .bl b ∧ Q (.bl b) H') E) :
    wpAny (model X.prog X.w) A (richCompare .Eq v (.ref a)) (EP X pins σ Q) X.xe s := by
  obtain ⟨mA, O, _⟩ := ins_get I.hok ha
  have ob := O.obj
  obtain ⟨od, J, _⟩ := O.look
  have hu : A.units < cLine := sb.room.units0
  have fin : wpAny (model X.prog X.w) A (call (.ref f) [.ref a, v]) (PySem.W.CmpBack (EP X pins σ Q)) X.xe s := by
    refine wpAny_mono (own_run (vs := [.ref a, x]) FO hb hx sb I (.cons rfl (.cons rx .nil)) hs) (fun v s' hv => ?_) fun _ _ z => z
    obtain ⟨z, H', I', rv, b, rfl, q⟩ := hv
    cases rv
    exact ⟨.bl b, H', I', rfl, q⟩
  cases bk with
  | non =>
    cases rx
    exact rc_own_refl hu I.kIn rfl J hsub F.slot_NoneType_eq (fun _ hq => call_gives F.slot_NoneType_eq rfl F.entry_NoneType_eq (F.args_NoneType_eq_2 _ _) (SeqAt.NoneType___eq___none_ref_0 a) hq) m.at_ m.fn fin
  | int i =>
    obtain ⟨t, rfl⟩ := rx
    exact rc_own_refl hu I.kIn (typeIs_int s i t) J hsub F.slot_int_eq (fun _ hq => call_meets F.slot_int_eq (typeIs_int s i t) F.entry_int_eq (F.args_int_eq_2 _ _) (int_eq_inst i t a (.ref C) _ _) ⟨ob, hq⟩) m.at_ m.fn fin
  | str z =>
    obtain ⟨t, rfl⟩ := rx
    exact rc_own_refl hu I.kIn (typeIs_str s z t) J hsub F.slot_str_eq (fun _ hq => call_meets F.slot_str_eq (typeIs_str s z t) F.entry_str_eq (F.args_str_eq_2 _ _) (str_eq_inst z t a (.ref C) _ _) ⟨ob, hq⟩) m.at_ m.fn fin
  | @lst l xs hl =>
    cases rx
    obtain ⟨_, its, k, _, h1⟩ := (show ObjOk X.prog X.w H s.heap l (.lst xs) from I.hok l _ hl)
    exact rc_own_refl hu I.kIn ⟨_, h1, rfl⟩ J hsub F.slot_list_eq (fun _ hq => call_meets F.slot_list_eq ⟨_, h1, rfl⟩ F.entry_list_eq (F.args_list_eq_2 _ _) (list_eq_inst l a C _ _ _ _ _ _) ⟨h1, ob, not_sub I.kIn hsub, hq⟩) m.at_ m.fn fin
  | @tup l xs hl =>
    cases rx
    obtain ⟨_, its, _, o, h1, h2, k, h3⟩ := (show ObjOk X.prog X.w H s.heap l (.tup xs) from I.hok l _ hl)
    obtain ⟨cls, dd, data, sl⟩ := o
    simp only at h2 h3
    subst h2 h3
    exact rc_own_refl hu I.kIn ⟨_, h1, rfl⟩ J hsub F.slot_tuple_eq (fun _ hq => call_meets F.slot_tuple_eq ⟨_, h1, rfl⟩ F.entry_tuple_eq (F.args_tuple_eq_2 _ _) (tuple_eq_inst l a C _ _ _ _ _ _) ⟨h1, ob, not_sub I.kIn hsub, hq⟩) m.at_ m.fn fin
theorem op_eqRefl (FO : FnOk X.prog X.w X.K X.mg X.base CX n f fd ps sp) (hb : Binds X.K fd ps []) (hx : Passes CX X E) (hr : Room n X.A) (m : Own X.K C "__eq__" f) : OpR X (compareOp .Eq) (rEqRefl X.K C sp E) := by
  intro pins s σ H x y v u Q I rx ry h
  obtain ⟨a, dx, fs, T, rfl, ha, bk, hsub, hs⟩ := h
  cases ry
  show wpAny (model X.prog X.w) X.A (richCompare .Eq v (.ref a)) (EP X pins σ Q) X.xe s
  exact rc_refl FO hb hx ⟨hr, rfl⟩ m I rx ha bk hsub hs
end
end Bk

/-! in of a tuple of texts for an instance whose class says == itself -/
namespace Bk
open PySem PySem.Spec PyProof.Rows L2
open AutoSeq1 (wpAny_loadPart')
open MeetsSeq MeetsSeq2 MeetsSeq3 SeqRoads2
section
variable {prog : Program} {w : World} {A : Around} {R : Result → Shared → Prop}
theorem contains_no (l : Addr) (items : Array Value) (n : Nat) (dd : Option Addr) (sl : Array (Option Value)) (x : Value) (I : Shared → Prop)
    (turn : ∀ y, y ∈ items → ∀ s, I s → wpAny (model prog w) A.in1 (eqBool y x) (fun r s' => r = false ∧ I s') (fun e s' => R (.error e) s') s) (fin : ∀ s, I s → R (.ok (.ret (.bool false))) s)
    {s : Shared} (hl : s.heap.get? l = some { cls := .type "tuple", dict := dd, data := .seq items n, slots := sl }) (h : I s) :
    wpAny (model prog w) A.in1 (Builtin.«tuple.__contains__» ⟨[.ref l, x], []⟩) (GQ.FinOf prog w A R) (fun e s' => R (.error e) s') s := by
  have h0 := h
  obtain ⟨hp, g, d, tk, os⟩ := s
  wp_walk using wpAny_loadPart' hl, wpAny_forIn_array _ (fun rest b s' => b.1 = none ∧ (∀ y, y ∈ rest → y ∈ items) ∧ I s') _

  case turn =>
    rintro y rest b s' ⟨hb, hmem, hI⟩
    refine wpAny_bind (wpAny_mono (turn y (hmem y (List.mem_cons_self ..)) s' hI) (fun r s2 q2 => ?_) fun _ _ x => x)
    obtain ⟨hr, q2⟩ := q2
    subst hr
    wp_walk
    exact ⟨rfl, fun z hz => hmem z (List.mem_cons_of_mem _ hz), q2⟩
  case fin =>
    rintro ⟨b1, b2⟩ s' ⟨hb, -, hI⟩
    simp only at hb
    subst hb
    have hR := fin s' hI
    wp_walk
    simpa using hR
  case h =>
    exact ⟨rfl, fun y hy => by simpa using hy, h0⟩
end
section
variable {X : Cx} {CX : CXT} {n : Nat} {C f : Addr} {fd : FuncData} {ps : List Str} {sp : Sp} {E : XK}
theorem strs_vals : ∀ {zs : List Str} {us : List Value}, Vals (zs.map V.str) us → ∀ u ∈ us, ∃ z ∈ zs, RelV (.str z) u
  | [], _, r, u, hu => by cases r; cases hu
  | z :: zs, _, r, u, hu => by
    cases r with
    | cons r1 r2 =>
      rcases List.mem_cons.mp hu with rfl | hu
      · exact ⟨z, List.mem_cons_self, r1⟩
      · obtain ⟨z', m, q⟩ := strs_vals r2 u hu
        exact ⟨z', List.mem_cons_of_mem _ m, q⟩
def rInOdd (K : PySem.W.Frag) (C : Addr) (sp : Sp) (E : XK) : R2 := fun x y H Q => ∃ (a dx p : Addr) (fs : List (Str × V)) (zs : List Str), x = .ref a ∧ y = .ref p ∧ H a = some (.ins C dx fs) ∧ H p = some (.tup (zs.map V.str)) ∧ PySem.W.subIn K (.ref C) (.type "str") = some false ∧
  (∀ z ∈ zs, ∀ H', Ext H H' → sp [.ref a, .str z] H' (fun v H'' => ∃ b : Bool, v = .bl b ∧ ∃ c : Bool, V.bl b = .bl c ∧ c = false ∧ Ext H H'') E) ∧ ∀ H', Ext H H' → Q (.bl false) H'
theorem op_inOdd (FO : FnOk X.prog X.w X.K X.mg X.base CX n f fd ps sp) (hb : Binds X.K fd ps []) (hx : Passes CX X E) (hr : Room (n + 1) X.A) (m : Own X.K C "__eq__" f) : OpR X (compareOp .In) (rInOdd X.K C sp E) := by
  intro pins s σ H x y v u Q I rx ry h
  obtain ⟨a, dx, p, fs, zs, rfl, rfl, ha, hp, hsub, hs, q⟩ := h
  cases rx
  cases ry
  have sb : Sub X (n + 1) X.A := ⟨hr, rfl⟩
  obtain ⟨_, its, rv, o, h1, h2, k, h3⟩ := (show ObjOk X.prog X.w H s.heap p (.tup (zs.map V.str)) from I.hok p _ hp)
  obtain ⟨cls, dd, data, sl⟩ := o
  simp only at h2 h3
  subst h2 h3
  have turn : ∀ y, y ∈ its.toArray → ∀ s, (∃ H', Inv X pins σ H' s ∧ Ext H H') → wpAny (model X.prog X.w) X.A.in1 (eqBool y (.ref a)) (fun r s' => r = false ∧ ∃ H', Inv X pins σ H' s' ∧ Ext H H') X.xe s := by
    rintro y hy s1 ⟨H1, I1, e1⟩
    obtain ⟨z, mz, rz⟩ := strs_vals rv y (by simpa using hy)
    have rz' := rz
    obtain ⟨t, rfl⟩ := rz
    unfold eqBool
    refine wpAny_holding ?_
    refine wpAny_ite_split (fun hab => absurd (eq_of_beq hab) nofun) (fun _ => ?_)
    refine wpAny_bind (wpAny_mono (rc_refl (Q := fun v H' => ∃ b : Bool, v = .bl b ∧ b = false ∧ Ext H H') FO hb hx sb.in1 m I1 rz' (e1 _ _ ha) (.str z) hsub ?_) (fun r s' hv => ?_) fun _ _ x => x)
    · exact hs z mz H1 e1
    · obtain ⟨w, H', I', rw', b, rfl, rfl, e⟩ := hv
      cases rw'
      exact wpAny_truthy_bool ⟨rfl, H', I', e⟩
  show wpAny _ X.A (do return .bool (← contains (.ref p) (.ref a))) (EP X pins σ Q) X.xe s
  refine wpAny_bind (wpAny_contains_slot (T := "tuple") ⟨_, h1, rfl⟩ F.slot_tuple_contains (wpAny_mono (GQ.call_here (E := X.xe) (Q := fun v s' => v = .bool false ∧ ∃ H', Inv X pins σ H' s' ∧ Ext H H') F.slot_tuple_contains ⟨_, h1, rfl⟩ F.entry_tuple_contains (F.args_tuple_contains_2 _ _) (contains_no p _ _ _ _ (.ref a) (fun s' => ∃ H', Inv X pins σ H' s' ∧ Ext H H') turn (fun s' q => ⟨rfl, q⟩) h1 ⟨H, I, Ext.rfl'⟩)) (fun v s' hv => ?_) fun _ _ x => x))
  obtain ⟨rfl, H', I', e⟩ := hv
  exact wpAny_truthy_bool (wpAny_pure ⟨.bl false, H', I', rfl, q H' e⟩)
end
end Bk

/-! != of two instances of a class that says == itself and nothing of != -/
namespace Bk
open PySem PySem.Spec PyProof.Rows L2
theorem ns_some {K : PySem.W.Frag} {h : Heap} {N : Addr} {mN : Str → Option Value} {m : Str} {u : Value} (kin : K.In h) (ns : h.Ns N mN) (e : PySem.W.nsIn K N m = some (some u)) : mN m = some u := by
  obtain ⟨ob, ents, epo, atN, dat, _, look⟩ := ns
  unfold PySem.W.nsIn at e
  split at e
  · rename_i cl di ents' epo' slo lk
    have both := kin _ _ lk
    rw [atN] at both
    cases both
    cases dat
    split at e
    · rename_i ent found
      cases e
      rw [← look]
      unfold nsFind findBy
      rw [← Array.find?_toList, found]
      rfl
    · split at e <;> cases e
  · cases e
theorem sixB_ok {l : List (Option Value)} (h : sixB l = true) : ∃ a b c d n e, l = [a, b, c, d, some (.builtin n), e] := by
  unfold sixB at h
  split at h
  · exact ⟨_, _, _, _, _, _, rfl⟩
  · cases h
theorem eqCls_ok {K : PySem.W.Frag} {C f x : Addr} {h : Heap} {o : Obj} (X : K.In h) (e : eqCls K C f = true) (hf : PySem.W.isFn K (.ref f) = true) (hx : h.get? x = some o) (hc : o.cls = .ref C) : h.OwnEqNoNe x C f "object" [.type "object"] := by
  unfold eqCls at e
  split at e
  · rename_i t dd cd sl q
    obtain ⟨h1, e⟩ := Bool.and_eq_true_iff.mp e
    obtain ⟨h2, e⟩ := Bool.and_eq_true_iff.mp e
    obtain ⟨h3, e⟩ := Bool.and_eq_true_iff.mp e
    obtain ⟨h4, e⟩ := Bool.and_eq_true_iff.mp e
    obtain ⟨h5, e⟩ := Bool.and_eq_true_iff.mp e
    obtain ⟨h6, h7⟩ := Bool.and_eq_true_iff.mp e
    have e1 := of_decide_eq_true h1
    have e2 := of_decide_eq_true h2
    obtain ⟨a, b, c, d, n, e', e6⟩ := sixB_ok h4
    obtain ⟨l⟩ := sl
    obtain ⟨c1, c2, c3, c4, c5, c6, c7, c8, c9, c10, c11⟩ := cd
    subst e1
    simp only at e2 e6 h5 h6 h7
    subst e2 e6
    have h3 : c11 = false := by
      cases c11 with
      | true => cases h3
      | false => rfl
    subst h3
    have hN : h.Ns c4 (h.nsMap c4) := .of_isNs (PySem.W.isNs_of_in X h5)
    have hff : ∃ of, h.get? f = some of ∧ of.cls = .type "function" := by
      have z : (K.lookup f).map (·.cls) = some (.type "function") := beq_iff_eq.mp hf
      cases q2 : K.lookup f with
      | none =>
        rw [q2] at z
        cases z
      | some of =>
        rw [q2] at z
        exact ⟨of, X _ _ q2, Option.some.inj z⟩
    obtain ⟨of, g1, g2⟩ := hff
    exact ⟨o, of, c1, c5, c4, c2, c6, c7, c8, c9, c10, dd, a, b, c, d, e', n, h.nsMap c4, _, hx, hc, X _ _ q, hN, ns_some X hN (of_decide_eq_true h6), g1, g2, F.cmp_object.mro, F.cmp_object.eq.lookup, PySem.W.nsMap_none_of_in X h5 (of_decide_eq_true h7)⟩
  · cases e
section
variable {X : Cx} {CX : CXT} {n : Nat} {C f : Addr} {fd : FuncData} {ps : List Str} {sp : Sp} {E : XK}
def rNeOwn (C : Addr) (sp : Sp) (E : XK) : R2 := fun x y H Q => ∃ (a dx b dy : Addr) (fs gs : List (Str × V)), x = .ref a ∧ y = .ref b ∧ H a = some (.ins C dx fs) ∧ H b = some (.ins C dy gs) ∧ sp [.ref a, .ref b] H (fun v H' => ∃ r : Bool, v = .bl r ∧ Q (.bl (!r)) H') E
theorem op_neOwn (FO : FnOk X.prog X.w X.K X.mg X.base CX n f fd ps sp) (hb : Binds X.K fd ps []) (hx : Passes CX X E) (hr : Room (n + 1) X.A) (e : eqCls X.K C f = true) (hf : PySem.W.isFn X.K (.ref f) = true) : OpR X (compareOp .NotEq) (rNeOwn C sp E) := by
  intro pins s σ H x y v u Q I rx ry h
  obtain ⟨a, dx, b, dy, fs, gs, rfl, rfl, ha, hb', hs⟩ := h
  cases rx
  cases ry
  have sb : Sub X (n + 1) X.A := ⟨hr, rfl⟩
  obtain ⟨mA, OA, _⟩ := ins_get I.hok ha
  obtain ⟨mB, OB, _⟩ := ins_get I.hok hb'
  obtain ⟨hp, g, d, t, os⟩ := s
  refine compareOp_ne_ownEq F.cmp_object (eqCls_ok I.kIn e hf OA.obj rfl) OB.obj rfl (hu_of hr) (wpAny_mono (own_run (vs := [.ref a, .ref b]) FO hb hx sb.in1 I (.cons rfl (.cons rfl .nil)) hs) (fun v s' hv => ?_) fun _ _ z => z)
  obtain ⟨z, H', I', rv, r, rfl, q⟩ := hv
  cases rv
  exact ⟨r, rfl, .bl (!r), H', I', rfl, q⟩
end
end Bk

/-! in of a tuple of texts for lists, tuples and dicts: never -/
namespace Bk
open PySem PySem.Spec PyProof.Rows L2
open AutoSeq1 (wpAny_loadPart')
open MeetsSeq MeetsSeq2 MeetsSeq3 SeqRoads2
theorem str_eq_dict (b : Str) (u : Tok) (l : Addr) (c : Value) (es : Array DictEntry) (ep : Nat) (dd : Option Addr) (sl : Array (Option Value)) :
    Meets (Builtin.«str.__eq__» ⟨[.str b u, .ref l], []⟩) (fun _ R s => s.heap.get? l = some { cls := c, dict := dd, data := .dict es ep, slots := sl } ∧ R (.ok (.ret .notImplemented)) s) :=
  .of_wp fun prog w A R s h => by obtain ⟨hp, g, d, tk, os⟩ := s; obtain ⟨hl, h⟩ := h; wp_walk using wpAny_loadPart' hl, wpAny_load hl; exact ⟨_, rfl, h⟩
theorem dict_eq_str (l : Addr) (es : Array DictEntry) (ep : Nat) (dd : Option Addr) (sl : Array (Option Value)) (b : Str) (u : Tok) :
    Meets (Builtin.«dict.__eq__» ⟨[.ref l, .str b u], []⟩) (fun _ R s => s.heap.get? l = some { cls := .type "dict", dict := dd, data := .dict es ep, slots := sl } ∧ R (.ok (.ret .notImplemented)) s) :=
  .of_wp fun prog w A R s h => by obtain ⟨hp, g, d, tk, os⟩ := s; obtain ⟨hl, h⟩ := h; have f1 := F.sub_str_dict; wp_walk using wpAny_loadPart' hl; exact ⟨_, rfl, h⟩
section
variable {A : Around} {s : Shared}
theorem at_str_dict {l : Addr} {o : Obj} {es : Array DictEntry} {ep : Nat} (b : Str) (u : Tok) (hl : s.heap.get? l = some o) (hc : o.cls = .type "dict") (hd : o.data = .dict es ep) (hu : A.units < cLine) : SeqAt.EqAt A s (.str b u) (.ref l) false := fun prog w E Q h => by
  obtain ⟨cls, dd, data, sl⟩ := o
  simp only at hc hd
  subst hc hd
  unfold eqBool
  refine wpAny_holding ?_
  refine wpAny_ite_split (fun hab => absurd (eq_of_beq hab) nofun) (fun _ => ?_)
  refine wpAny_bind (SeqAt.rc_eq_decline_or (k := false) (typeIs_str s b u) ⟨_, hl, rfl⟩ (by decide) F.sub_dict_str F.slot_str_eq F.slot_dict_eq_refl
    (fun _ hq => call_meets F.slot_str_eq (typeIs_str s b u) F.entry_str_eq (F.args_str_eq_2 _ _) (str_eq_dict b u l (.type "dict") es ep dd sl) ⟨hl, hq⟩)
    (fun _ hq => call_meets F.slot_dict_eq_refl ⟨_, hl, rfl⟩ F.entry_dict_eq (F.args_dict_eq_2 _ _) (dict_eq_str l es ep dd sl b u) ⟨hl, hq⟩)
    (fun _ hq => wpAny_of_eq (rfl : isSame (.str b u) (.ref l) = pure false) hq) (.inr hu) (wpAny_truthy_bool h))
end
/-- lists, tuples, dicts that the heap tracks -/
inductive Box (H : Hp) : V → Prop where
  | lst {l : Addr} {xs : List V} (h : H l = some (.lst xs)) : Box H (.ref l)
  | tup {l : Addr} {xs : List V} (h : H l = some (.tup xs)) : Box H (.ref l)
  | dK {l : Addr} {kvs : List (Key × V)} (h : H l = some (.dK kvs)) : Box H (.ref l)
section
variable {X : Cx}
theorem at_str_box {A : Around} {pins : List (Addr × Obj)} {σ : L2.St} {H : Hp} {s : Shared} {x : V} {v : Value} (I : Inv X pins σ H s) (bx : Box H x) (rx : RelV x v) (hu : A.units < cLine) (b : Str) (t : Tok) : SeqAt.EqAt A s (.str b t) v false := by
  cases bx with
  | @lst l xs h =>
    cases rx
    obtain ⟨_, its, k, _, h1⟩ := (show ObjOk X.prog X.w H s.heap l (.lst xs) from I.hok l _ h)
    exact SeqAt.EqAt.str_list b t (items := its.toArray) ⟨_, h1, rfl, _, rfl⟩ hu
  | @tup l xs h =>
    cases rx
    obtain ⟨_, its, _, p⟩ := (show ObjOk X.prog X.w H s.heap l (.tup xs) from I.hok l _ h)
    exact SeqAt.EqAt.str_tuple b t p hu
  | @dK l kvs h =>
    cases rx
    obtain ⟨_, _, vs, _, o, es, ep, h1, h2, h3, _⟩ := (show ObjOk X.prog X.w H s.heap l (.dK kvs) from I.hok l _ h)
    exact at_str_dict b t h1 h2.1 h3 hu
def rInBox : R2 := fun x y H Q => ∃ (p : Addr) (zs : List Str), y = .ref p ∧ H p = some (.tup (zs.map V.str)) ∧ Box H x ∧ Q (.bl false) H
theorem op_inBox (hu : X.A.units + 1 < cLine) : OpR X (compareOp .In) rInBox := by
  intro pins s σ H x y v u Q I rx ry h
  obtain ⟨p, zs, rfl, hp, bx, q⟩ := h
  cases ry
  obtain ⟨_, its, rv, pl⟩ := (show ObjOk X.prog X.w H s.heap p (.tup (zs.map V.str)) from I.hok p _ hp)
  refine SeqAt.in_tupleAt (fun _ => false) pl (fun w hw => ?_) ⟨.bl false, H, I, ?_, q⟩
  · obtain ⟨z, mz, t, rfl⟩ := strs_vals rv w (by simpa using hw)
    exact at_str_box I bx rx (A := X.A.in1) (by show X.A.in1.units < cLine; exact hu) z t
  · have : its.toArray.any (fun _ => false) = false := by simp
    rw [this]
    rfl
end
end Bk

namespace Bk
open PySem PySem.Spec PyProof.Rows L2
/-- what a turn of the law of made folders keeps: the stream, the list of names, the folders made of them -/
structure Grd (C : Addr) (H : Hp) (st c nl x : Addr) (n : Nat) (zs : List Str) (ch : Bool) : Prop where
  S : Strm H st c n
  nm : H nl = some (.lst (zs.map V.str))
  fo : FoldersAt C H x zs ch
section
variable {C st c nl x : Addr} {H H' : Hp} {n : Nat} {zs : List Str} {ch : Bool}
theorem FoldersAt.same {C x : Addr} {H H' : Hp} {zs : List Str} {ch : Bool} (h : FoldersAt C H x zs ch) (e : Same H H') : FoldersAt C H' x zs ch := by
  obtain ⟨dx, t, pd, h1, h2, h3⟩ := h
  exact ⟨dx, t, pd, e _ _ h1, e _ _ h2, e _ _ h3⟩
theorem FoldersAt.updL {p : Addr} {l : List V} {o : HO} (h : FoldersAt C H x zs ch) (hp : H p = some (.lst l)) : FoldersAt C (upd H p o) x zs ch := by
  obtain ⟨dx, t, pd, h1, h2, h3⟩ := h
  refine ⟨dx, t, pd, ?_, ?_, ?_⟩
  · rw [upd_ne (ne_of h1 hp (fun z => nomatch z))]
    exact h1
  · rw [upd_ne (ne_of h2 hp (fun z => nomatch z))]
    exact h2
  · rw [upd_ne (ne_of h3 hp (fun z => nomatch z))]
    exact h3
theorem Grd.same (g : Grd C H st c nl x n zs ch) (e : Same H H') : Grd C H' st c nl x n zs ch := ⟨g.S.same e, e _ _ g.nm, g.fo.same e⟩
theorem Grd.updL {p : Addr} {l : List V} {o : HO} (g : Grd C H st c nl x n zs ch) (hp : H p = some (.lst l)) (h1 : p ≠ st) (h2 : p ≠ c) (h3 : p ≠ nl) : Grd C (upd H p o) st c nl x n zs ch :=
  ⟨g.S.upd h1 h2, by rw [upd_ne h3.symm]; exact g.nm, g.fo.updL hp⟩
end
theorem wrong_ok {zs : List Str} {most : Nat} (h0 : zs ≠ []) (hl : zs.length ≤ most) (hn : ∀ z ∈ zs, isNameS z = true) (nd : zs.Nodup) : wrongOf (some (zs.map V.str)) most = none := by
  have all : ∀ k i, zs.length - i = k → wrongFrom (zs.map V.str) most i ((zs.map V.str).drop i) = none := by
    intro k
    induction k with
    | zero => exact fun i e => wrong_end (by rw [List.length_map]; omega)
    | succ k ih =>
      intro i e
      have hi : i < zs.length := by omega
      have hx : (zs.map V.str)[i]? = some (.str zs[i]) := by rw [List.getElem?_map, List.getElem?_eq_getElem hi]; rfl
      rw [wrong_step hx, if_neg, ih (i + 1) (by omega)]
      have h1 := hn zs[i] (List.getElem_mem hi)
      have h2 : inV (.str zs[i]) ((zs.map V.str).take i) = false := by
        rw [← List.map_take, inV_strs]
        refine decide_eq_false fun m => ?_
        obtain ⟨j, hj, e2⟩ := List.mem_take_iff_getElem.mp m
        have := nodup_inj nd (by omega) hi e2
        omega
      have h3 : ¬ i = most := by omega
      simp [badAt, isNameB, h1, h2, h3]
  show firstWrong (zs.map V.str) most = none
  unfold firstWrong
  rw [if_neg (fun e => h0 (List.map_eq_nil_iff.mp e))]
  exact all _ 0 rfl
theorem look_lots (t pd : Addr) (ch : Bool) : (foldersF t pd ch).lookup ("lots" : Str) = none := by
  have h : (("lots" : Str) == ("names" : Str)) = false := by decide +kernel
  have h2 : (("lots" : Str) == ("chain" : Str)) = false := by decide +kernel
  have h3 : (("lots" : Str) == ("places" : Str)) = false := by decide +kernel
  show List.lookup ("lots" : Str) [(("names" : Str), V.ref t), ("chain", .bl ch), ("places", .ref pd)] = _
  simp [List.lookup, h, h2, h3]
theorem lot_len {ch : Bool} {zs l : List Str} (m : l ∈ lotsFor ch zs) : l.length ≤ zs.length := by
  cases ch with
  | true =>
    obtain ⟨k, _, hl⟩ := List.mem_flatMap.mp (show l ∈ (List.range zs.length).flatMap (longRows zs) from m)
    obtain ⟨j, _, rfl⟩ := List.mem_map.mp hl
    rw [List.length_take, List.length_drop]
    omega
  | false =>
    obtain ⟨r, hr, rfl⟩ := List.mem_map.mp (show l ∈ (lotRows zs.length).map _ from m)
    obtain ⟨k, o⟩ := lotRows_ok r hr
    have h1 := o.len
    have h2 := o.last
    have h3 := o.lt_last
    rw [List.length_map]
    omega
/-! ### lots as data -/
section
variable {K : PySem.W.Frag} {H : Hp}
def dLots (ls : List (List Str)) : PyData := .list (ls.map fun l => .tuple (l.map PyData.str))
theorem dp_lots {ws : List V} {ls : List (List Str)} (h : Ats H (fun l : List Str => l.map V.str) ws ls) : DpAll K H ws (ls.map fun l => .tuple (l.map PyData.str)) := by
  induction ls generalizing ws with
  | nil =>
    have : ws = [] := List.length_eq_zero_iff.mp h.1
    subst this
    exact .nil
  | cons l r ih =>
    cases ws with
    | nil => exact absurd h.1 (by simp)
    | cons w ws =>
      obtain ⟨b, rfl, hb⟩ := h.2 0 w l rfl rfl
      refine .cons (.tup (SqT.of hb) (dp_strs l)) (ih ⟨by simpa using h.1, fun i v x h1 h2 => h.2 (i + 1) v x (by simpa using h1) (by simpa using h2)⟩)
theorem depth_lots : ∀ ls : List (List Str), PyData.depthAll (ls.map fun l => PyData.tuple (l.map PyData.str)) ≤ 1
  | [] => by simp [PyData.depthAll]
  | l :: r => by
    have := depth_lots r
    have h := depth_strs l
    simp [PyData.depthAll, PyData.depth, h]
    omega
theorem wide_lots {m : Nat} : ∀ ls : List (List Str), (∀ l ∈ ls, l.length ≤ m) → wideAll (ls.map fun l => PyData.tuple (l.map PyData.str)) ≤ m
  | [], _ => by simp [wideAll]
  | l :: r, h => by
    have := wide_lots r fun x hx => h x (List.mem_cons_of_mem _ hx)
    have h1 := wide_strs l
    have h2 := h l List.mem_cons_self
    simp [wideAll, wide, h1]
    omega
def dTold (zs : List Str) (ch : Bool) : PyData := .list [.tuple (zs.map PyData.str), .bool ch, .int (zs.length : Int)]
theorem dp_told {q t : Addr} {zs : List Str} {ch : Bool} (hq : H q = some (.lst [.ref t, .bl ch, .int (zs.length : Int)])) (ht : H t = some (.tup (zs.map V.str))) : Dp K H (.ref q) (dTold zs ch) :=
  .lst (SqL.of hq) (.cons (.tup (SqT.of ht) (dp_strs zs)) (.cons (.bl ch) (.cons (.int _) .nil)))
end
theorem told_depth (zs : List Str) (ch : Bool) : (dTold zs ch).depth ≤ 3 := by
  have := depth_strs zs
  simp [dTold, PyData.depth, PyData.depthAll, this]
theorem told_wide {zs : List Str} {ch : Bool} (h : zs.length ≤ 100) : wide (dTold zs ch) ≤ 90000 := by
  have := wide_strs zs
  simp [dTold, wide, wideAll, this]
  omega
theorem lots_depth (ls : List (List Str)) : (dLots ls).depth ≤ 3 := by
  have := depth_lots ls
  simp [dLots, PyData.depth]
  omega
theorem lots_wide {ls : List (List Str)} (h1 : ls.length ≤ 2000) (h2 : ∀ l ∈ ls, l.length ≤ 100) : wide (dLots ls) ≤ 90000 := by
  have := wide_lots ls h2
  simp [dLots, wide]
  omega
/-! ### rows of truth values -/
theorem rep_bools (n m : Nat) : (List.replicate (n : Int).toNat [V.bl true]).flatten ++ (List.replicate (m : Int).toNat [V.bl false]).flatten = (List.range (n + m)).map fun j => V.bl (decide (j < n)) := by
  rw [Int.toNat_natCast, Int.toNat_natCast, List.flatten_replicate_singleton, List.flatten_replicate_singleton]
  refine List.ext_getElem (by simp) fun i h1 h2 => ?_
  by_cases h : i < n
  · rw [List.getElem_append_left (by simpa using h)]
    simp [h]
  · rw [List.getElem_append_right (by simpa using h)]
    simp [h]
theorem dp_bools {K : PySem.W.Frag} {H : Hp} {α : Type} (f : α → Bool) : ∀ l : List α, DpAll K H (l.map fun j => V.bl (f j)) (l.map fun j => PyData.bool (f j))
  | [] => .nil
  | x :: r => .cons (.bl _) (dp_bools f r)
def dBools {α : Type} (f : α → Bool) (l : List α) : PyData := .list (l.map fun j => PyData.bool (f j))
theorem bools_depth {α : Type} (f : α → Bool) (l : List α) : (dBools f l).depth ≤ 3 := by
  have h : ∀ l : List α, PyData.depthAll (l.map fun j => PyData.bool (f j)) = 0 := by
    intro l
    induction l with
    | nil => simp [PyData.depthAll]
    | cons x r ih => simp [PyData.depthAll, PyData.depth, ih]
  have := h l
  simp [dBools, PyData.depth, this]
theorem bools_wide {α : Type} (f : α → Bool) {l : List α} (hl : l.length ≤ 100) : wide (dBools f l) ≤ 90000 := by
  have h : ∀ l : List α, wideAll (l.map fun j => PyData.bool (f j)) = 0 := by
    intro l
    induction l with
    | nil => simp [wideAll]
    | cons x r ih => simp [wideAll, wide, ih]
  have := h l
  simp [dBools, wide, this]
  omega
theorem inV_odd {y : V} (h : ∀ s, y ≠ .str s) : ∀ zs : List Str, inV y (zs.map V.str) = false
  | [] => rfl
  | x :: r => by
    have ih := inV_odd h r
    unfold inV at ih ⊢
    rw [List.map_cons, List.any_cons, ih, Bool.or_false]
    cases y <;> first | rfl | exact absurd rfl (h _)
end Bk

namespace Bk
open PySem PySem.Spec PyProof.Rows L2
def spFInA (C : Addr) : Sp := fun vs H Q _ => ∃ (x : Addr) (y : V) (zs : List Str) (ch r : Bool), vs = [.ref x, y] ∧ FoldersAt C H x zs ch ∧
  ((flatV y = true ∧ r = inV y (zs.map V.str)) ∨ (Box H y ∧ r = false) ∨ (∃ (b : Addr) (zs' : List Str) (ch' : Bool), y = .ref b ∧ FoldersAt C H b zs' ch' ∧ (∀ z ∈ zs', isNameS z = true) ∧ r = false)) ∧ ∀ H', Same H H' → Q (.bl r) H'
section
variable {P : Program} {w : World} {K : PySem.W.Frag} {mg : Str → Option Value} {base : Heap}
theorem OpR.or3 {X : Cx} {f : Value → Value → Sem Value} {r1 r2 r3 : R2} (h1 : OpR X f r1) (h2 : OpR X f r2) (h3 : OpR X f r3) : OpR X f (fun x y H Q => r1 x y H Q ∨ r2 x y H Q ∨ r3 x y H Q) := by
  intro pins s σ H x y v u Q I rx ry h
  rcases h with h | h | h
  · exact h1 pins s σ H x y v u Q I rx ry h
  · exact h2 pins s σ H x y v u Q I rx ry h
  · exact h3 pins s σ H x y v u Q I rx ry h
theorem ok_finA (B : Bi mg) {C f0 fE f : Addr} {fdE fd : FuncData} (T : FolT K mg C f0) (GE : FnOk P w K mg base CX0 1 fE fdE ["self", "other"] (spFEq K C)) (bE : Binds K fdE ["self", "other"] []) (mE : Own K C "__eq__" fE) (nS : PySem.W.subIn K (.ref C) (.type "str") = some false)
    (kS : PySem.W.kitOne K (.type "str") (.ref C) = some false) (F : Fun K "__contains__" "Folders.__contains__" (inClass (topS 32) 2) f fd) : FnOk P w K mg base CX0 3 f fd ["self", "x"] (spFInA C) := by
  refine F.ok scFIn (fun vs H Q E h => ?_) (fun cdv A outer s H vs Q E hr h => ?_)
  · obtain ⟨x, y, zs, ch, r, rfl, _⟩ := h
    rfl
  · obtain ⟨x, y, zs, ch, r, rfl, ⟨dx, t, pd, hx, ht, hp⟩, hc, q⟩ := h
    have nd := scFIn.nd
    have hu := hu_of hr
    refine ⟨_, (pss_one (ps_ret (pe_cmpR (OpR.or3 (kIn K) (op_inBox hu) (op_inOdd GE bE pass0 hr mE)) (pv 1) (pe_fld (pv 0) rfl) rfl))), ?_⟩
    refine ⟨_, rfl, _, rfl, x, C, dx, _, _, rfl, hx, T.cl, T.nN, look_names _ _ _, ?_⟩
    rcases hc with ⟨hf, rfl⟩ | ⟨bx, rfl⟩ | ⟨b, zs', ch', rfl, FA, hn, rfl⟩
    · exact .inl ⟨t, _, rfl, .inr (SqT.of ht), hf, flat_strs _, q H (Same.refl _)⟩
    · exact .inr (.inl ⟨t, zs, rfl, ht, bx, q H (Same.refl _)⟩)
    · have FA0 := FA
      obtain ⟨dx', t', pd', hx', _, _⟩ := FA0
      exact .inr (.inr ⟨b, dx', t, _, zs, rfl, rfl, hx', ht, nS, fun z _ H' e => ⟨b, .str z, .type "str", zs', ch', false, rfl, FA.same e, hn, .base (.str z), .inl ⟨kS, rfl⟩, fun H'' e' => ⟨false, rfl, false, rfl, rfl, Same.trans e e'⟩⟩, fun H' e => q H' e⟩)
end
end Bk

namespace Bk
open PySem PySem.Spec PyProof.Rows L2
theorem cut_upto (xs : List V) (k : Nat) : cutV xs none (some (k : Int)) = xs.take k := by
  unfold cutV
  rw [HT.sIx_none, HT.sIx_nat, List.drop_zero, Nat.sub_zero]
  by_cases h : k ≤ xs.length
  · rw [Nat.min_eq_left h]
  · rw [Nat.min_eq_right (by omega), List.take_length, List.take_of_length_le (by omega)]
theorem cut_from (xs : List V) (k : Nat) : cutV xs (some (k : Int)) none = xs.drop k := by
  unfold cutV
  rw [HT.sIx_none, HT.sIx_nat]
  by_cases h : k ≤ xs.length
  · rw [Nat.min_eq_left h, List.take_of_length_le (by rw [List.length_drop]; exact Nat.le_refl _)]
  · rw [Nat.min_eq_right (by omega), Nat.sub_self, List.take_zero, List.drop_of_length_le (by omega)]
theorem cut_last (xs : List V) (k : Nat) (hk : 0 < k) : cutV xs (some (-(k : Int))) none = xs.drop (xs.length - k) := by
  have e : HT.sIx xs.length 0 (some (-(k : Int))) = xs.length - k := by
    show (if -(k : Int) < 0 then (-(k : Int) + (xs.length : Int)).toNat else min (-(k : Int)).toNat xs.length) = _
    rw [if_pos (by omega)]
    omega
  unfold cutV
  rw [HT.sIx_none, e, List.take_of_length_le (by rw [List.length_drop]; omega)]
theorem cut_but (xs : List V) (k : Nat) (hk : 0 < k) : cutV xs none (some (-(k : Int))) = xs.take (xs.length - k) := by
  have e : HT.sIx xs.length xs.length (some (-(k : Int))) = xs.length - k := by
    show (if -(k : Int) < 0 then (-(k : Int) + (xs.length : Int)).toNat else min (-(k : Int)).toNat xs.length) = _
    rw [if_pos (by omega)]
    omega
  unfold cutV
  rw [HT.sIx_none, e, List.drop_zero, Nat.sub_zero]
/-- names that can be made to folders -/
structure Fit (zs : List Str) (m : Nat) : Prop where
  ne : zs ≠ []
  len : zs.length ≤ m
  nm : ∀ z ∈ zs, isNameS z = true
  nd : zs.Nodup
section
variable {zs : List Str} {m : Nat} {s : Str}
theorem Fit.right (h : Fit zs m) : wrongOf (some (zs.map V.str)) m = none := wrong_ok h.ne h.len h.nm h.nd
theorem Fit.pos (h : Fit zs m) : 0 < zs.length := List.length_pos_iff.mpr h.ne
theorem Fit.snoc (h : Fit zs m) (hs : isNameS s = true) (hn : s ∉ zs) : (∀ z ∈ zs ++ [s], isNameS z = true) ∧ (zs ++ [s]).Nodup := by
  refine ⟨fun z mz => ?_, ?_⟩
  · rcases List.mem_append.mp mz with mz | mz
    · exact h.nm z mz
    · rw [List.mem_singleton.mp mz]
      exact hs
  · rw [List.nodup_append]
    exact ⟨h.nd, (by simp), fun a ha b hb e => hn (by rw [List.mem_singleton.mp hb] at e; rw [← e]; exact ha)⟩
theorem Fit.take5 (h : Fit zs m) (m' : Nat) (hm : 5 ≤ m') : Fit (zs.take 5) m' :=
  ⟨fun e => by
    have h1 := congrArg List.length e
    rw [List.length_take, List.length_nil] at h1
    have h2 := h.pos
    omega, by rw [List.length_take]; omega, fun z mz => h.nm z (List.mem_of_mem_take mz), h.nd.sublist (List.take_sublist 5 zs)⟩
theorem Fit.tail5 (h : Fit zs m) (hm : 5 ≤ m) (hs : isNameS s = true) (hn : s ∉ zs) : Fit (((zs ++ [s]).drop 1).drop (zs.length - 5)) m ∧ s ∈ ((zs ++ [s]).drop 1).drop (zs.length - 5) := by
  have hp := h.pos
  obtain ⟨h1, h2⟩ := h.snoc hs hn
  have hm' : s ∈ ((zs ++ [s]).drop 1).drop (zs.length - 5) := by
    rw [List.drop_drop, List.drop_append_of_le_length (by omega)]
    exact List.mem_append_right _ List.mem_cons_self
  refine ⟨⟨(fun e => by rw [e] at hm'; exact nomatch hm'), ?_, fun z mz => h1 z (List.mem_of_mem_drop (List.mem_of_mem_drop mz)), h2.sublist ((List.drop_sublist _ _).trans (List.drop_sublist _ _))⟩, hm'⟩
  rw [List.length_drop, List.length_drop, List.length_append]
  simp
  omega
theorem Fit.last (h : Fit zs m) (hs : isNameS s = true) (hn : s ∉ zs) : Fit (zs.take (zs.length - 1) ++ [s]) m := by
  have hp := h.pos
  have hl := h.len
  refine ⟨by simp, ?_, fun z mz => ?_, ?_⟩
  · rw [List.length_append, List.length_take]
    simp
    omega
  · rcases List.mem_append.mp mz with mz | mz
    · exact h.nm z (List.mem_of_mem_take mz)
    · rw [List.mem_singleton.mp mz]
      exact hs
  · rw [List.nodup_append]
    exact ⟨h.nd.sublist (List.take_sublist _ _), (by simp), fun a ha b hb e => hn (by rw [List.mem_singleton.mp hb] at e; rw [← e]; exact List.mem_of_mem_take ha)⟩
theorem Fit.rev (h : Fit zs m) : Fit zs.reverse m := ⟨by simp [h.ne], by rw [List.length_reverse]; exact h.len, fun z mz => h.nm z (List.mem_reverse.mp mz), (by unfold List.Nodup; rw [List.pairwise_reverse]; exact List.Pairwise.imp (fun q e => q e.symm) h.nd)⟩
theorem rev_other (h : zs.Nodup) (hl : 1 < zs.length) : zs ≠ zs.reverse := fun e => by
  have h0 : zs[0]? = zs.reverse[0]? := by rw [← e]
  rw [List.getElem?_reverse (by omega), List.getElem?_eq_getElem (by omega), List.getElem?_eq_getElem (by omega)] at h0
  have := nodup_inj h (by omega) (by omega) (Option.some.inj h0)
  omega
end
/-- folders that are not those of zs and ch -/
def Oth (C : Addr) (zs : List Str) (ch : Bool) (H : Hp) (v : V) : Prop := ∃ (b : Addr) (zs' : List Str) (ch' : Bool), v = .ref b ∧ FoldersAt C H b zs' ch' ∧ (∀ z ∈ zs', isNameS z = true) ∧ (decide (zs = zs') && decide (ch = ch')) = false
theorem Oth.same {C : Addr} {zs : List Str} {ch : Bool} {H H' : Hp} {v : V} (h : Oth C zs ch H v) (e : Same H H') : Oth C zs ch H' v := by
  obtain ⟨b, zs', ch', h1, h2, h3, h4⟩ := h
  exact ⟨b, zs', ch', h1, h2.same e, h3, h4⟩
theorem Oth.updL {C : Addr} {zs : List Str} {ch : Bool} {H : Hp} {v : V} {p : Addr} {l : List V} {o : HO} (h : Oth C zs ch H v) (hp : H p = some (.lst l)) : Oth C zs ch (upd H p o) v := by
  obtain ⟨b, zs', ch', h1, h2, h3, h4⟩ := h
  exact ⟨b, zs', ch', h1, h2.updL hp, h3, h4⟩
end Bk

/-! dict(pairs), dict(zip(xs, ys)), the keys tuples of ints and texts -/
namespace Bk
open PySem PySem.Spec PyProof.Rows L2
/-- later pairs win, the place is the first one's -/
def mergeT (kvs more : List (List Key × V)) : List (List Key × V) := more.foldl (fun acc kv => putK acc kv.1 kv.2) kvs
theorem mergeT_len : ∀ (more kvs : List (List Key × V)), (mergeT kvs more).length ≤ kvs.length + more.length
  | [], kvs => Nat.le_refl _
  | p :: r, kvs => by
    have h1 := mergeT_len r (putK kvs p.1 p.2)
    have h2 := length_putK kvs p.1 p.2
    show (mergeT (putK kvs p.1 p.2) r).length ≤ _
    rw [List.length_cons]
    omega
theorem KT.merge {H : Hp} : ∀ (more : List (List Key × V)) (ps : List (List Key × Addr × Value)) (kvs : List (List Key × V)) (xs : List (List Key × Addr × Value)), KT H more ps → KT H kvs xs → KT H (mergeT kvs more) (storedAllH xs ps)
  | [], _, _, _, .nil, h => h
  | p :: more, q :: ps, kvs, xs, .cons e t, h => by
    obtain ⟨k, b, u⟩ := q
    obtain ⟨e1, e2, e3⟩ := e
    have e1 : p.1 = k := e1
    subst e1
    show KT H (mergeT (putK kvs p.1 p.2) more) (storedAllH (storedH xs p.1 b u) ps)
    exact KT.merge more ps _ _ t (h.put p.1 e2 e3)
section
variable {X : Cx}
theorem dt_made {pins : List (Addr × Obj)} {σ : L2.St} {H : Hp} {s : Shared} {kvs : List (List Key × V)} {prs : List (List Key × Addr × Value)} {h' : Heap} {tk : Nat} {d : Addr} {Q : VK} (I : Inv X pins σ H s) (kt : KT H kvs prs) (hz : kvs.length ≤ sizeLine) (hsd : s.heap.objs.size ≤ d)
    (hd : h'.DictOfH (tupleKind (mixKind X.prog X.w)) d (storedAllH [] prs)) (k : ∀ b o, s.heap.get? b = some o → h'.get? b = some o) (q : ∀ p, H p = none → Q (.ref p) (upd H p (.dT (mergeT [] kvs)))) :
    EP X pins σ Q (.ref d) { s with heap := h', toks := tk } := by
  have hm : (d == sysModules) = false := beq_eq_false_iff_ne.mpr (Nat.ne_of_gt (Nat.lt_of_lt_of_le I.big hsd))
  have hn := I.hok.fresh hsd
  obtain ⟨o, es, ep, h1, h2, h3, h4, _, h5⟩ := hd
  have hlen := mergeT_len kvs []
  rw [List.length_nil, Nat.zero_add] at hlen
  refine ⟨.ref d, upd H d (.dT (mergeT [] kvs)), I.laid (t' := tk) k hsd ?_, rfl, q _ hn⟩
  refine ⟨Nat.le_trans hlen hz, hm, storedAllH [] prs, (KT.merge _ _ _ _ kt .nil).keeps fun c ys ec => ?_, o, es, ep, h1, h2, h3, h4, h5⟩
  rw [upd_ne (ne_of_none ec hn)]
  exact ec
theorem kt_keys {H : Hp} : ∀ {l : List (List Key × V)} {m : List (List Key × Addr × Value)}, KT H l m → ∀ x ∈ m, H x.2.1 = some (.tup (x.1.map kV)) := by
  intro l m q
  induction q with
  | nil => intro x hx; exact nomatch hx
  | @cons p q ps qs hq t ih =>
    intro x hx
    rcases List.mem_cons.mp hx with e | hx
    · subst e
      rw [← hq.1]
      exact hq.2.1
    · exact ih x hx
theorem stay_of {pins : List (Addr × Obj)} {σ : L2.St} {H : Hp} {s : Shared} {kvs : List (List Key × V)} {prs : List (List Key × Addr × Value)} {wr : List Addr} (I : Inv X pins σ H s) (kt : KT H kvs prs) (hw : ∀ b ∈ wr, s.heap.objs.size ≤ b) : KeysStay (tupleKind (mixKind X.prog X.w)) s.heap s.heap.objs.size wr prs := fun h' hk x hx => by
  have all : ∀ {l : List (List Key × V)} {m : List (List Key × Addr × Value)}, KT H l m → ∀ x ∈ m, H x.2.1 = some (.tup (x.1.map kV)) := by
    intro l m q
    induction q with
    | nil => intro x hx; exact nomatch hx
    | @cons p q ps qs hq t ih =>
      intro x hx
      rcases List.mem_cons.mp hx with e | hx
      · subst e
        rw [← hq.1]
        exact hq.2.1
      · exact ih x hx
  have hb := all kt x hx
  obtain ⟨o, arr, n, h1, h2, h3, h4⟩ := key_of (P := X.prog) (w := X.w) I.hok hb
  have hlt := Heap.lt_size h1
  exact ⟨o, arr, n, hk _ _ (Nat.ne_of_lt hlt) (fun z => Nat.lt_irrefl _ (Nat.lt_of_lt_of_le hlt (hw _ z))) h1, h2, h3, h4⟩
/-- dict(xs) of a list of pairs whose first parts are tuples -/
def rDictPT (K : PySem.W.Frag) : List V → Hp → VK → Prop := fun xs H Q => ∃ (a : Addr) (ps : List Addr) (kvs : List (List Key × V)), xs = [.ref a] ∧ SqL K H a (ps.map V.ref) ∧ Paired (fun p kv => ∃ b, H p = some (.tup [.ref b, kv.2]) ∧ H b = some (.tup (kv.1.map kV))) ps kvs ∧ ∀ p, H p = none → Q (.ref p) (upd H p (.dT (mergeT [] kvs)))
theorem pairsT_of {pins : List (Addr × Obj)} {σ : L2.St} {H : Hp} {s : Shared} (I : Inv X pins σ H s) : ∀ {ps : List Addr} {kvs : List (List Key × V)}, Paired (fun p kv => ∃ b, H p = some (.tup [.ref b, kv.2]) ∧ H b = some (.tup (kv.1.map kV))) ps kvs →
    ∃ prs : List (List Key × Addr × Value), KT H kvs prs ∧ prs.length = ps.length ∧ ∀ (j : Nat) (q : List Key × Addr × Value), prs[j]? = some q → ∃ p, ps[j]? = some p ∧ s.heap.IsTuple p #[.ref q.2.1, q.2.2]
  | _, _, .nil => ⟨[], .nil, rfl, fun j q e => by simp at e⟩
  | _, _, .cons (a := p) (b := kv) h t => by
    obtain ⟨prs, r, hl, hp⟩ := pairsT_of I t
    obtain ⟨b, h1, h2⟩ := h
    obtain ⟨_, its, rv, o, g1, g2, n, g3⟩ := (show ObjOk X.prog X.w H s.heap p (.tup [.ref b, kv.2]) from I.hok p _ h1)
    obtain ⟨u, y, ei, ru, ry⟩ := vals2 rv
    subst ei
    cases (show u = Value.ref b from ru)
    refine ⟨(kv.1, b, y) :: prs, .cons ⟨rfl, h2, ry⟩ r, by rw [List.length_cons, List.length_cons, hl], fun j q e => ?_⟩
    cases j with
    | zero =>
      have e' : (kv.1, b, y) = q := Option.some.inj e
      subst e'
      exact ⟨p, rfl, o, g1, g2, n, g3⟩
    | succ j =>
      obtain ⟨p', e1, e2⟩ := hp j q (by simpa using e)
      exact ⟨p', by simpa using e1, e2⟩
theorem call_dictPT (hcalm : X.calm = true) (hu : X.A.units + 64 < cLine) : CallR X (.type "dict") (rDictPT X.K) := by
  intro pins s σ H xs us Q I r q
  obtain ⟨a, ps, kvs, ex, hq, hp, q⟩ := q
  subst ex
  obtain ⟨u, eu, rx⟩ := vals1 r
  subst eu
  cases rx
  obtain ⟨its, rv, pl, hz⟩ := I.list hq
  have ei := refs_at rv
  subst ei
  rw [List.length_map] at hz
  obtain ⟨prs, kt, hl, hpr⟩ := pairsT_of I hp
  have hlk : kvs.length = prs.length := Paired.length kt
  let vs : List (Value × Value) := prs.map fun x => (.ref x.2.1, x.2.2)
  have hvl : vs.length = prs.length := List.length_map _
  have items : PairItems s.heap (ps.map Value.ref).toArray (fun j => ps.getD j 0) vs := by
    refine ⟨by simp [hvl, hl], fun j k v e => ?_⟩
    rw [List.getElem?_map] at e
    obtain ⟨x, hx, ex⟩ := Option.map_eq_some_iff.mp e
    cases ex
    obtain ⟨p, hp1, hp2⟩ := hpr j x hx
    have hg : ps.getD j 0 = p := by rw [List.getD_eq_getElem?_getD, hp1]; rfl
    show (ps.map Value.ref).toArray[j]? = some (Value.ref (ps.getD j 0)) ∧ PairAt s.heap (ps.getD j 0) _ _
    rw [hg]
    exact ⟨by simp [hp1], .inl hp2⟩
  refine call_dict_pairsH (ps := prs) (PairArg.list a (ps.map Value.ref).toArray (fun j => ps.getD j 0) vs) (I.ok.hd hcalm) ?_ ⟨?_, items⟩ ⟨hvl.symm, fun i key v e => ?_⟩ (stay_of I kt fun b z => nomatch z) (by rw [hvl, hl]; exact hz) fun h' tk hd' k => ?_
  · show X.A.in1.in1.units < cLine
    exact Nat.lt_of_le_of_lt (Nat.add_le_add_left (by decide : 2 ≤ 64) _) hu
  · obtain ⟨o, n, ho, hc, hd, hdat⟩ := pl
    exact ⟨o, n, ho, hc, hd, hdat⟩
  · have e : (prs.map fun x => (Value.ref x.2.1, x.2.2))[i]? = some (key, v) := e
    rw [List.getElem?_map] at e
    obtain ⟨x, hx, ex⟩ := Option.map_eq_some_iff.mp e
    cases ex
    exact ⟨x.1, x.2.1, hx, rfl⟩
  · exact dt_made I kt (by rw [hlk, hl]; exact hz) (Nat.le_refl _) hd' (fun b o e => k b o (fun z => nomatch z) e) q
end
end Bk

/-! == and != of two dicts whose keys are tuples -/
namespace PySem.W
open PySem PySem.Calls PyProof.Rows PyProof.V PySem.Spec
section
variable {prog : Program} {w : World} {K : Type} [DecidableEq K] {knd : HeapKind prog w K} {A : Around} {E : Value → Shared → Prop} {s : Shared}
inductive BkHits {K : Type} [DecidableEq K] (A : Around) (s : Shared) (kb : List (K × Addr × Value)) : List (K × Addr × Value) → Bool → Prop
  | nil : BkHits A s kb [] true
  | miss {k : K} {c : Addr} {v : Value} {r : List (K × Addr × Value)} : (∀ p, (k, p) ∉ kb) → BkHits A s kb ((k, c, v) :: r) false
  | hit {k : K} {c : Addr} {v : Value} {p : Addr × Value} {r : List (K × Addr × Value)} {e b : Bool} : (k, p) ∈ kb → SeqAt.EqAt A s v p.2 e → BkHits A s kb r b → BkHits A s kb ((k, c, v) :: r) (e && b)
theorem BkHits.inv {kb : List (K × Addr × Value)} {k : K} {c : Addr} {v : Value} {r : List (K × Addr × Value)} {b : Bool} (h : BkHits A s kb ((k, c, v) :: r) b) :
    ((∀ p, (k, p) ∉ kb) ∧ b = false) ∨ ∃ p e b', (k, p) ∈ kb ∧ SeqAt.EqAt A s v p.2 e ∧ BkHits A s kb r b' ∧ b = (e && b') := by
  cases h with
  | miss hn => exact .inl ⟨hn, rfl⟩
  | hit hy he hr => exact .inr ⟨_, _, _, hy, he, hr, rfl⟩
theorem bk_one {kb : List (K × Addr × Value)} (hn : (kb.map (·.1)).Nodup) {k : K} {p q : Addr × Value} (hp : (k, p) ∈ kb) (hq : (k, q) ∈ kb) : p = q := by
  induction kb with
  | nil => cases hp
  | cons x r ih =>
    rw [List.map_cons, List.nodup_cons] at hn
    rcases List.mem_cons.mp hp with e0 | hp
    · rcases List.mem_cons.mp hq with e | hq
      · exact (Prod.mk.inj (e0.trans e.symm)).2
      · exact absurd (show x.1 ∈ r.map (·.1) from by rw [← e0]; exact List.mem_map.mpr ⟨(k, q), hq, rfl⟩) hn.1
    · rcases List.mem_cons.mp hq with e | hq
      · exact absurd (show x.1 ∈ r.map (·.1) from by rw [← e]; exact List.mem_map.mpr ⟨(k, p), hp, rfl⟩) hn.1
      · exact ih hn.2 hp hq
theorem bk_samePairs {nm : String} {a b : Addr} {ka kb : List (K × Addr × Value)} {r : Bool} {Q : Bool → Shared → Prop} (hu : knd.room A) (ha : (a == sysModules) = false) (hb : (b == sysModules) = false)
    (da : s.heap.DictOfH knd a ka) (db : s.heap.DictOfH knd b kb) (hits : ka.length = kb.length → BkHits A s kb ka r) (h : Q (ka.length == kb.length && r) s) :
    wpAny (model prog w) A (Builtin.Dict.samePairs nm a b) Q E s := by
  obtain ⟨oa, es, ep, hoa, _, hda, hea, hisa, hna⟩ := da
  obtain ⟨ob, es', ep', hob, _, hdb, heb, hisb, hnb⟩ := db
  have hla : ka.length = es.size := (size_of_entries hea).symm
  have hlb : kb.length = es'.size := (size_of_entries heb).symm
  rw [hla, hlb] at h
  unfold Builtin.Dict.samePairs Builtin.Dict.showsAll
  rw [if_neg (show ¬ (a == sysModules) = true by rw [ha]; exact Bool.false_ne_true), if_neg (show ¬ (b == sysModules) = true by rw [hb]; exact Bool.false_ne_true)]
  refine wpAny_bind (wpAny_pure (wpAny_bind (wpAny_pure ?_)))
  refine wpAny_bind (wpAny_dictEntries hoa hda ?_)
  dsimp only
  refine wpAny_bind (wpAny_dictEntries hob hdb ?_)
  by_cases hsz : es.size = es'.size
  case neg =>
    rw [if_pos (by simpa using hsz)]
    have hbf : (es.size == es'.size) = false := by simpa using hsz
    rw [hbf, Bool.false_and] at h
    exact wpAny_bind (wpAny_rule (wpAny_pure h))
  case pos =>
    have h' : Q r s := by simpa [hsz] using h
    have hits' := hits (by rw [hla, hlb]; exact hsz)
    rw [if_neg (by rw [hsz]; simp)]
    refine wpAny_bind (wpAny_dictEpoch hoa hda ?_)
    refine wpAny_bind ?_
    rw [Std.Legacy.Range.forIn_eq_forIn_range']
    simp only [Std.Legacy.Range.size, Nat.sub_zero, Nat.add_sub_cancel, Nat.div_one]
    refine wpAny_forIn_list _
      (fun rest q s' => s' = s ∧ q = (none, ()) ∧ ∃ i, rest = List.range' i (es.size - i) ∧ i ≤ es.size ∧ BkHits A s kb (ka.drop i) r)
      _ ?_ ?_ _ _ ⟨rfl, rfl, 0, by simp, Nat.zero_le _, hits'⟩
    · rintro x rest q s' ⟨rfl, rfl, i, hr, hi, hpre⟩
      have hlt : i < es.size := by
        rcases Nat.lt_or_ge i es.size with h | h
        · exact h
        · rw [Nat.sub_eq_zero_of_le h] at hr; simp at hr
      obtain ⟨rfl, hrest⟩ : x = i ∧ rest = List.range' (i + 1) (es.size - (i + 1)) := by
        have e : es.size - i = (es.size - (i + 1)) + 1 := by omega
        rw [e, List.range'_succ] at hr
        injection hr with h1 h2
        exact ⟨h1, h2⟩
      refine wpAny_bind (wpAny_dictEntries hoa hda ?_)
      rw [Array.getElem?_eq_getElem hlt]
      have hlt' : x < ka.length := by rw [hla]; exact hlt
      obtain ⟨k, c, v, hkv⟩ : ∃ k c v, ka[x] = (k, c, v) := ⟨_, _, _, rfl⟩
      have hdrop : ka.drop x = (k, c, v) :: ka.drop (x + 1) := by rw [← hkv]; exact List.drop_eq_getElem_cons hlt'
      have hent : es[x] = entryOfKey knd (k, c, v) := by
        have q := entry_at hea x
        rw [Array.getElem?_eq_getElem hlt, List.getElem?_eq_getElem hlt', hkv] at q
        exact Option.some.inj q
      have hkey := hisa (k, c, v) (by rw [← hkv]; exact List.getElem_mem hlt')
      rw [hdrop] at hpre
      rw [hent]
      show wpAny _ _ (holding [Value.ref c, v] _ >>= _) _ _ _
      refine wpAny_bind (wpAny_holding (wpAny_bind (wpAny_dictFind_heap hu hkey hob hdb heb hisb hnb (fun hnone => ?_) fun j p hj => ?_)))
      · rcases hpre.inv with ⟨_, er⟩ | ⟨y, _, _, hy, _⟩
        · rw [er] at h'
          refine wpAny_pure ?_
          show wpAny _ _ (if (!false) = true then _ else _) _ _ _
          rw [if_pos (by decide)]
          exact wpAny_pure (wpAny_pure h')
        · obtain ⟨j, hj⟩ := List.mem_iff_getElem?.mp hy
          exact absurd hj (hnone j y)
      · have hjlt : j < es'.size := by
          have := (List.getElem?_eq_some_iff.mp hj).1
          omega
        have hval : es'[j].val = p.2 := by
          have q := entry_at heb j
          rw [Array.getElem?_eq_getElem hjlt, hj] at q
          rw [Option.some.inj q]
          rfl
        refine wpAny_bind (wpAny_dictEntries hob hdb ?_)
        rw [Array.getElem?_eq_getElem hjlt]
        rcases hpre.inv with ⟨hn, _⟩ | ⟨y, e, b', hy, he, hrr, er⟩
        · exact absurd (List.mem_of_getElem? hj) (hn p)
        · have ey := bk_one hnb hy (List.mem_of_getElem? hj)
          rw [ey, ← hval] at he
          refine wpAny_holding (he prog w _ _ ?_)
          cases e with
          | false =>
            rw [er, Bool.false_and] at h'
            show wpAny _ _ (if (!false) = true then _ else _) _ _ _
            rw [if_pos (by decide)]
            exact wpAny_pure (wpAny_pure h')
          | true =>
            rw [Bool.true_and] at er
            rw [← er] at hrr
            show wpAny _ _ (if (!true) = true then _ else _) _ _ _
            rw [if_neg (by decide)]
            refine wpAny_bind (wpAny_dictEpoch hoa hda ?_)
            rw [if_neg (by simp)]
            exact wpAny_pure ⟨rfl, rfl, x + 1, hrest, hlt, hrr⟩
    · rintro q s' ⟨rfl, rfl, i, hr, hi, hpre⟩
      have hin : i = es.size := by
        rcases Nat.lt_or_ge i es.size with h | h
        · have e : es.size - i = (es.size - (i + 1)) + 1 := by omega
          rw [e, List.range'_succ] at hr; exact nomatch hr
        · exact Nat.le_antisymm hi h
      refine wpAny_pure ?_
      rw [hin, ← hla, List.drop_length] at hpre
      cases hpre
      exact h'
theorem bk_eq {a b : Addr} {ka kb : List (K × Addr × Value)} {r : Bool} {Q : Value → Shared → Prop} (hu1 : knd.room A.in1) (ha : (a == sysModules) = false) (hb : (b == sysModules) = false)
    (da : s.heap.DictOfH knd a ka) (db : s.heap.DictOfH knd b kb) (hu : A.units < cLine) (hits : ka.length = kb.length → BkHits A.in1 s kb ka r) (h : Q (.bool (ka.length == kb.length && r)) s) :
    wpAny (model prog w) A (compareOp .Eq (.ref a) (.ref b)) Q E s := by
  refine wpAny_richCompare_same_room (op := .Eq) da.typeIs db.typeIs PySem.F.slot_dict_eq (wpAny_call_entry PySem.F.slot_dict_eq da.typeIs PySem.F.entry_dict_eq ?_ (PySem.F.args_dict_eq_2 _ _)) hu
  show wpAny _ _ (Builtin.Dict.dictSlotArgs "__eq__" ⟨[.ref a, .ref b], []⟩ >>= _) _ _ s
  refine wpAny_bind ?_
  unfold Builtin.Dict.dictSlotArgs
  refine wpAny_bind (wpAny_notOrdered_dict da.typeIs ?_)
  show wpAny _ _ (pure (Value.ref a, Value.ref b)) _ _ s
  refine wpAny_pure ?_
  refine wpAny_bind (wpAny_isInstance (T := "dict") db.typeIs PySem.F.sub_dict_dict ?_)
  simp only [Bool.not_true, Bool.false_eq_true, if_false]
  refine wpAny_bind (wpAny_pure (wpAny_bind (wpAny_pure ?_)))
  refine wpAny_bind (bk_samePairs hu1 ha hb da db hits ?_)
  refine wpAny_pure ⟨_, rfl, ?_, ?_⟩
  · exact fun x => nomatch x
  · simpa using h
theorem bk_ne {a b : Addr} {ka kb : List (K × Addr × Value)} {r : Bool} {Q : Value → Shared → Prop} (hu1 : knd.room A.in1) (ha : (a == sysModules) = false) (hb : (b == sysModules) = false)
    (da : s.heap.DictOfH knd a ka) (db : s.heap.DictOfH knd b kb) (hu : A.units < cLine) (hits : ka.length = kb.length → BkHits A.in1 s kb ka r) (h : Q (.bool (!(ka.length == kb.length && r))) s) :
    wpAny (model prog w) A (compareOp .NotEq (.ref a) (.ref b)) Q E s := by
  refine wpAny_richCompare_same_room (op := .NotEq) da.typeIs db.typeIs PySem.F.slot_dict_ne (wpAny_call_entry PySem.F.slot_dict_ne da.typeIs PySem.F.entry_dict_ne ?_ (PySem.F.args_dict_ne_2 _ _)) hu
  show wpAny _ _ (Builtin.Dict.dictSlotArgs "__ne__" ⟨[.ref a, .ref b], []⟩ >>= _) _ _ s
  refine wpAny_bind ?_
  unfold Builtin.Dict.dictSlotArgs
  refine wpAny_bind (wpAny_notOrdered_dict da.typeIs ?_)
  show wpAny _ _ (pure (Value.ref a, Value.ref b)) _ _ s
  refine wpAny_pure ?_
  refine wpAny_bind (wpAny_isInstance (T := "dict") db.typeIs PySem.F.sub_dict_dict ?_)
  simp only [Bool.not_true, Bool.false_eq_true, if_false]
  refine wpAny_bind (wpAny_pure (wpAny_bind (wpAny_pure ?_)))
  refine wpAny_bind (bk_samePairs hu1 ha hb da db hits ?_)
  refine wpAny_pure ⟨_, rfl, ?_, ?_⟩
  · exact fun x => nomatch x
  · simpa using h
end
end PySem.W

/-! == and != of two dicts whose keys are tuples, their values whole numbers -/
namespace Bk
open PySem PySem.Spec PyProof.Rows L2
def getT (ks : List (List Key × Int)) (k : List Key) : Option Int := (ks.find? fun p => decide (p.1 = k)).map (·.2)
theorem getT_pos {p : List Key × Int} {r : List (List Key × Int)} {k : List Key} (e : p.1 = k) : getT (p :: r) k = some p.2 := by simp [getT, List.find?_cons, e]
theorem getT_neg {p : List Key × Int} {r : List (List Key × Int)} {k : List Key} (e : ¬ p.1 = k) : getT (p :: r) k = getT r k := by simp [getT, List.find?_cons, e]
/-- whether two tables of whole numbers are equal -/
def sameT (ks ls : List (List Key × Int)) : Bool := ks.length == ls.length && ks.all fun p => decide (getT ls p.1 = some p.2)
def tabV (ks : List (List Key × Int)) : List (List Key × V) := ks.map fun p => (p.1, V.int p.2)
theorem tab_len (ks : List (List Key × Int)) : (tabV ks).length = ks.length := List.length_map ..
theorem valV_tab (ls : List (List Key × Int)) (k : List Key) : valV (tabV ls) k = (getT ls k).map V.int := by
  induction ls with
  | nil => rfl
  | cons p r ih =>
    show valV ((p.1, V.int p.2) :: tabV r) k = _
    by_cases h : p.1 = k
    · rw [valV_pos h, getT_pos h]
      rfl
    · rw [valV_neg h, ih, getT_neg h]
theorem atKey_none {xs : List (List Key × Addr × Value)} {k : List Key} (e : atKey xs k = none) (z : Addr × Value) : (k, z) ∉ xs := fun hz => by
  unfold atKey at e
  rw [Option.map_eq_none_iff, List.find?_eq_none] at e
  exact e _ hz (decide_eq_true rfl)
theorem atKey_mem {xs : List (List Key × Addr × Value)} {k : List Key} {w : Addr × Value} (e : atKey xs k = some w) : (k, w) ∈ xs := by
  unfold atKey at e
  obtain ⟨⟨k', w'⟩, h1, rfl⟩ := Option.map_eq_some_iff.mp e
  have h2 := List.mem_of_find?_eq_some h1
  have h3 := List.find?_some (p := fun x : List Key × Addr × Value => decide (x.fst = k)) h1
  have h3 : k' = k := of_decide_eq_true h3
  rw [← h3]
  exact h2
theorem hitsT {A : Around} {s : Shared} {H : Hp} {ls : List (List Key × Int)} {vb : List (List Key × Addr × Value)} (rb : KT H (tabV ls) vb) {ks : List (List Key × Int)} : ∀ {va : List (List Key × Addr × Value)}, KT H (tabV ks) va →
    PySem.W.BkHits A s vb va (ks.all fun p => decide (getT ls p.1 = some p.2)) := by
  induction ks with
  | nil =>
    intro va ra
    cases ra
    exact .nil
  | cons p r ih =>
    intro va ra
    cases ra with
    | @cons _ q _ qs h t =>
      obtain ⟨h1, _, h3⟩ := h
      obtain ⟨k, c, v⟩ := q
      have h1 : p.1 = k := h1
      subst h1
      have rr := rb.val p.1
      rw [valV_tab] at rr
      rw [List.all_cons]
      cases e : getT ls p.1 with
      | none =>
        rw [e] at rr
        rw [show decide ((none : Option Int) = some p.2) = false from decide_eq_false (fun z => nomatch z), Bool.false_and]
        refine .miss fun z hz => ?_
        cases e2 : atKey vb p.1 with
        | none => exact atKey_none e2 z hz
        | some w => rw [e2] at rr; exact rr
      | some j =>
        rw [e] at rr
        cases e2 : atKey vb p.1 with
        | none => rw [e2] at rr; exact absurd rr (fun z => z)
        | some w =>
          rw [e2] at rr
          obtain ⟨t1, ht1⟩ : ∃ t, v = Value.int p.2 t := h3
          obtain ⟨t2, ht2⟩ : ∃ t, w.2 = Value.int j t := rr
          have hm := atKey_mem e2
          have q := SeqAt.EqAt.int_int (A := A) (s := s) p.2 t1 j t2
          rw [← ht1, ← ht2] at q
          have ed : decide (some j = some p.2) = (p.2 == j) := by
            by_cases z : p.2 = j
            · subst z; simp
            · have : ¬ j = p.2 := fun x => z x.symm
              simp [z, this]
          rw [ed]
          exact .hit hm q (ih t)
section
variable {X : Cx}
def rEqT (neg : Bool) : R2 := fun x y H Q => ∃ a b ks ls, x = .ref a ∧ y = .ref b ∧ H a = some (.dT (tabV ks)) ∧ H b = some (.dT (tabV ls)) ∧ Q (.bl (if neg then !sameT ks ls else sameT ks ls)) H
theorem op_eqT (hu : X.A.units + 1 < cLine) : OpR X (compareOp .Eq) (rEqT false) := by
  intro pins s σ H x y v u Q I rx ry h
  obtain ⟨a, b, ks, ls, rfl, rfl, ea, eb, q⟩ := h
  obtain rfl : v = Value.ref a := rx
  obtain rfl : u = Value.ref b := ry
  obtain ⟨_, ya, va, ra, da⟩ := dt_of I.hok ea
  obtain ⟨_, yb, vb, rb, db⟩ := dt_of I.hok eb
  have hl1 : va.length = ks.length := by rw [← Paired.length ra]; exact tab_len ks
  have hl2 : vb.length = ls.length := by rw [← Paired.length rb]; exact tab_len ls
  refine PySem.W.bk_eq (knd := tupleKind (mixKind X.prog X.w)) (tupleKind_room_in1 hu) ya yb da db (Nat.lt_of_succ_lt hu) (fun _ => hitsT rb ra) ?_
  rw [hl1, hl2]
  exact ⟨_, H, I, (show RelV (.bl _) _ from rfl), q⟩
theorem op_neT (hu : X.A.units + 1 < cLine) : OpR X (compareOp .NotEq) (rEqT true) := by
  intro pins s σ H x y v u Q I rx ry h
  obtain ⟨a, b, ks, ls, rfl, rfl, ea, eb, q⟩ := h
  obtain rfl : v = Value.ref a := rx
  obtain rfl : u = Value.ref b := ry
  obtain ⟨_, ya, va, ra, da⟩ := dt_of I.hok ea
  obtain ⟨_, yb, vb, rb, db⟩ := dt_of I.hok eb
  have hl1 : va.length = ks.length := by rw [← Paired.length ra]; exact tab_len ks
  have hl2 : vb.length = ls.length := by rw [← Paired.length rb]; exact tab_len ls
  refine PySem.W.bk_ne (knd := tupleKind (mixKind X.prog X.w)) (tupleKind_room_in1 hu) ya yb da db (Nat.lt_of_succ_lt hu) (fun _ => hitsT rb ra) ?_
  rw [hl1, hl2]
  exact ⟨_, H, I, (show RelV (.bl _) _ from rfl), q⟩
end
end Bk

/-! a dict comprehension with tests, its keys tuples -/
namespace Bk
open PySem PySem.Spec PyProof.Rows L2
section
variable {X : Cx}
/-- {k: v for target in iter if ..}, the keys tuples: D the new dict -/
def tDcTI (wi : TI) (g : TG) (tt : TT) (tk tv : TE) (vs : List Nat) : TE := fun σ H Q => wi σ H fun J H1 => ∀ D, H1 D = none → ∃ W : Nat → Nat → Hp → Prop, (∃ m, W 0 m (upd H1 D (.dT []))) ∧ ∀ i m H, W i m H →
  (J.stop i H ∧ Q (.ref D) H) ∨ (J.go i H ∧ ∃ Nx : Hp → Prop, (∀ H', Nx H' → ∃ m', m' < m ∧ W (i + 1) m' H') ∧ ∀ x H', J.yld i H x H' → g x (wipe σ vs) H' fun σ2 H2 => wipe σ2 vs = wipe σ vs ∧ tt σ2 H2 fun bb H3 =>
    if bb = true then tk σ2 H3 fun y H4 => tv σ2 H4 fun z H5 => ∃ kvs k b, y = .ref b ∧ H5 b = some (.tup (k.map kV)) ∧ H5 D = some (.dT kvs) ∧ kvs.length < sizeLine ∧ Nx (upd H5 D (.dT (putK kvs k z))) else Nx H3)
theorem pe_dcTI {kx vx tg iter : Expr} {ifs : List Expr} {scope : Scope} {own : List (Str × Nat)} {pos : Pos} {wi : TI} {g : TG} {tt : TT} {tk tv : TE} (hu : X.A.units < cLine) (hc : X.calm = true) (hN : X.N.Nodup) (hi : PI X tg iter wi) (ok : BlkOk X.N X.env.scope scope own)
    (hg : ∀ (s : Shared) (H : Hp) (C : Addr) (cl : List (Str × Addr)) (fp : List Addr), PG (X.blk s H scope (compEnvC scope cl C X.env) fp) tg g) (ht : ∀ (s : Shared) (H : Hp) (C : Addr) (cl : List (Str × Addr)) (fp : List Addr), PTs (X.blk s H scope (compEnvC scope cl C X.env) fp) ifs tt)
    (hk : ∀ (s : Shared) (H : Hp) (C : Addr) (cl : List (Str × Addr)) (fp : List Addr), PE (X.blk s H scope (compEnvC scope cl C X.env) fp) kx tk)
    (he : ∀ (s : Shared) (H : Hp) (C : Addr) (cl : List (Str × Addr)) (fp : List Addr), PE (X.blk s H scope (compEnvC scope cl C X.env) fp) vx tv) (hs : ∀ x, foldedSetIterable iter X.env x = pure x := by intro _; rfl) :
    PE X (.DictComp kx vx [⟨tg, iter, ifs, 0⟩] scope pos) (tDcTI wi g tt tk tv (own.map (·.2))) := by
  refine ⟨fun pins s σ H Q I h => ?_⟩
  rw [arm_eval_DictComp]
  have fr : ∀ y ∈ scope.names, y.2 = .free → ∃ c, X.env.cells.lookup y.1 = some c := fun y hy e => (ok.free y hy e).elim (fun k => I.ok.has _ (.inl k)) fun k => I.ok.has _ (.inr k)
  refine wpAny_comprehension_free rfl hs (closure_ok fr) ok.kind (fun y hy e => by rw [ok.uniq y hy, e]) (thn (hi.run pins s σ H _ I h) fun xv s1 hx => thn hx fun itv s2 h2 => ?_)
  obtain ⟨it, fp, tn, J, H2, rfl, I2, T, st2, f2, q⟩ := h2
  refine wpAny_newObj_type (newEnv_comp ?_)
  -- the new dict stands at D
  obtain ⟨D, hD⟩ : ∃ D, D = s2.heap.objs.size := ⟨_, rfl⟩
  obtain ⟨W, ⟨m0, w0⟩, turn⟩ := q D (I2.hok.fresh (Nat.le_of_eq hD.symm))
  obtain ⟨s3, hs3⟩ : ∃ s3 : Shared, s3 = { s2 with heap := s2.heap.push { cls := .type "dict", data := .dict #[] } } := ⟨_, rfl⟩
  have hh3 : s3.heap = s2.heap.push { cls := .type "dict", data := .dict #[] } := by rw [hs3]
  have k3 : ∀ b o, s2.heap.get? b = some o → s3.heap.get? b = some o := fun b o e => by rw [hh3]; exact Heap.get?_push_of_some _ e
  have I3 : Inv X pins σ (upd H2 D (.dT [])) s3 := by
    subst hs3 hD
    exact I2.laid (t' := s2.toks) (fun b o e => Heap.get?_push_of_some _ e) (Nat.le_refl _) (dt_empty s2.heap I2.big)
  have young : ∀ b ∈ fp, b < s2.heap.objs.size := fun b hb => (T.obj _ _ st2 b hb).elim fun o e => Heap.lt_size e.1
  have f3 : ∀ b ∈ fp, FpOk X pins (upd H2 D (.dT [])) b ∧ b < s3.heap.objs.size := fun b hb => by
    refine ⟨⟨?_, (f2 b hb).2⟩, by rw [hh3, Heap.size_push]; exact Nat.lt_succ_of_lt (young b hb)⟩
    rw [upd_ne (by rw [hD]; exact Nat.ne_of_lt (young b hb))]
    exact (f2 b hb).1
  have st3 : tn 0 s3.heap := T.keep _ _ _ st2 fun b _ => k3 b
  rw [← hs3]
  obtain ⟨H3, hH3⟩ : ∃ H3, H3 = upd H2 D (.dT []) := ⟨_, rfl⟩
  rw [← hH3] at I3 f3 w0
  have I4 := block_start I3 ok hN f3
  let cl := cellsFrom (s3.heap.objs.size + 1) scope.names (cloFrom X.env.cells scope.names [])
  have pg := hg s3 H3 s3.heap.objs.size cl fp
  have pt := ht s3 H3 s3.heap.objs.size cl fp
  have pk := hk s3 H3 s3.heap.objs.size cl fp
  have pe := he s3 H3 s3.heap.objs.size cl fp
  show codeAny _ _ (.compStart (.DictComp kx vx [⟨tg, iter, ifs, 0⟩] scope pos) 0 (.ref it) (.ref s2.heap.objs.size) (compEnvC scope cl s3.heap.objs.size X.env)) (compPost (model X.prog X.w) X.A X.xe none _ (.ref s2.heap.objs.size) s3.heap.objs.size) { s3 with heap := pushCells (s3.heap.push { cls := .type "dict", data := .dict #[] }) scope.names }
  rw [← hD]
  obtain ⟨ce, hce⟩ : ∃ ce, ce = compEnvC scope cl s3.heap.objs.size X.env := ⟨_, rfl⟩
  have cL : ce.locals = s3.heap.objs.size := by rw [hce]; rfl
  have I4' : Inv (X.blk s3 H3 scope ce fp) [] (wipe σ (own.map (·.2))) H3 { s3 with heap := pushCells (s3.heap.push { cls := .type "dict", data := .dict #[] }) scope.names } := by rw [hce]; exact I4
  rw [← hce] at pg pt pk pe ⊢
  clear I4
  obtain ⟨s4, hs4⟩ : ∃ s4 : Shared, s4 = { s3 with heap := pushCells (s3.heap.push { cls := .type "dict", data := .dict #[] }) scope.names } := ⟨_, rfl⟩
  rw [← hs4] at I4' ⊢
  have st4 : tn 0 s4.heap := T.keep _ _ _ st3 fun b _ o e => by rw [hs4]; exact pushCells_keeps _ _ _ _ (Heap.get?_push_of_some _ e)
  have stat : ∀ {σ' : L2.St} {H' : Hp} {s' : Shared}, Inv (X.blk s3 H3 scope ce fp) [] σ' H' s' → (∀ b ∈ fp, H' b = none) → ∀ b ∈ fp, FpOk (X.blk s3 H3 scope ce fp) [] H' b := fun I' hn b hb =>
    ⟨hn b hb, (I'.ok.exf b hb).1, I'.ok.exfs b hb, .inl hb, fun x c e => (I'.ok.exf b hb).2 x c e, fun p hp => by simp at hp⟩
  suffices loop : codeAny (model X.prog X.w) X.A (.compLoop (.DictComp kx vx [⟨tg, iter, ifs, 0⟩] scope pos) 0 (.ref it) (.ref D) ce) (compPost (model X.prog X.w) X.A X.xe none (EP X pins σ Q) (.ref D) s3.heap.objs.size) s4 from
    codeAny_compStart_dict loop (T.self X.A 0 _ _ _ st4 loop)
  refine compLoop_anyD (fun n s' => ∃ i H', Inv (X.blk s3 H3 scope ce fp) [] (wipe σ (own.map (·.2))) H' s' ∧ tn i s'.heap ∧ (∀ b ∈ fp, H' b = none) ∧ W i n H') ?_ m0 ⟨0, H3, I4', st4, fun b hb => (f3 b hb).1.1, w0⟩
  rintro n s5 ⟨i, H5, I5, st5, n5, w5⟩
  rcases turn i n H5 w5 with ⟨stop, qq⟩ | ⟨go, Nx, hNx, step⟩
  · refine thnF (T.done (X.blk s3 H3 scope ce fp) rfl rfl rfl hc i [] s5 _ H5 (fun _ _ => False) I5 (stat I5 n5) st5 stop) fun r s6 ⟨hr, I6⟩ => ?_
    subst hr
    have I7 : Inv X pins σ H5 s6 := I3.call' (ch := fp) I6.os I6.base I6.hok I6.bare fun b hb => ⟨(f3 b hb).1.2.2.2.1, (f3 b hb).1.2.1, (f3 b hb).1.2.2.2.2.1, (f3 b hb).1.2.2.2.2.2⟩
    obtain ⟨m, hn, _⟩ := I6.loc
    refine ⟨m, by rw [← cL]; exact hn, fun h'' sb => ?_⟩
    obtain ⟨g0, g1, g2, g3, g4, g5⟩ := I3.fpOk (H' := H5) (Nat.le_refl _) (by rw [← cL]; exact I6.free)
    exact ⟨.ref D, H5, I7.turned (t' := s6.toks) (fun b o hb e => (sb.2 b hb).trans e) g0 g1 g3 g4 g5, rfl, qq⟩
  · refine thnF (T.item (X.blk s3 H3 scope ce fp) rfl rfl rfl hc i [] s5 _ H5 (fun _ _ => False) I5 (stat I5 n5) st5 go) fun r s6 ⟨u, hr, h6⟩ => ?_
    subst hr
    refine thnF h6 fun _ s7 ⟨x, H7, I7, r7, y7, st7, n7⟩ => ?_
    have I7' := I7.pinned (stat I7 n7) (T.obj _ _ st7)
    refine thnF (pg.run _ s7 _ H7 x u _ I7' r7 (step x H7 y7)) fun _ s8 ⟨σ8, H8, I8, hw8, q8⟩ => ?_
    refine thnF (pt.run _ s8 σ8 H8 _ I8 q8) fun bb s9 ⟨H9, I9, q9⟩ => ?_
    have fin : ∀ {s' : Shared} {H' : Hp}, Inv (X.blk s3 H3 scope ce fp) ([] ++ pinsAt fp s7.heap) σ8 H' s' → Nx H' → ∃ m, m < n ∧ ∃ i H', Inv (X.blk s3 H3 scope ce fp) [] (wipe σ (own.map (·.2))) H' s' ∧ tn i s'.heap ∧ (∀ b ∈ fp, H' b = none) ∧ W i m H' := fun {s' H'} I' nx => by
      obtain ⟨m', hm, w'⟩ := hNx H' nx
      have pin' : ∀ b ∈ fp, ∀ o, s7.heap.get? b = some o → s'.heap.get? b = some o ∧ H' b = none := fun b hb o e =>
        have z := I'.pin (b, o) (List.mem_append_right _ (List.mem_append_right _ (mem_pinsAt hb e)))
        ⟨z.1, z.2.1⟩
      have hl : (wipe σ (own.map (·.2))).length = σ8.length := by rw [← hw8, wipe_length]
      refine ⟨m', hm, i + 1, H', (I'.unpinned (pins := [])).weak hl (fun j v e => ?_), T.keep _ _ _ st7 fun b hb o e => (pin' b hb o e).1, fun b hb => ?_, w'⟩
      · rw [← hw8] at e
        exact (wipe_some e).1
      · obtain ⟨o, e, _⟩ := T.obj _ _ st7 b hb
        exact (pin' b hb o e).2
    cases bb with
    | false =>
      simp only [Bool.false_eq_true, if_false] at q9 ⊢
      exact fin I9 q9
    | true =>
      simp only [if_true] at q9 ⊢
      refine thnF (pk.run _ s9 σ8 H9 _ I9 q9) fun z s10 ⟨yk, H10, I10, r10, q10⟩ => ?_
      refine thnF (pe.run _ s10 σ8 H10 _ I10 q10) fun z2 s11 ⟨yv, H11, I11, r11, kvs, k, b, ek, hb11, hD11, hz11, nx⟩ => ?_
      subst ek
      exact put_tup (X := X.blk s3 H3 scope ce fp) hu I11 hD11 hz11 hb11 r10 r11 fun s12 I12 => fin I12 nx
end
end Bk

/-! an own exception made by one keyword: type.__call__, BaseException.__new__, the own __init__ -/
namespace PySem
namespace HandSPX
open Builtin Builtin.ObjectAttr
open PySem.Calls PyProof.Rows
section
variable {M : Model} {A : Around} {E : Value → Shared → Prop} {h : Heap} {g : Array GenState} {d : Drawn} {t : Nat} {os : OsState}
variable {nm q : Str} {C N : Addr} {bs bm bmB : List Value} {hdct : Bool} {sn : List Str} {sub : List Value} {ab : Bool} {col : Option Bool} {dd : Option Addr} {k0 k1 k2 k3 k5 : Option Value} {B newId initId : String}
theorem bk_check_new (F : ExcBaseFacts B newId initId bmB) (hT : ∀ X : String, bm.contains (.type X) = bmB.contains (.type X)) {kn : Str} {ku : Value} {Q : Unit → Shared → Prop}
    (hC : h.get? C = some (excClassObj nm q C N bs bm hdct sn sub ab col dd k0 k1 k2 k3 k5 newId)) (hq : Q () ⟨h, g, d, t, os⟩) : wpAny M A (checkBuiltinCall newId ⟨[.ref C], [(kn, ku)]⟩) Q E ⟨h, g, d, t, os⟩ := by
  have hcont : (Value.ref C :: bm).contains (.type B) = true := by rw [List.contains_cons, hT, F.hasB, Bool.or_true]
  have hstar := F.noStar
  simp only [checkBuiltinCall, F.newKind, F.newSplit, F.newRow]
  repeat (first | refine wpAny_loadPart_at hC ?_ | (refine wpAny_isSubtype_exc hC ?_; rw [hcont]) | refine wpAny_staticBase_exc hC ?_ | refine wpAny_madeBy_exc hC ?_ | simp only [bne_self_eq_false, Bool.false_eq_true, if_false] | wp_step)
  exact hq
end
section
variable {prog : Program} {w : World} {A : Around} {E : Value → Shared → Prop} {R : Result → Shared → Prop} {h : Heap} {g : Array GenState} {d : Drawn} {t : Nat} {os : OsState}
variable {nm q : Str} {C N : Addr} {bs bm bmB : List Value} {hdct : Bool} {sn : List Str} {sub : List Value} {ab : Bool} {col : Option Bool} {dd : Option Addr} {k0 k1 k2 k3 k5 : Option Value} {B newId initId : String}
theorem bk_new (F : ExcBaseFacts B newId initId bmB) (hT : ∀ X : String, bm.contains (.type X) = bmB.contains (.type X)) {kn : Str} {ku : Value}
    (hC : h.get? C = some (excClassObj nm q C N bs bm hdct sn sub ab col dd k0 k1 k2 k3 k5 newId))
    (hq : R (.ok (.ret (.ref (h.objs.size + 1)))) ⟨(h.push { cls := .type "tuple", data := .seq ([] : List Value).toArray }).push
      { cls := .ref C, data := .fields #[.ref h.objs.size, .none, .none, .none, .bool false, .none] }, g, d, t, os⟩) :
    codeAny (model prog w) A (.builtin newId ⟨[.ref C], [(kn, ku)]⟩) R ⟨h, g, d, t, os⟩ := by
  have hends := F.ends
  have hrest : ([] : List Value).length ≤ sizeLine := Nat.zero_le _
  have hcB : (Value.ref C :: bm).contains (.type B) = true := by rw [List.contains_cons, hT, F.hasB, Bool.or_true]
  have hcA : (Value.ref C :: bm).contains (.type "AttributeError") = false := by rw [List.contains_cons, hT, F.noAttr]; rfl
  have hcN : (Value.ref C :: bm).contains (.type "NameError") = false := by rw [List.contains_cons, hT, F.noName]; rfl
  refine codeAny_builtinAt F.entry ?_
  unfold Builtin.«BaseException.__new__»
  refine wpAt_bind ?_
  show wpAt _ _ _ (stack >>= _) _ _ _
  refine wpAt_bind (wpAt_stack fun p below => wpAt_of_wpAny ?_)
  wp_walk
  refine wpAt_of_wpAny ?_
  rw [F.owner]
  repeat (first | with_reducible refine wpAny_madeHere_exc F.canon hC ?_ | with_reducible refine wpAny_loadPart_at hC ?_ | (with_reducible refine wpAny_isSubtype_exc hC ?_; first | rw [hcB] | rw [hcA] | rw [hcN]) | wp_step)
  show R _ _
  rw [Heap.size_push]
  exact hq
theorem bk_type_call (F : ExcBaseFacts B newId initId bmB) (hT : ∀ X : String, bm.contains (.type X) = bmB.contains (.type X)) {kn : Str} {ku : Value} {fI : Addr} {Q : Fin → Shared → Prop}
    (hC : h.get? C = some (excClassObj nm q C N bs bm hdct sn sub ab col dd k0 k1 k2 k3 k5 newId))
    (hi : W.Looks (model prog w) h (typeLookup (.ref C) "__init__") (some (.ref fI))) (hb : ∀ self, W.Looks (model prog w) h (bindSpecial (.ref fI) self) (.ref fI, [self]))
    (hq : codeAny (model prog w) A (.call (.ref fI) ⟨[.ref (h.objs.size + 1)], [(kn, ku)]⟩)
      (fun r s' => match r with | .ok (.ret v) => v = .none ∧ Q (.done (.ret (.ref (h.objs.size + 1)))) s' | .ok _ => False | .error e => E e s')
      ⟨(h.push (W.kdv_tup [])).push (excO C h.objs.size), g, d, t, os⟩) :
    wpAny (model prog w) A (Builtin.«type.__call__» ⟨[.ref C], [(kn, ku)]⟩) Q E ⟨h, g, d, t, os⟩ := by
  repeat (first | with_reducible refine wpAny_loadPart_at hC ?_ | with_reducible refine wpAny_madeBy_exc hC ?_ | wp_step)
  refine codeAny_call_builtin_code (Code.quiet_builtin _ F.quiet) (bk_check_new F hT hC ?_)
  refine bk_new F hT hC ?_
  show wpAny _ _ _ _ _ _
  have k : ∀ b o, h.get? b = some o → ((h.push (W.kdv_tup [])).push (excO C h.objs.size)).get? b = some o := fun b o e => Heap.get?_push_of_some _ (Heap.get?_push_of_some _ e)
  have hC₁ := k _ _ hC
  have hget : ((h.push (W.kdv_tup [])).push (excO C h.objs.size)).get? (h.objs.size + 1) = some (excO C h.objs.size) := by heap_get
  have hcC : (Value.ref C :: bm).contains (.ref C) = true := by simp
  have i1 := hi.keeps k
  have b1 := (hb (.ref (h.objs.size + 1))).keeps k
  unfold isInstance
  repeat (first | with_reducible refine wpAny_loadPart_at hget ?_ | (with_reducible refine wpAny_isSubtype_exc hC₁ ?_; rw [hcC]) | wp_step)
  show wpAny _ _ (typeLookup (.ref C) _) _ _ _
  refine i1.at ?_
  refine wpAny_holding (wpAny_bind (b1.at ?_))
  refine wpAny_bind (wpAny_call (codeAny_mono hq fun r s' z => ?_))
  rcases r with e | (v | _ | _ | _) <;> first | exact z | exact z.elim | skip
  obtain ⟨rfl, z⟩ := z
  first
    | exact wpAny_pure (wpAny_pure z)
    | (wp_walk; exact z)
theorem bk_call_own (F : ExcBaseFacts B newId initId bmB) (hT : ∀ X : String, bm.contains (.type X) = bmB.contains (.type X)) {kn : Str} {ku : Value} {fI : Addr}
    (hC : h.get? C = some (excClassObj nm q C N bs bm hdct sn sub ab col dd k0 k1 k2 k3 k5 newId))
    (hi : W.Looks (model prog w) h (typeLookup (.ref C) "__init__") (some (.ref fI))) (hb : ∀ self, W.Looks (model prog w) h (bindSpecial (.ref fI) self) (.ref fI, [self]))
    (hq : codeAny (model prog w) (A.under (.builtin "type.__call__" ⟨[.ref C], [(kn, ku)]⟩)) (.call (.ref fI) ⟨[.ref (h.objs.size + 1)], [(kn, ku)]⟩) (W.InitBack (h.objs.size + 1) R)
      ⟨(h.push (W.kdv_tup [])).push (excO C h.objs.size), g, d, t, os⟩) :
    codeAny (model prog w) A (.call (.ref C) ⟨[], [(kn, ku)]⟩) R ⟨h, g, d, t, os⟩ := by
  have f1 := tc_lookup
  have f2 := tc_bind (.ref C)
  have hTy : (⟨h, g, d, t, os⟩ : Shared).TypeIs (.ref C) "type" := ⟨_, hC, rfl⟩
  refine codeAny_of_tree ?_
  show wpAny _ _ (callAny (.ref C) _) _ _ _
  repeat (any_goals (first | assumption | with_reducible refine wpAny_loadPart_at hC ?_ | wp_step))
  refine ⟨rfl, ?_⟩
  refine codeAny_call_builtin_at (Code.quiet_builtin _ (by decide +kernel)) entry_typeCall (wpAny_check_type_call_sub hC (bk_type_call F hT hC hi hb ?_))
  refine codeAny_mono hq fun r s' z => ?_
  rcases r with e | (v | _ | _ | _) <;> exact z
end
end HandSPX
end PySem

namespace PySem.W
open PySem PySem.Spec PySem.Calls PyProof.Rows
section
variable {prog : Program} {w : World} {A : Around} {E : Value → Shared → Prop} {s : Shared} {K : Frag} {x D : Addr} {ox : Obj} {od : Option Obj}
theorem bk_kin_class {Q : Option Value → Shared → Prop} (hga : findIn K (.ref D) "__getattribute__" = some (some (.builtin "BaseException.__getattribute__"))) (hgt : findIn K (.ref D) "__getattr__" = some none) (hsub : subIn K (.ref D) (.type "BaseException") = some true)
    (hf : findObj K D od "__class__" = some (.bind (.builtin "getset_descriptor.__get__") (.builtin "object.__class__"))) (hm : mroIn K D (.type "object") = some true)
    (X : K.In s.heap) (I : InstAt s.heap x ox D od) (h : Q (some (.ref D)) { s with toks := s.toks + 1 }) : wpAny (model prog w) A (getAttr? (.ref x) "__class__") Q E s := by
  obtain ⟨hp, g, d, t, os⟩ := s
  have L0 := I.type (M := model prog w)
  have L1 := looks_findIn (M := model prog w) X hga
  have L2 := looks_findIn (M := model prog w) X hgt
  have L3 := looks_find (M := model prog w) X I hf
  have sub : Looks (model prog w) hp (isInstance (.ref x) (.type "BaseException")) true := L0.andThen (looks_subIn X hsub)
  have hx0 : (false && onTheHeap (Value.builtin "BaseException.__getattribute__")) = false := rfl
  have hx2 : (Value.builtin "BaseException.__getattribute__" == Value.builtin "object.__getattribute__") = false := by decide +kernel
  have hx1 : (onTheHeap (Value.ref D) && Value.builtin "BaseException.__getattribute__" == Value.builtin "object.__getattribute__") = false := by rw [hx2]; rfl
  unfold getAttr? getAttrBy? getAttrBy
  refine wpAny_bind (wpAny_mkText (wpAny_bind (wpAny_attempt (wpAny_holding (wpAny_bind (L0.at (wpAny_bind (L1.at ?_))))))))
  show wpAny _ _ (if (onTheHeap (Value.ref D) && Value.builtin "BaseException.__getattribute__" == Value.builtin "object.__getattribute__") = true then _ else _) _ _ _
  rw [hx1, if_neg Bool.false_ne_true]
  unfold getAttrByItsOwn hookBefore
  refine wpAny_bind ?_
  rw [if_pos (show onTheHeap (Value.ref D) = true from rfl)]
  refine L2.at ?_
  refine wpAny_bind (wpAny_attempt (wpAny_holding ?_))
  unfold callGetattribute
  rw [hx0, if_neg Bool.false_ne_true]
  unfold boundAndCalled
  rw [PySem.F.excAttr_ValueError.ga.bind (.ref x)]
  refine wpAny_bind (wpAny_pure ?_)
  show wpAny _ _ (call (.builtin "BaseException.__getattribute__") [.ref x, .str "__class__" t]) _ _ _
  refine wpAny_call (codeAny_call_builtin PySem.F.excAttr_ValueError.ga.plain PySem.F.entry_bexc_ga ?_)
  refine @check_slot (model prog w) _ _ ⟨hp, g, d, t + 1, os⟩ "BaseException.__getattribute__" "BaseException" "__getattribute__" (.ref x) [.str "__class__" t] [] _ (by decide +kernel) (by decide +kernel) sub (PySem.F.args_bexc_ga (.ref x) (.str "__class__" t)) ?_
  unfold Builtin.«object.__getattribute__»
  refine wpAny_bind (wpAny_of_eq (a := ((Value.ref x : Value), [Value.str "__class__" t])) (by first | rfl | (simp only [slotArgs]; rfl)) ?_)
  refine wpAny_bind (wpAny_pure (wpAny_bind (L0.at (wpAny_bind (L3.at ?_)))))
  show wpAny _ _ (holding [Value.builtin "object.__class__"] (call (.builtin "getset_descriptor.__get__") [.builtin "object.__class__", .ref x, .ref D]) >>= ret) _ _ _
  refine wpAny_bind (wpAny_holding (wpAny_call (class_get (s := ⟨hp, g, d, t + 1, os⟩) (ox := ox) (od := od) X I hm ?_)))
  refine wpAny_pure ?_
  show wpAny _ _ (handedOut (.ref D)) _ _ _
  rw [handedOut_of (v := .ref D) rfl]
  first
    | exact wpAny_pure (wpAny_pure h)
    | exact wpAny_pure h
    | exact wpAny_pure (wpAny_bind (wpAny_pure (wpAny_pure h)))
theorem bk_kitx_exc (hga : findIn K (.ref D) "__getattribute__" = some (some (.builtin "BaseException.__getattribute__"))) (hgt : findIn K (.ref D) "__getattr__" = some none) (hsub : subIn K (.ref D) (.type "BaseException") = some true) (hdct : hasDictIn K D = true)
    (hf : findObj K D od "__class__" = some (.bind (.builtin "getset_descriptor.__get__") (.builtin "object.__class__"))) (hm : mroIn K D (.type "object") = some true) :
    KitX K (.ref x) (.ref D) (fun h => InstAt h x ox D od) where
  ty := fun _ _ _ I => I.type
  it := fun _ _ X _ => by
    obtain ⟨cdD, hcD, _⟩ := any_some hdct
    unfold clsIn at hcD
    split at hcD
    · rename_i c' d' cd' sl' ho
      intro A' Q' E' s' k q
      unfold isType loadHead
      exact wpAny_bind (wpAny_loadPart (k _ _ (X _ _ ho)) (wpAny_pure q))
    · cases hcD
  ne := fun h tp dd its n sl X htp => by
    obtain ⟨cdD, hcD, _⟩ := any_some hdct
    refine Bool.eq_false_iff.mpr fun q => ?_
    have e : D = tp := Value.ref.inj (beq_iff_eq.mp q)
    subst e
    unfold clsIn at hcD
    split at hcD
    · rename_i c' d' cd' sl' ho
      have z := (X _ _ ho).symm.trans htp
      cases z
    · cases hcD
  ca := fun X I k => bk_kin_class hga hgt hsub hf hm X I k
end
end PySem.W
namespace Bk
open PySem PySem.Spec PyProof.Rows L2
/-! ### making: by place, by keyword, of nothing -/
/-- C(e, ..) as a value, C's own __init__ keeping sp -/
def tOexV (C : Addr) (sp : Sp) (ta : TA) : TE := fun σ H Q => ta σ H fun vs H1 => vs.length ≤ 1000 ∧ ∀ a, H1 a = none → sp (.ref a :: vs) (upd H1 a (exo a C none)) (fun v H2 => v = .non ∧ Q (.ref a) H2) (fun _ _ _ => False)
/-- C(k = e) as a value -/
def tOexK (C : Addr) (sp : Sp) (tk : TA) : TE := fun σ H Q => tk σ H fun zs H1 => zs.length = 1 ∧ ∀ a, H1 a = none → sp (.ref a :: zs) (upd H1 a (exo a C none)) (fun v H2 => v = .non ∧ Q (.ref a) H2) (fun _ _ _ => False)
section
variable {X : Cx} {CX : CXT} {x : Str} {C fI : Addr} {k : Nat} {fd : FuncData} {ps : List Str} {sp : Sp} {e : Expr} {es : List Expr} {ta tk : TA} {kws : List Keyword} {p pos : Pos} {kn : Str}
theorem pe_oexV (T : OexC X.K C) (iC : PySem.W.findIn X.K (.ref C) "__init__" = some (some (.ref fI))) (tI : PySem.W.typeIn X.K (.ref fI) = some (.type "function"))
    (F1 : FnOk X.prog X.w X.K X.mg X.base CX k fI fd ps sp) (hr : Room (k + 1) X.A) (hb : Binds X.K fd ps []) (hx : Passes CX X (fun _ _ _ => False)) (hg : Gl X x) (hm : X.mg x = some (.ref C)) (ha : PA X (e :: es) ta)
    (hdb : (x == ("__debug__" : Str)) = false := by decide) (he : starEach (e :: es) X.env = (false, eval e X.env) :: starEach es X.env := by rfl) (hpl : (backTo pos (starEach es X.env)).any (·.1) = false := by rfl) :
    PE X (.Call (.Name x p) (e :: es) [] pos) (tOexV C sp ta) := by
  refine ⟨fun pins s σ H Q I h => ?_⟩
  obtain ⟨nm, q, N, bs, bm, sn, sub, ab, col, dd, k0, k1, k2, k3, k5, hC, hbm⟩ := T.cls
  refine wpAny_Call_Name_kw (ld_glob I hg hm ?_ hdb)
  refine PySem.W.callWith_K (h₀ := X.base) I.ok.mod.kin T.kC (thn (ha.run pos pins s σ H _ I h) fun us s1 ⟨vs, H1, I1, r1, hz, q1⟩ => ⟨I1.kIn, ?_⟩) he hpl
  show wpAny _ _ (call (.ref C) us) _ _ _
  obtain ⟨hp, g, dr, tk, os⟩ := s1
  have hsz : hp.objs.size ≤ hp.objs.size + 1 := Nat.le_succ _
  have hn : H1 (hp.objs.size + 1) = none := I1.hok.fresh hsz
  have hq := q1 (hp.objs.size + 1) hn
  have kk : ∀ b o, hp.get? b = some o → ((hp.push (PySem.W.kdv_tup us)).push (PySem.HandSPX.excO C hp.objs.size)).get? b = some o := fun b o e => Heap.get?_push_of_some _ (Heap.get?_push_of_some _ e)
  have hget : ((hp.push (PySem.W.kdv_tup us)).push (PySem.HandSPX.excO C hp.objs.size)).get? (hp.objs.size + 1) = some (PySem.HandSPX.excO C hp.objs.size) := by heap_get
  have I2 : Inv X pins σ (upd H1 (hp.objs.size + 1) (exo (hp.objs.size + 1) C none)) ⟨(hp.push (PySem.W.kdv_tup us)).push (PySem.HandSPX.excO C hp.objs.size), g, dr, tk, os⟩ :=
    I1.laid (t' := tk) (a := hp.objs.size + 1) (o := exo (hp.objs.size + 1) C none) (h' := (hp.push (PySem.W.kdv_tup us)).push (PySem.HandSPX.excO C hp.objs.size)) kk hsz (exo_ok hget)
  have r2 : Vals (V.ref (hp.objs.size + 1) :: vs) (Value.ref (hp.objs.size + 1) :: us) := .cons rfl r1
  have hl : (Value.ref (hp.objs.size + 1) :: us ++ []).length = ps.length := by
    rw [List.append_nil]
    have e := r2.length
    rw [F1.len _ _ _ _ hq] at e
    exact e.symm
  have hus : us.length ≤ sizeLine := by
    rw [← Paired.length r1, sizeLine_eq]
    omega
  refine wpAny_call (PySem.HandSPX.call_own F.excBase_ValueError (fun Y => PySem.HandSPX.refsVE_contains Y bm hbm) (I1.kIn _ _ hC) (PySem.W.looks_findIn I1.kIn iC) (fun self => PySem.W.bind_fn I1.kIn self tI) hus
    (codeAny_mono (F1.run _ X.stack _ _ ⟨Value.ref (hp.objs.size + 1) :: us, []⟩ (Value.ref (hp.objs.size + 1) :: us) _ _ (fun _ _ _ => False) (hr.make C us []) (I2.env0.make C us []) (by have z := hb _ (Value.ref (hp.objs.size + 1) :: us) I2.kIn hl; rw [List.append_nil] at z; exact z) r2 hq) fun r s' hq' => ?_))
  cases r with
  | error er => exact hx pins σ _ _ er s' I2 hq'
  | ok fl =>
    cases fl with
    | ret u =>
      obtain ⟨v, H2, I3, rv, ev, q3⟩ := I2.after hq'
      subst ev
      exact ⟨rv, ⟨V.ref (hp.objs.size + 1), H2, I3, rfl, q3⟩⟩
    | next => exact False.elim hq'
    | brk => exact False.elim hq'
    | cont => exact False.elim hq'
theorem pe_oexK (T : OexC X.K C) (iC : PySem.W.findIn X.K (.ref C) "__init__" = some (some (.ref fI))) (tI : PySem.W.typeIn X.K (.ref fI) = some (.type "function"))
    (F1 : FnOk X.prog X.w X.K X.mg X.base CX k fI fd ps sp) (hr : Room (k + 1) X.A) (hb : ∀ (s : Shared) (a v : Value), X.K.In s.heap → BindsTo s fd ⟨[a], [(kn, v)]⟩ (ps.zip [a, v])) (hx : Passes CX X (fun _ _ _ => False)) (hg : Gl X x) (hm : X.mg x = some (.ref C)) (hkw : PK X kws tk)
    (hall : (backToKw pos (keywordEach kws X.env)).all (·.1.isSome) = true := by rfl) (hks : (backToKw pos (keywordEach kws X.env)).filterMap (·.1) = [kn] := by rfl) (hdb : (x == ("__debug__" : Str)) = false := by decide)
    (hpl : ((backTo pos (starEach [] X.env)).any (·.1) || (backToKw pos (keywordEach kws X.env)).any (·.1.isNone)) = false := by rfl) :
    PE X (.Call (.Name x p) [] kws pos) (tOexK C sp tk) := by
  refine ⟨fun pins s σ H Q I h => ?_⟩
  obtain ⟨nm, q, N, bs, bm, sn, sub, ab, col, dd, k0, k1, k2, k3, k5, hC, hbm⟩ := T.cls
  refine wpAny_Call_Name_kw (ld_glob I hg hm ?_ hdb)
  refine PySem.W.callWith_KW0 (h₀ := X.base) I.ok.mod.kin T.kC hall ?_ hpl
  refine thn (hkw.run pos pins s σ H _ I h) fun us s1 ⟨zs, H1, I1, r1, hz, q1⟩ => ⟨I1.kIn, ?_⟩
  rw [hks]
  cases r1 with
  | nil => cases hz
  | @cons z0 u0 zr ur rz rr =>
  cases rr with
  | cons _ _ => cases hz
  | nil =>
  show wpAny _ _ (call (.ref C) [] [(kn, u0)]) _ _ _
  obtain ⟨hp, g, dr, tk, os⟩ := s1
  have hsz : hp.objs.size ≤ hp.objs.size + 1 := Nat.le_succ _
  have hn : H1 (hp.objs.size + 1) = none := I1.hok.fresh hsz
  have hq := q1 (hp.objs.size + 1) hn
  have kk : ∀ b o, hp.get? b = some o → ((hp.push (PySem.W.kdv_tup [])).push (PySem.HandSPX.excO C hp.objs.size)).get? b = some o := fun b o e => Heap.get?_push_of_some _ (Heap.get?_push_of_some _ e)
  have hget : ((hp.push (PySem.W.kdv_tup [])).push (PySem.HandSPX.excO C hp.objs.size)).get? (hp.objs.size + 1) = some (PySem.HandSPX.excO C hp.objs.size) := by heap_get
  have I2 : Inv X pins σ (upd H1 (hp.objs.size + 1) (exo (hp.objs.size + 1) C none)) ⟨(hp.push (PySem.W.kdv_tup [])).push (PySem.HandSPX.excO C hp.objs.size), g, dr, tk, os⟩ :=
    I1.laid (t' := tk) (a := hp.objs.size + 1) (o := exo (hp.objs.size + 1) C none) (h' := (hp.push (PySem.W.kdv_tup [])).push (PySem.HandSPX.excO C hp.objs.size)) kk hsz (exo_ok hget)
  have r2 : Vals [V.ref (hp.objs.size + 1), z0] [Value.ref (hp.objs.size + 1), u0] := .cons rfl (.cons rz .nil)
  refine wpAny_call (PySem.HandSPX.bk_call_own F.excBase_ValueError (fun Y => PySem.HandSPX.refsVE_contains Y bm hbm) (I1.kIn _ _ hC) (PySem.W.looks_findIn I1.kIn iC) (fun self => PySem.W.bind_fn I1.kIn self tI)
    (codeAny_mono (F1.run _ X.stack _ _ ⟨[Value.ref (hp.objs.size + 1)], [(kn, u0)]⟩ [Value.ref (hp.objs.size + 1), u0] _ _ (fun _ _ _ => False) (hr.make C [] [(kn, u0)]) (I2.env0.make C [] [(kn, u0)]) (hb _ _ _ I2.kIn) r2 hq) fun r s' hq' => ?_))
  cases r with
  | error er => exact hx pins σ _ _ er s' I2 hq'
  | ok fl =>
    cases fl with
    | ret u =>
      obtain ⟨v, H2, I3, rv, ev, q3⟩ := I2.after hq'
      subst ev
      exact ⟨rv, ⟨V.ref (hp.objs.size + 1), H2, I3, rfl, q3⟩⟩
    | next => exact False.elim hq'
    | brk => exact False.elim hq'
    | cont => exact False.elim hq'
/-- C(), an own exception class without an own __init__ -/
theorem pe_exc0 {bmB : List Value} {B newId initId : String} (F : ExcBaseFacts B newId initId bmB) (q : PySem.W.excIn X.K C bmB newId = true) (gC : X.mg x = some (.ref C)) (kC : PySem.W.keepIn X.K (.ref C) = true) (hg : Gl X x)
    (hdb : (x == ("__debug__" : Str)) = false := by decide) :
    PE X (.Call (.Name x p) [] [] pos) (fun σ H Q => ∀ a, H a = none → Q (.ref a) (upd H a (ExO (.ref C) a))) := by
  refine ⟨fun pins s σ H Q I h => ?_⟩
  refine wpAny_Call_Name_kw (ld_glob I hg gC ?_ hdb)
  refine PySem.W.callWith_K0 I.kIn kC ?_
  show wpAny _ _ (call (.ref C) []) _ _ _
  obtain ⟨bm, N, nm, qn, bs, hdct, sn, sub, ab, col, dd, k0, k1, k2, k3, k5, mN, hC, hN, hni, T⟩ := exc_obj I.kIn q
  refine wpAny_call_exc_subT F T hC hN hni (fun h' a hm => ?_) (Nat.zero_le _)
  have hn : H a = none := I.hok.gone hm.new
  obtain ⟨t, ht, _, _⟩ := hm.there
  exact ⟨.ref a, upd H a (ExO (.ref C) a), I.laidN hm.keeps hm.new hn (exO_ok ht ⟨rfl, rfl⟩ rfl rfl rfl (show 4 < 6 by decide)), rfl, h a hn⟩
end
/-! ### an exception that stands -/
/-- at a stands an exception of the class at C -/
def ExV (H : Hp) (a C : Addr) : Prop := H a = some (exo a C none) ∨ (∃ d fs, H a = some (exo a C (some d)) ∧ H d = some (exd d fs)) ∨ H a = some (ExO (.ref C) a)
theorem ExV.same {H H' : Hp} {a C : Addr} (x : ExV H a C) (e : ∀ b o, H b = some o → H' b = some o) : ExV H' a C := by
  rcases x with x | ⟨d, fs, x, y⟩ | x
  · exact .inl (e _ _ x)
  · exact .inr (.inl ⟨d, fs, e _ _ x, e _ _ y⟩)
  · exact .inr (.inr (e _ _ x))
theorem ExV.inst {P : Program} {w : World} {H : Hp} {h : Heap} {a C : Addr} (x : ExV H a C) (ok : HOk P w H h) : ∃ ox od, PySem.W.InstAt h a ox C od := by
  rcases x with x | ⟨d, fs, x, y⟩ | x
  · obtain ⟨t1, ho⟩ := exo_at ok x
    exact ⟨_, none, ho, rfl, rfl, trivial⟩
  · obtain ⟨t1, ho⟩ := exo_at ok x
    obtain ⟨mA, hn, _⟩ := exd_at ok y
    obtain ⟨od, hd, _⟩ := lookIn_ns hn
    exact ⟨_, some od, ho, rfl, rfl, hd⟩
  · obtain ⟨⟨oe, vs, ho, hz, hv, _⟩, _, _⟩ := (show ObjOk P w H h a (.ext fun h => ∃ (oe : Obj) (vs : Array Value), h.get? a = some oe ∧ Zc (.ref C) none oe ∧ oe.data = .fields vs ∧ vs[1]? = some .none ∧ vs[2]? = some .none ∧ 4 < vs.size) from ok a _ x)
    obtain ⟨oc, o1, o2, osl⟩ := oe
    obtain ⟨h1, h2⟩ := hz
    dsimp only at h1 h2 hv
    subst h1 h2 hv
    exact ⟨_, none, ho, rfl, rfl, trivial⟩
/-- isinstance(e, c), e such an exception -/
def rIsX (K : PySem.W.Frag) : List V → Hp → VK → Prop := fun xs H Q => ∃ (a C : Addr) (c : V) (u : Value) (b : Bool), xs = [.ref a, c] ∧ ExV H a C ∧ ExcC K C ∧ ClsV c u ∧ PySem.W.kitOne K (.ref C) u = some b ∧ Q (.bl b) H
theorem call_isX {X : Cx} {K : PySem.W.Frag} (eK : X.K = K) : CallR X (.builtin "isinstance") (rIsX K) := by
  subst eK
  intro pins s σ H xs us Q I r h
  obtain ⟨a, C, c, u, b, rfl, at_, T, k, e, q⟩ := h
  obtain ⟨u1, u2, rfl, r1, r2⟩ := vals2 r
  have e2 := k.eq r2
  subst e2
  cases (show u1 = Value.ref a from r1)
  obtain ⟨ox, od, J⟩ := at_.inst I.hok
  have hcl : (PySem.W.clsIn X.K C).isSome = true := by obtain ⟨cd, hc, _⟩ := PySem.W.any_some T.hd; rw [hc]; rfl
  have hf : PySem.W.findObj X.K C od "__class__" = some (.bind (.builtin "getset_descriptor.__get__") (.builtin "object.__class__")) := by
    cases od with
    | none => exact PySem.W.findObj_dataN hcl T.ha T.hn T.ht
    | some od => exact PySem.W.findObj_data hcl T.ha T.hn T.ht
  exact PySem.W.kia_one (PySem.W.bk_kitx_exc T.hg T.hk T.hs T.hd hf T.hm) I.kIn J e (fun z => nomatch z) fun tk => ⟨.bl b, H, I.tok tk, rfl, q⟩
/-- e.f, e such an exception, f set by its own __init__ -/
def tXfV (K : PySem.W.Frag) (f : Str) (te : TE) : TE := fun σ H Q => te σ H fun x H1 => ∃ (a C d : Addr) (fs : List (Str × V)) (v : V), x = .ref a ∧ H1 a = some (exo a C (some d)) ∧ H1 d = some (exd d fs) ∧ XfC K C ∧ PySem.W.findIn K (.ref C) f = some none ∧ fs.lookup f = some v ∧ Q v H1
theorem pe_xfV {X : Cx} {K : PySem.W.Frag} {e : Expr} {te : TE} {pos : Pos} {n : Str} (eK : X.K = K) (he : PE X e te) (hb : attributeBase e n X.env (eval e X.env) = eval e X.env := by rfl) : PE X (.Attribute e n pos) (tXfV K n te) := by
  subst eK
  refine ⟨fun pins s σ H Q I h => ?_⟩
  refine attr_of hb (thn (he.run pins s σ H _ I h) fun u s1 hh => ?_)
  obtain ⟨x, H1, I1, rx, a, C, d, fs, v, ex, ea, ed, T, hno, l, q⟩ := hh
  subst ex
  obtain rfl : u = Value.ref a := rx
  obtain ⟨t1, ho⟩ := exo_at I1.hok ea
  obtain ⟨mA, hns, hr⟩ := exd_at I1.hok ed
  obtain ⟨od, hod, hl⟩ := lookIn_ns hns
  obtain ⟨u, hu, ru⟩ := RelO.some_of (v := v) (o := mA n) (by rw [← l]; exact hr n)
  have J : PySem.W.InstAt s1.heap a ({ cls := .ref C, dict := some d, data := .fields #[.ref t1, .none, .none, .none, .bool false, .none] } : Obj) C (some od) := ⟨ho, rfl, rfl, hod⟩
  exact HandSPX.exc_get I1.kIn J T.ga T.gg T.exC (PySem.W.findObj_own T.hdC hno rfl (by rw [hl, hu])) (handed_of ru) ⟨v, H1, I1.tok _, ru, q⟩
end Bk

/-! a lambda that captures nothing, kept as a value and called later -/
namespace Bk
open PySem PySem.Spec PyProof.Rows L2 LamX NdefX
/-- all but the tables stay, and nothing that was tracked is gone -/
structure ExtM (H H' : Hp) : Prop where
  ext : ExtN H H'
  non : ∀ b, H' b = none → H b = none
theorem ExtM.trans {H H1 H2 : Hp} (a : ExtM H H1) (b : ExtM H1 H2) : ExtM H H2 := ⟨a.ext.trans b.ext, fun c e => a.non c (b.non c e)⟩
theorem ExtM.of {H H' : Hp} (e : ∀ b o, H b = some o → H' b = some o) : ExtM H H' := ⟨ExtN.of e, fun b n => by
  cases q : H b with
  | none => rfl
  | some o => rw [e b o q] at n; cases n⟩
theorem ExtM.grow {H H' : Hp} {D : Addr} {o : HO} (a : ExtM H H') (n : H D = none) : ExtM H (upd H' D o) := ⟨fun b u hb k => by
  rw [upd_ne (ne_of_none hb n)]
  exact a.ext b u hb k, fun b e => a.non b (upd_none e)⟩
/-- its words, its code object -/
structure LF where
  qual : Str
  params : Arguments
  body : Expr
  scope : Scope
  cl : List (Str × Addr)
  c : Addr
/-- the object at f is this lambda -/
def LamO (f : Addr) (F : LF) : HO := .ext fun h => ∃ pm ctv : Value, h.get? f = some (PySem.W.kla_obj "<lambda>" F.qual F.params F.body F.scope F.cl pm F.c ctv)
/-- as a nested def without a body: for the context -/
def LF.nf (F : LF) : NF := ⟨"<lambda>", F.qual, F.params, [], F.scope, F.cl, F.c⟩
theorem lamO_ne {f : Addr} {F : LF} (ps : Array Value) : LamO f F ≠ .tbl ps := fun z => by
  unfold LamO at z
  cases z
theorem lamO_at {P : Program} {w : World} {H : Hp} {h : Heap} {f : Addr} {F : LF} (hok : HOk P w H h) (e : H f = some (LamO f F)) : ∃ pm ctv : Value, h.get? f = some (PySem.W.kla_obj "<lambda>" F.qual F.params F.body F.scope F.cl pm F.c ctv) := by
  obtain ⟨z, _, _⟩ := hok f _ e
  exact z
section
variable {X : Cx} {pins : List (Addr × Obj)} {σ : L2.St} {H : Hp} {s : Shared}
theorem inv_lam {F : LF} {o : Obj} {t' : Nat} {pm ctv : Value} (I : Inv X pins σ H s) (ho : o = PySem.W.kla_obj "<lambda>" F.qual F.params F.body F.scope F.cl pm F.c ctv) :
    Inv X pins σ (upd H s.heap.objs.size (LamO s.heap.objs.size F)) { s with heap := s.heap.push o, toks := t' } := by
  subst ho
  refine I.laid (a := s.heap.objs.size) (fun b u e => Heap.get?_push_of_some _ e) (Nat.le_refl _) ?_
  have e : (s.heap.push (PySem.W.kla_obj "<lambda>" F.qual F.params F.body F.scope F.cl pm F.c ctv)).get? s.heap.objs.size = some (PySem.W.kla_obj "<lambda>" F.qual F.params F.body F.scope F.cl pm F.c ctv) := Heap.get?_push_size _ rfl
  exact ⟨⟨pm, ctv, e⟩, ⟨_, e⟩, fun h1 h2 ⟨p, t, z⟩ st => ⟨p, t, st _ z⟩⟩
/-- the lambda is made: its code object is new, or found in the table -/
theorem lam_make3 {T : List (Addr × Str)} {c P : Addr} {params : Arguments} {body : Expr} {scope : Scope} {pos : Pos} {E : Value → Shared → Prop} {Q : Value → Shared → Prop} (I : Inv X pins σ H s) (TB : TabB X.base X.mg c P) (hcode : X.env.code = .ref c)
    (hm : (P, X.env.qual ++ "<lambda>") ∈ T) (hu : ∀ p ∈ T, p.1 = P → p.2 = X.env.qual ++ "<lambda>") (hT : Tabs T H) (hdef : defaultsOf params X.env = ([], [])) (hfree : ∀ y ∈ scope.names, y.2 = .free → ∃ c, X.env.cells.lookup y.1 = some c)
    (h : ∀ (f c' : Addr) (H1 : Hp) (s' : Shared), Inv X pins σ H1 s' → ExtM H H1 → Tabs T H1 → H f = none → H1 f = some (LamO f ⟨X.env.qual ++ "<lambda>", params, body, scope, cloFrom X.env.cells scope.names [], c'⟩) → H1 c' = some (CodeO c' (X.env.qual ++ "<lambda>")) → Q (.ref f) s') :
    wpAny (model X.prog X.w) X.A (eval (.Lambda params body scope pos) X.env) Q E s := by
  obtain ⟨ps, hP, ht, ha⟩ := hT _ hm
  refine PySem.W.kla_eval hdef ?_
  have bP : s.heap.BuiltinsAt X.mg P := TB.bm.keeps I.bk
  have hP' : s.heap.get? P = some { cls := .none, data := .fields ps } := I.hok P _ hP
  cases hc : codeAmong pos ps.toList with
  | none =>
    refine PySem.W.kla_makeFunction (mg := X.mg) (c := c) (P := P) (ps := ps) (closure_ok hfree) I.ok.glob (I.mod.glob.keeps I.bk) hcode (TB.code.keeps I.bk) hP' ht hc TB.gP bP fun c' ctv h' tk hx hge hlt hrec htb => ?_
    obtain ⟨c2, oc, vs, t, e2, hoc, hd, hv⟩ := hrec
    cases e2
    have nC : H c' = none := I.hok.fresh hge
    have I1 := inv_table (t' := tk) (more := #[rawInt pos.line, rawInt pos.col, .ref c']) (h' := h') I hP (fun b o hb e => hx b o hb e) htb hge ⟨oc, vs, t, hoc, hd, hv⟩
    have hE : ExtN H (upd (upd H P (.tbl (ps ++ #[rawInt pos.line, rawInt pos.col, .ref c']))) c' (CodeO c' (X.env.qual ++ "<lambda>"))) := fun b o e n => by
      rw [upd_ne (ne_of_none e nC), upd_ne (fun z => n ps (Option.some.inj (e.symm.trans (by rw [z]; exact hP))))]
      exact e
    have eL : (ps ++ #[rawInt pos.line, rawInt pos.col, .ref c']).toList = ps.toList ++ [rawInt pos.line, rawInt pos.col, .ref c'] := by simp
    have T1 : Tabs T (upd (upd H P (.tbl (ps ++ #[rawInt pos.line, rawInt pos.col, .ref c']))) c' (CodeO c' (X.env.qual ++ "<lambda>"))) := fun p hp => by
      by_cases hb : p.1 = P
      · rw [hu p hp hb, hb]
        refine ⟨_, by rw [upd_ne (ne_of_none hP nC), upd_same], by rw [eL]; exact PySem.TriplesOk_snoc _ _ _ _ ht, fun p' cv hcv => ?_⟩
        rw [eL] at hcv
        rcases among_app _ ht hcv with z | z
        · obtain ⟨c0, e1, e2⟩ := ha p' cv z
          exact ⟨c0, e1, hE _ _ e2 codeO_ne⟩
        · exact ⟨c', z, upd_same⟩
      · obtain ⟨ps', a1, a2, a3⟩ := hT p hp
        refine ⟨ps', by rw [upd_ne (ne_of_none a1 nC), upd_ne hb]; exact a1, a2, fun p' cv hcv => ?_⟩
        obtain ⟨c0, e1, e2⟩ := a3 p' cv hcv
        exact ⟨c0, e1, hE _ _ e2 codeO_ne⟩
    have nF := I1.hok.fresh (Nat.le_refl _)
    have I2 := inv_lam (F := ⟨X.env.qual ++ "<lambda>", params, body, scope, cloFrom X.env.cells scope.names [], c'⟩) (t' := tk) (pm := (X.mg "__name__").getD .none) (ctv := ctv) I1 rfl
    refine h h'.objs.size c' _ _ I2 ⟨fun b o e n => ?_, fun b e => upd_none (upd_none (upd_none e))⟩ (T1.ext fun b o e => ?_) (I.hok.fresh (Nat.le_trans hge (Nat.le_of_lt hlt))) upd_same ?_
    · have e1 := hE b o e n
      exact (upd_ne (ne_of_none e1 nF)).trans e1
    · exact (upd_ne (ne_of_none e nF)).trans e
    · exact (upd_ne (Nat.ne_of_lt hlt)).trans upd_same
  | some cv =>
    obtain ⟨c', e, hco⟩ := ha pos cv hc
    subst e
    refine PySem.W.kla_makeFunctionHit (mg := X.mg) (c := c) (P := P) (ps := ps) (closure_ok hfree) I.ok.glob (I.mod.glob.keeps I.bk) hcode (TB.code.keeps I.bk) hP' ht hc bP fun ctv h' tk hx hsz => ?_
    have I1 : Inv X pins σ H { s with heap := h', toks := tk } := I.kept hx
    have nF : H h'.objs.size = none := I1.hok.fresh (Nat.le_refl _)
    have I2 := inv_lam (F := ⟨X.env.qual ++ "<lambda>", params, body, scope, cloFrom X.env.cells scope.names [], c'⟩) (t' := tk) (pm := (X.mg "__name__").getD .none) (ctv := ctv) I1 rfl
    refine h h'.objs.size c' _ _ I2 ⟨fun b o e n => ?_, fun b e => upd_none e⟩ (hT.ext fun b o e => ?_) nF upd_same ?_
    · exact (upd_ne (ne_of_none e nF)).trans e
    · exact (upd_ne (ne_of_none e nF)).trans e
    · exact (upd_ne (ne_of_none hco nF)).trans hco
/-- a lambda as a value -/
def tLamV (T : List (Addr × Str)) (mk : Addr → LF) : TE := fun σ H Q => Tabs T H ∧ ∀ (f c' : Addr) (H1 : Hp), ExtM H H1 → Tabs T H1 → H f = none → H1 f = some (LamO f (mk c')) → H1 c' = some (CodeO c' (mk c').qual) → Q (.ref f) H1
/-- no parameter's default, no captured name -/
structure LamN (scope : Scope) : Prop where
  free : ∀ y ∈ scope.names, y.2 ≠ .free
def lamNB (scope : Scope) : Bool := scope.names.all fun y => !decide (y.2 = .free)
theorem lamN_by {scope : Scope} (h : lamNB scope = true) : ∀ y ∈ scope.names, y.2 ≠ .free := by
  unfold lamNB at h
  simp only [Bool.not_eq_true', decide_eq_false_iff_not, List.all_eq_true] at h
  exact h
theorem clo_nil {cells : List (Str × Addr)} {names : List (Str × NameKind)} (h : ∀ y ∈ names, y.2 ≠ .free) : cloFrom cells names [] = [] := by
  cases e : cloFrom cells names [] with
  | nil => rfl
  | cons a r =>
    have m : a ∈ cloFrom cells names [] := by rw [e]; exact List.mem_cons_self
    rcases cloFrom_mem (n := a.1) (c := a.2) m with z | ⟨z, _⟩
    · cases z
    · exact absurd rfl (h _ z)
theorem pe_lam {T : List (Addr × Str)} {c P : Addr} {q : Str} {params : Arguments} {body : Expr} {scope : Scope} {pos : Pos} (eq : X.env.qual ++ "<lambda>" = q) (TB : TabB X.base X.mg c P) (hcode : X.env.code = .ref c) (hm : (P, q) ∈ T) (hu : ∀ p ∈ T, p.1 = P → p.2 = q)
    (hdef : defaultsOf params X.env = ([], []) := by rfl) (hn : lamNB scope = true := by decide +kernel) : PE X (.Lambda params body scope pos) (tLamV T fun c' => ⟨q, params, body, scope, [], c'⟩) := by
  subst eq
  refine ⟨fun pins s σ H Q I h => ?_⟩
  have hf := lamN_by hn
  refine lam_make3 I TB hcode hm hu h.1 hdef (fun y hy e => absurd e (hf y hy)) fun f c' H1 s' I1 e1 t1 n1 l1 c1 => ?_
  rw [clo_nil hf] at l1
  exact ⟨.ref f, H1, I1, rfl, h.2 f c' H1 e1 t1 n1 l1 c1⟩
end
/-! ### the call -/
structure LOk (P : Program) (w : World) (K : PySem.W.Frag) (mg : Str → Option Value) (base : Heap) (CX : CXT) (k : Nat) (f : Addr) (F : LF) (sp : Sp) : Prop where
  run : ∀ (A : Around) (outer : List Env) (s : Shared) (H : Hp) (us : List Value) (vs : List V) (Q : VK) (E : XK), Room k A → Env0 P w K mg base A outer s H → H f = some (LamO f F) → H F.c = some (CodeO F.c F.qual) →
    Vals vs us → sp vs H Q E → codeAny (model P w) A (.call (.ref f) ⟨us, []⟩) (CR CX outer P w H s Q E) s
section
variable {CX : CXT} {P : Program} {w : World} {K : PySem.W.Frag} {mg : Str → Option Value} {base : Heap} {N ps : List Str} {F : LF} {f : Addr} {k : Nat} {sp : Sp}
theorem lok_of (S : NScope N ps [] F.scope) (hcl : F.cl = []) (hb : ∀ (pm ctv : Value) (us : List Value), us.length = ps.length → bindArgs (PySem.W.kla_fn "<lambda>" F.qual F.params F.body F.scope F.cl pm (.ref F.c) ctv) ⟨us, []⟩ = pure (ps.zip us)) (len : ∀ vs H Q E, sp vs H Q E → vs.length = ps.length)
    (hbody : ∀ (A : Around) (outer : List Env) (s : Shared) (H : Hp) (vs : List V) (Q : VK) (E : XK), Room k (A.deeper (envF F.nf f s.heap.objs.size)) → sp vs H Q E → ∃ t, PE (ncx CX P w K mg base N F.nf f A outer s H E) F.body t ∧ t (startF N vs []) H Q) :
    LOk P w K mg base CX (k + 1) f F sp := by
  refine ⟨fun A outer s H us vs Q E hr e0 hf hc r hsp => ?_⟩
  have hl := len _ _ _ _ hsp
  have lim : s.heap.NoLimit := e0.mod.nolimit.keeps fun b o e => (e0.bs b o e).1
  obtain ⟨pm, ctv, ho⟩ := lamO_at e0.hok hf
  refine PySem.W.kla_callFunE hr.depth ho rfl S.co S.gen rfl (codeO_at e0.hok hc) ?_
  rw [hb pm ctv us (by rw [← r.length]; exact hl)]
  refine wpAny_pure (wpAny_newFunctionEnv S.nocell (fun ⟨n, _⟩ hy => S.par n (List.of_mem_zip hy).1) (fun h₁ hns hsb => ⟨lim.fresh _ hsb, ?_⟩) S.kind)
  show codeAny _ _ (.expr F.body (envF F.nf f s.heap.objs.size)) _ _
  have kp : ∀ b o, s.heap.get? b = some o → h₁.get? b = some o := fun b o e => hsb.extBut b o (Nat.ne_of_lt (Heap.lt_size e)) (Heap.get?_push_of_some _ e)
  obtain ⟨t, ht, hq⟩ := hbody A outer s H vs Q E (hr.deeper _) hsp
  have C : CellsAt F.nf.cl [] [] s.heap H := by
    refine ⟨rfl, fun y c e => ?_, fun x y c e1 e2 => ?_, fun i y e => ?_⟩
    · have e : F.cl.lookup y = some c := e
      rw [hcl] at e
      cases e
    · have e1 : F.cl.lookup x = some c := e1
      rw [hcl] at e1
      cases e1
    · simp at e
  have I : Inv (ncx CX P w K mg base N F.nf f A outer s H E) [] (startF N vs []) H { s with heap := h₁, toks := s.toks + (ps.zip us).length } := inv_startN (F := F.nf) (ps := ps) (fr := []) S hr.hd e0 hl r C hns kp
  refine PySem.W.kla_codeExpr (wpAny_mono (ht.run [] _ (startF N vs []) H Q I hq) (fun v s' hq => ?_) fun e s' hq => hq)
  obtain ⟨w', H', J', rv, q⟩ := hq
  exact ⟨w', H', J'.os, J'.bare, J'.base, J'.hok, rv, q⟩
end
/-- x(e, ..), x a local name that holds such a lambda -/
def tCallL (P : Program) (w : World) (K : PySem.W.Frag) (mg : Str → Option Value) (base : Heap) (CX : CXT) (k i : Nat) (E : XK) (t : TA) : TE := fun σ H Q => ∃ (f : Addr) (F0 : LF), σ[i]? = some (some (.ref f)) ∧ H f = some (LamO f F0) ∧
  t σ H fun vs H1 => ∃ (F : LF) (sp : Sp), H1 f = some (LamO f F) ∧ H1 F.c = some (CodeO F.c F.qual) ∧ LOk P w K mg base CX k f F sp ∧ sp vs H1 Q E
section
variable {X : Cx} {CX : CXT} {i j k : Nat} {x : Str} {E : XK} {t : TA} {e : Expr} {es : List Expr} {p pos : Pos}
theorem lamAt_of {pins : List (Addr × Obj)} {σ : L2.St} {H : Hp} {s : Shared} {f : Addr} {F : LF} (I : Inv X pins σ H s) (e : H f = some (LamO f F)) : PySem.W.FnAt f s.heap := by
  obtain ⟨pm, ctv, ho⟩ := lamO_at I.hok e
  exact ⟨_, none, _, #[], ho⟩
theorem pe_callL (hr : Room j X.A) (hk : k ≤ j) (hx : Passes CX X E) (hN : X.N[i]? = some x) (hv : Vis X.env.scope x) (ha : PA X (e :: es) t)
    (hd : (x == ("__debug__" : Str)) = false := by decide) (hcd : (x == ("__classdict__" : Str)) = false := by decide)
    (he : starEach (e :: es) X.env = (false, eval e X.env) :: starEach es X.env := by rfl) (hpl : (backTo pos (starEach es X.env)).any (·.1) = false := by rfl) :
    PE X (.Call (.Name x p) (e :: es) [] pos) (tCallL X.prog X.w X.K X.mg X.base CX k i E t) := by
  refine ⟨fun pins s σ H Q I h => ?_⟩
  obtain ⟨f, F0, hs, hf, ht⟩ := h
  refine wpAny_Call_Name_kw (thn ((pe_var (pos := p) hN hv hd hcd).run pins s σ H (fun v H1 => v = .ref f ∧ H1 = H) I ⟨.ref f, hs, rfl, rfl⟩) fun u s1 ⟨v, H1, I1, r1, q1⟩ => ?_)
  obtain ⟨ev, eH⟩ := q1
  subst ev
  rw [eH] at I1
  obtain rfl : u = Value.ref f := r1
  refine PySem.W.callWith_F (first := []) (lamAt_of I1 hf) (thn (ha.run pos pins s1 σ H _ I1 ht) fun us s2 ⟨vs, H2, I2, r, F, sp, h1, h2, L, q⟩ => ⟨lamAt_of I2 h1, ?_⟩) he hpl
  show wpAny _ _ (call (.ref f) us) _ _ _
  refine wpAny_call (codeAny_mono (L.run X.A X.stack s2 H2 us vs Q E (hr.mono hk) I2.env0 h1 h2 r q) fun r s' hq => ?_)
  cases r with
  | error e => exact hx pins σ H2 s2 e s' I2 hq
  | ok fl =>
    cases fl with
    | ret u => exact I2.after hq
    | next => exact False.elim hq
    | brk => exact False.elim hq
    | cont => exact False.elim hq
end
end Bk

namespace Bk
open PySem PySem.Spec PyProof.Rows L2
/-- either of two readings of what is walked -/
theorem pi_or {X : Cx} {tg l : Expr} {w1 w2 : TI} (h1 : PI X tg l w1) (h2 : PI X tg l w2) : PI X tg l (fun σ H R => w1 σ H R ∨ w2 σ H R) := ⟨fun pins s σ H R I h => h.elim (h1.run pins s σ H R I) (h2.run pins s σ H R I)⟩
/-- dict(pairs), K told -/
def rDictP (K : PySem.W.Frag) : List V → Hp → VK → Prop := fun xs H Q => ∃ (a : Addr) (ps : List Addr) (kvs : List (Key × V)), xs = [.ref a] ∧ SqL K H a (ps.map V.ref) ∧ Paired (fun p kv => SqT K H p [kV kv.1, kv.2]) ps kvs ∧ ∀ p, H p = none → Q (.ref p) (upd H p (.dK (mergeK [] kvs)))
theorem kDictP {X : Cx} {K : PySem.W.Frag} (hc : X.calm = true) (e : X.K = K := by rfl) : CallR X (.type "dict") (rDictP K) := e ▸ call_dictP hc
end Bk

/-! the pairs of a dict whose keys are tuples, walked -/
namespace Bk
open PySem PySem.Spec PyProof.Rows L2
/-- each pair a new tuple of the key's own tuple and the value -/
def Itit (d : Addr) (o : Obj) (kvs : List (List Key × V)) : It :=
  ⟨fun i H => H d = some (.frz o (.dT kvs)) ∧ i < kvs.length, fun i H x H' => ∃ (T : Addr) (k : List Key) (v : V) (q : Addr), kvs[i]? = some (k, v) ∧ H q = some (.tup (k.map kV)) ∧ x = .ref T ∧ H T = none ∧ H' = upd H T (.tup [.ref q, v]), fun i H => H d = some (.frz o (.dT kvs)) ∧ kvs.length ≤ i⟩
section
variable {X : Cx} {pins : List (Addr × Obj)} {σ : L2.St} {H : Hp} {s : Shared} {d : Addr} {o : Obj}
theorem frzTV {kvs : List (List Key × V)} (I : Inv X pins σ H s) (h : H d = some (.frz o (.dT kvs))) :
    (d == sysModules) = false ∧ s.heap.get? d = some o ∧ o.ExactDict ∧ ∃ (es : Array DictEntry) (ep : Nat), o.data = .dict es ep ∧ es.size = kvs.length ∧
      ∀ (i : Nat) (k : List Key) (v : V), kvs[i]? = some (k, v) → ∃ (en : DictEntry) (q : Addr), es[i]? = some en ∧ en.key = .ref q ∧ H q = some (.tup (k.map kV)) ∧ RelV v en.val := by
  obtain ⟨hd, z, hs, xs, pr, o', es, ep, ho, hx, hdt, he, _⟩ := I.hok d _ h
  rw [hd] at ho
  cases ho
  refine ⟨hs, hd, hx, es, ep, hdt, ?_, fun i k v e => ?_⟩
  · have l1 : es.size = xs.length := size_of_entries he
    have l2 : kvs.length = xs.length := Paired.length pr
    omega
  · obtain ⟨b, hb, e1, e2, e3⟩ := paired_get pr e
    have q := entry_at he i
    rw [hb] at q
    exact ⟨_, b.2.1, q, rfl, e2, e3⟩
end
section
variable {P : Program} {w : World} {K : PySem.W.Frag} {d : Addr} {o : Obj} {es : Array DictEntry} {ep : Nat}
theorem turn_itemsT {kvs : List (List Key × V)} {elts : List Expr} {kk : Nat} {tpos : Pos} (it : Addr) (hod : o.data = .dict es ep) :
    Turn P w K (.Tuple elts kk tpos) (Itit d o kvs) [it] it (fun i h => ∃ ok ov, IsItemIter h it d i kvs.length ep ok ov) where
  mem := by simp
  obj := fun i h st b hb => by
    have e : b = it := by simpa using hb
    subst e
    obtain ⟨ok, ov, e⟩ := st
    exact ⟨_, e, fun v z => nomatch z⟩
  keep := fun i h h' st k => let ⟨ok, ov, e⟩ := st; ⟨ok, ov, k it (by simp) _ e⟩
  item := by
    intro X hP hw hK hc i pins s σ H E I hf st hg
    subst hP hw hK
    obtain ⟨hd, hi⟩ := hg
    obtain ⟨hs, hgd, hx, es', ep', hdt, hsz, ent⟩ := frzTV I hd
    obtain ⟨rfl, rfl⟩ := dict_ep hod hdt
    obtain ⟨⟨k, v⟩, hkv⟩ : ∃ p, kvs[i]? = some p := ⟨kvs[i], List.getElem?_eq_getElem hi⟩
    obtain ⟨en, q, hen, hkey, hq, hval⟩ := ent i k v hkv
    obtain ⟨ok, ov, he⟩ := st
    rw [← hsz] at he
    have hlt : it < s.heap.objs.size := Heap.lt_size he
    have hi' : i < es'.size := by omega
    have hen' : es'[i] = en := by
      have e2 := Array.getElem?_eq_getElem hi'
      rw [hen] at e2
      exact (Option.some.inj e2).symm
    refine DT.nextI he ⟨o, hgd, hx, hdt⟩ hi' fun h' ho hT hz hk => ?_
    rw [hen'] at ho hT
    refine ⟨_, rfl, wpAny_letOwnedTupleGo_items (s := { s with heap := h' }) ho fun h'' he' sb => ?_⟩
    have hT2 : h''.get? s.heap.objs.size = some { cls := .type "tuple", data := .seq #[en.key, en.val] } := (sb.2 _ (Nat.ne_of_gt hlt)).trans hT
    have new : ObjOk X.prog X.w (upd H s.heap.objs.size (.tup [V.ref q, v])) h'' s.heap.objs.size (.tup [V.ref q, v]) :=
      ⟨by show 2 ≤ sizeLine; decide, [en.key, en.val], .cons hkey (.cons hval .nil), ⟨_, hT2, rfl, _, rfl⟩⟩
    have I1 : Inv X pins σ (upd H s.heap.objs.size (.tup [V.ref q, v])) { s with heap := h'' } :=
      I.turnedNew (t' := s.toks) (ch := [it]) (fun b ob hb e => (sb.2 b (by simpa using hb)).trans (hk b ob (by simpa using hb) e)) hf (Nat.le_refl _) new
    refine ⟨.ref s.heap.objs.size, _, I1, rfl, ⟨_, k, v, q, hkv, hq, rfl, I.hok.fresh (Nat.le_refl _), rfl⟩, ⟨en.key, en.val, ?_⟩, fun b hb => ?_⟩
    · rw [← hsz]; exact he'
    · have e : b = it := by simpa using hb
      rw [e, upd_ne (Nat.ne_of_lt hlt)]
      exact (hf it (by simp)).1
  done := by
    intro X hP hw hK hc i pins s σ H E I hf st hg
    subst hP hw hK
    obtain ⟨hd, hi⟩ := hg
    obtain ⟨f0, f1, f2, f3, f4, f5⟩ := hf it (by simp)
    obtain ⟨hs, hgd, hx, es', ep', hdt, hsz, ent⟩ := frzTV I hd
    obtain ⟨rfl, rfl⟩ := dict_ep hod hdt
    obtain ⟨ok, ov, he⟩ := st
    rw [← hsz] at he
    exact DT.endI (I.ok.hd hc) he ⟨o, hgd, hx, hdt⟩ (by omega) fun h' eb => ⟨rfl, I.turned (t' := s.toks) (fun b ob hb e => eb b ob hb e) f0 f1 f3 f4 f5⟩
  self := fun A i s Q E st h => let ⟨_, _, e⟩ := st; PySem.W.kcp_self e h
end
/-- d.items(), d locked -/
def iItemsT (td : TE) : TI := fun σ H R => td σ H fun x H1 => ∃ d o kvs, x = .ref d ∧ H1 d = some (.frz o (.dT kvs)) ∧ R (Itit d o kvs) H1
section
variable {X : Cx} {tg e : Expr} {td : TE} {apos cpos : Pos}
theorem pi_itemsT {elts : List Expr} {kk : Nat} {tpos : Pos} (he : PE X e td) (hbase : attributeBase e "items" X.env (eval e X.env) = eval e X.env := by rfl) (hline : (apos.endLine == cpos.line) = true := by rfl) :
    PI X (.Tuple elts kk tpos) (.Call (.Attribute e "items" apos) [] [] cpos) (iItemsT td) := by
  refine ⟨fun pins s σ H R I h => ?_⟩
  refine wpAny_Call_method (T := "dict") (id := "dict.items") hbase rfl hline F.plainAttrs_dict F.slot_dict_items F.type_dict_items (thn (he.run pins s σ H _ I h) fun u s1 ⟨x, H1, I1, rx, d, o, kvs, ex, hd, q⟩ => ?_)
  subst ex
  obtain rfl : u = Value.ref d := rx
  obtain ⟨hs, hgd, hx, es, ep, hdt, hsz, ent⟩ := frzTV I1 hd
  have hm : DT.Raw s1.heap d es ep := ⟨o, hgd, hx, hdt⟩
  refine ⟨hm.typeIs, fun a e => by cases e; exact ⟨o, hgd, hx.2.1⟩, ?_⟩
  have I2 : Inv X pins σ H1 { s1 with heap := s1.heap.push { cls := .type "dict_items", data := .fields #[.ref d] } } := I1.kept (t' := s1.toks) fun b ob q => Heap.get?_push_of_some _ q
  have fin : wpAny (model X.prog X.w) X.A (pyIter (.ref s1.heap.objs.size)) (PIE X pins σ (.Tuple elts kk tpos) R) X.xe { s1 with heap := s1.heap.push { cls := .type "dict_items", data := .fields #[.ref d] } } := by
    refine DT.iterI (d := d) ⟨_, Heap.get?_push_size _ rfl, rfl, rfl⟩ (hm.push _) (pi_one (tk := s1.toks) I2 _ (turn_itemsT _ hdt) ⟨.none, .none, ?_⟩ q)
    rw [← hsz]
    exact Heap.get?_push_size _ rfl
  show wpAny _ _ (callWith cpos (.builtin "dict.items") [.ref d] [] []) _ X.xe s1
  exact method_meetsIn F.slot_dict_items F.entry_dict_items rfl (PySem.evalArgs_none ⟨rfl, hm.typeIs, F.args_dict_items_1 _, _, DT.meetsItems (es := es) (ep := ep) hs, ⟨hm, fin⟩⟩)
end
theorem walk_itemsT {d : Addr} {o : Obj} {kvs : List (List Key × V)} : Walk (Itit d o kvs) kvs.length (fun H => H d = some (.frz o (.dT kvs)))
    (fun i H x H' => ∃ (T : Addr) (k : List Key) (v : V) (q : Addr), kvs[i]? = some (k, v) ∧ H q = some (.tup (k.map kV)) ∧ x = .ref T ∧ H T = none ∧ H' = upd H T (.tup [.ref q, v])) :=
  ⟨fun _ _ hi q => ⟨q, hi⟩, fun _ q => ⟨q, Nat.le_refl _⟩, fun _ _ _ _ _ _ y => y⟩
end Bk

/-! lots as parts of the names; tables by lots; questions as objects -/
namespace Bk
open PySem PySem.Spec PyProof.Rows L2
theorem rows_inc : ∀ n, n < 6 → ∀ r ∈ lotRows n, r.Pairwise (· < ·) := by decide +kernel
theorem rows_below : ∀ n, n < 6 → ∀ r ∈ lotRows n, ∀ x ∈ r, x < n := by decide +kernel
theorem pick_sub {zs : List Str} : ∀ {r : List Nat}, r.Pairwise (· < ·) → (∀ x ∈ r, x < zs.length) → (r.map fun k => zs.getD k Str.empty).Sublist zs := by
  intro r hp hl
  have h := List.map_getElem_sublist (l := zs) (is := r.attach.map fun x => (⟨x.1, hl x.1 x.2⟩ : Fin zs.length)) (by
    rw [List.pairwise_map]
    have : r.attach.Pairwise fun a b => a.1 < b.1 := by
      have := List.pairwise_map (f := Subtype.val) (l := r.attach) (R := (· < ·))
      rw [List.attach_map_subtype_val] at this
      exact this.mp hp
    exact this)
  rw [List.map_map] at h
  have e : r.attach.map ((fun (i : Fin zs.length) => zs[i]) ∘ fun x => (⟨x.1, hl x.1 x.2⟩ : Fin zs.length)) = r.map fun k => zs.getD k Str.empty := by
    have : r.map (fun k => zs.getD k Str.empty) = r.attach.map fun x => zs.getD x.1 Str.empty := by
      conv => lhs; rw [← List.attach_map_subtype_val r, List.map_map]
      rfl
    rw [this]
    refine List.map_congr_left fun x _ => ?_
    show zs[x.1]'(hl x.1 x.2) = zs.getD x.1 Str.empty
    rw [List.getD_eq_getElem?_getD, List.getElem?_eq_getElem (hl x.1 x.2)]
    rfl
  rw [← e]
  exact h
theorem lots_sub {ch : Bool} {zs l : List Str} (hz : zs.length ≤ mostFor ch) (m : l ∈ lotsFor ch zs) : l.Sublist zs := by
  unfold lotsFor at m
  cases ch with
  | true =>
    unfold chainLots at m
    simp only [if_true] at m
    obtain ⟨k, _, m⟩ := List.mem_flatMap.mp m
    unfold longRows at m
    obtain ⟨i, _, rfl⟩ := List.mem_map.mp m
    exact (List.take_sublist _ _).trans (List.drop_sublist _ _)
  | false =>
    unfold lotsOf at m
    simp only [Bool.false_eq_true, if_false] at m
    obtain ⟨r, hr, rfl⟩ := List.mem_map.mp m
    have h6 : zs.length < 6 := Nat.lt_succ_of_le hz
    exact pick_sub (rows_inc _ h6 r hr) (rows_below _ h6 r hr)
/-- the names of zs that stand in k -/
def lotS (zs k : List Str) : List Str := zs.filter fun n => decide (n ∈ k)
theorem lotS_sub : ∀ {l zs : List Str}, l.Sublist zs → zs.Nodup → lotS zs l = l := by
  intro l zs h
  induction h with
  | slnil => intro _; rfl
  | @cons l zs a h ih =>
    intro nd
    obtain ⟨n1, n2⟩ := List.nodup_cons.mp nd
    unfold lotS
    rw [List.filter_cons_of_neg (by
      intro z
      exact n1 (h.subset (of_decide_eq_true z)))]
    exact ih n2
  | @cons_cons l zs a h ih =>
    intro nd
    obtain ⟨n1, n2⟩ := List.nodup_cons.mp nd
    unfold lotS
    rw [List.filter_cons_of_pos (p := fun n => decide (n ∈ a :: l)) (decide_eq_true List.mem_cons_self)]
    congr 1
    have : zs.filter (fun n => decide (n ∈ a :: l)) = zs.filter fun n => decide (n ∈ l) := by
      refine List.filter_congr fun x hx => ?_
      have : x ≠ a := fun e => n1 (e ▸ hx)
      simp [this]
    rw [this]
    exact ih n2
theorem lot_nodup {ch : Bool} {zs l : List Str} (hz : zs.length ≤ mostFor ch) (nd : zs.Nodup) (m : l ∈ lotsFor ch zs) : l.Nodup := (lots_sub hz m).nodup nd
/-- the lot that a list of things tells, or none -/
def toldBy (zs : List Str) (xs : List V) : List Str := zs.filter fun n => inV (.str n) xs
def lotOfV (ch : Bool) (zs : List Str) (xs : List V) : Option (List Str) := if (toldBy zs xs).length = xs.length ∧ toldBy zs xs ∈ lotsFor ch zs then some (toldBy zs xs) else none
theorem toldBy_strs (zs k : List Str) : toldBy zs (k.map V.str) = lotS zs k := by
  unfold toldBy lotS
  refine List.filter_congr fun x _ => ?_
  rw [inV_strs]
theorem lotOfV_lot {ch : Bool} {zs l : List Str} (hz : zs.length ≤ mostFor ch) (nd : zs.Nodup) (m : l ∈ lotsFor ch zs) : lotOfV ch zs (l.map V.str) = some l := by
  unfold lotOfV
  rw [toldBy_strs, lotS_sub (lots_sub hz m) nd, List.length_map, if_pos ⟨rfl, m⟩]
/-- the places tell which rows are lots -/
theorem places_has {ch : Bool} {zs : List Str} (nd : zs.Nodup) (l : List Str) : (valV (placesOf (lotsFor ch zs)) (l.map Sum.inr)).isSome = decide (l ∈ lotsFor ch zs) := by
  rw [← valV_any]
  have hk := places_keys (lots_nodup (ch := ch) nd) (lotsFor ch zs).length (Nat.le_refl _)
  rw [List.take_length] at hk
  have e : (placesOf (lotsFor ch zs)).any (fun kv => decide (kv.1 = l.map Sum.inr)) = ((placesOf (lotsFor ch zs)).map (·.1)).any fun k => decide (k = l.map Sum.inr) := by
    rw [List.any_map]
    rfl
  rw [e, hk]
  by_cases m : l ∈ lotsFor ch zs
  · rw [decide_eq_true m, List.any_eq_true]
    exact ⟨_, List.mem_map.mpr ⟨l, m, rfl⟩, decide_eq_true rfl⟩
  · rw [decide_eq_false m, List.any_eq_false]
    intro k hk z
    obtain ⟨l', m', rfl⟩ := List.mem_map.mp hk
    rw [inr_inj (of_decide_eq_true z)] at m'
    exact m m'
/-! ### tables by lots -/
def tabL (ls : List (List Str)) (f : List Str → Int) : List (List Key × Int) := ls.map fun l => (l.map Sum.inr, f l)
def tableOf (ch : Bool) (zs : List Str) (wt : List Str → Int) : List (List Key × Int) := tabL ((lotsFor ch zs).filter fun l => decide (wt l ≠ 0)) wt
theorem getT_tab (f : List Str → Int) (l : List Str) : ∀ ls : List (List Str), getT (tabL ls f) (l.map Sum.inr) = if l ∈ ls then some (f l) else none
  | [] => rfl
  | x :: r => by
    have ih := getT_tab f l r
    show getT ((x.map Sum.inr, f x) :: tabL r f) _ = _
    by_cases h : x = l
    · subst h
      rw [getT_pos rfl, if_pos List.mem_cons_self]
    · rw [getT_neg (fun z => h (inr_inj z)), ih]
      by_cases m : l ∈ r
      · rw [if_pos m, if_pos (List.mem_cons_of_mem _ m)]
      · rw [if_neg m, if_neg (fun z => (List.mem_cons.mp z).elim (fun e => h e.symm) m)]
theorem getT_table {ch : Bool} {zs : List Str} {wt : List Str → Int} {l : List Str} (m : l ∈ lotsFor ch zs) : (getT (tableOf ch zs wt) (l.map Sum.inr)).getD 0 = wt l := by
  unfold tableOf
  rw [getT_tab]
  by_cases h : wt l = 0
  · have hn : l ∉ (lotsFor ch zs).filter fun l => decide (wt l ≠ 0) := fun z => absurd h (of_decide_eq_true (List.mem_filter.mp z).2)
    rw [if_neg hn, h]
    rfl
  · rw [if_pos (List.mem_filter.mpr ⟨m, decide_eq_true h⟩)]
    rfl
theorem tab_put {ls : List (List Str)} {f : List Str → Int} {l : List Str} (h : l ∉ ls) : putK (tabV (tabL ls f)) (l.map Sum.inr) (V.int (f l)) = tabV (tabL (ls ++ [l]) f) := by
  rw [putK_fresh]
  · unfold tabV tabL
    rw [List.map_append, List.map_append]
    rfl
  · unfold tabV tabL
    rw [List.map_map, List.map_map]
    intro m
    obtain ⟨l', m', e⟩ := List.mem_map.mp m
    rw [inr_inj (show (l'.map Sum.inr : List Key) = l.map Sum.inr from e)] at m'
    exact h m'
theorem tabL_congr {ls : List (List Str)} {f g : List Str → Int} (h : ∀ l ∈ ls, f l = g l) : tabL ls f = tabL ls g := List.map_congr_left fun l m => by rw [h l m]
theorem tableOf_congr {ch : Bool} {zs : List Str} {f g : List Str → Int} (h : ∀ l ∈ lotsFor ch zs, f l = g l) : tableOf ch zs f = tableOf ch zs g := by
  unfold tableOf
  rw [show (lotsFor ch zs).filter (fun l => decide (f l ≠ 0)) = (lotsFor ch zs).filter fun l => decide (g l ≠ 0) from List.filter_congr fun l m => by rw [h l m]]
  exact tabL_congr fun l m => h l (List.mem_filter.mp m).1
theorem sameT_refl (ls : List (List Str)) (f : List Str → Int) : sameT (tabL ls f) (tabL ls f) = true := by
  unfold sameT
  simp only [beq_self_eq_true, Bool.true_and]
  rw [List.all_eq_true]
  intro p hp
  obtain ⟨l, m, rfl⟩ := List.mem_map.mp hp
  refine decide_eq_true ?_
  show getT (tabL ls f) (l.map Sum.inr) = some (f l)
  rw [getT_tab, if_pos m]
theorem sameT_eq {ch : Bool} {zs : List Str} {f g : List Str → Int} (h : ∀ l ∈ lotsFor ch zs, f l = g l) : sameT (tableOf ch zs f) (tableOf ch zs g) = true := by
  rw [tableOf_congr h]
  exact sameT_refl _ _
theorem sameT_ne {ch : Bool} {zs : List Str} (nd : zs.Nodup) {f g : List Str → Int} (h : sameT (tableOf ch zs f) (tableOf ch zs g) = true) : ∀ l ∈ lotsFor ch zs, f l = g l := by
  unfold sameT at h
  rw [Bool.and_eq_true, List.all_eq_true] at h
  obtain ⟨h1, h2⟩ := h
  have h1 : ((lotsFor ch zs).filter fun l => decide (f l ≠ 0)).length = ((lotsFor ch zs).filter fun l => decide (g l ≠ 0)).length := by
    have := eq_of_beq h1
    unfold tableOf tabL at this
    rw [List.length_map, List.length_map] at this
    exact this
  have h2 : ∀ l ∈ (lotsFor ch zs).filter (fun l => decide (f l ≠ 0)), l ∈ (lotsFor ch zs).filter (fun l => decide (g l ≠ 0)) ∧ f l = g l := fun l m => by
    have := of_decide_eq_true (h2 _ (List.mem_map.mpr ⟨l, m, rfl⟩))
    have this : getT (tableOf ch zs g) (l.map Sum.inr) = some (f l) := this
    unfold tableOf at this
    rw [getT_tab] at this
    by_cases z : l ∈ (lotsFor ch zs).filter fun l => decide (g l ≠ 0)
    · rw [if_pos z] at this
      exact ⟨z, (Option.some.inj this).symm⟩
    · rw [if_neg z] at this
      cases this
  intro l m
  by_cases z : f l = 0
  · by_cases z2 : g l = 0
    · rw [z, z2]
    · exfalso
      have hl : l ∈ (lotsFor ch zs).filter fun l => decide (g l ≠ 0) := List.mem_filter.mpr ⟨m, decide_eq_true z2⟩
      have hn : ((lotsFor ch zs).filter fun l => decide (f l ≠ 0)).Nodup := (lots_nodup nd).filter _
      have p := pigeon _ (((lotsFor ch zs).filter fun l => decide (g l ≠ 0)).erase l) hn fun x hx => by
        refine (List.mem_erase_of_ne fun e => ?_).mpr (h2 x hx).1
        subst e
        exact of_decide_eq_true (List.mem_filter.mp hx).2 z
      rw [List.length_erase_of_mem hl] at p
      have := List.length_pos_of_mem hl
      omega
  · exact (h2 l (List.mem_filter.mpr ⟨m, decide_eq_true z⟩)).2
/-! ### questions as objects -/
def questF (x td : Addr) : List (Str × V) := [("folders", .ref x), ("table", .ref td)]
def QuestAt (CF CQ : Addr) (H : Hp) (q x : Addr) (zs : List Str) (ch : Bool) (wt : List Str → Int) : Prop := ∃ dq td, H q = some (.ins CQ dq (questF x td)) ∧ FoldersAt CF H x zs ch ∧ H td = some (.dT (tabV (tableOf ch zs wt)))
theorem QuestAt.same {CF CQ q x : Addr} {H H' : Hp} {zs : List Str} {ch : Bool} {wt : List Str → Int} (h : QuestAt CF CQ H q x zs ch wt) (e : Same H H') : QuestAt CF CQ H' q x zs ch wt :=
  let ⟨dq, td, h1, h2, h3⟩ := h; ⟨dq, td, e _ _ h1, h2.same e, e _ _ h3⟩
theorem look_folders (x td : Addr) : (questF x td).lookup ("folders" : Str) = some (.ref x) := by
  show List.lookup ("folders" : Str) [(("folders" : Str), V.ref x), ("table", .ref td)] = _
  simp [List.lookup]
theorem look_table (x td : Addr) : (questF x td).lookup ("table" : Str) = some (.ref td) := by
  have h : (("table" : Str) == ("folders" : Str)) = false := by decide +kernel
  show List.lookup ("table" : Str) [(("folders" : Str), V.ref x), ("table", .ref td)] = _
  simp [List.lookup, h]
theorem putq1 (v : V) : putF "folders" v [] = ([("folders", v)] : List (Str × V)) := rfl
theorem putq2 (v t : V) : putF "table" t ([("folders", v)] : List (Str × V)) = ([("folders", v), ("table", t)] : List (Str × V)) := by
  have h : ¬ (("folders" : Str) = "table") := by decide +kernel
  simp [putF, h]
end Bk

namespace Bk
open PySem PySem.Spec PyProof.Rows L2
def spIsInt (K : PySem.W.Frag) : Sp := fun vs H Q _ => ∃ (x : V) (t : Value) (b1 b2 : Bool), vs = [x] ∧ TyX K H x t ∧ PySem.W.kitOne K t (.type "int") = some b1 ∧ PySem.W.kitOne K t (.type "bool") = some b2 ∧ Q (.bl (b1 && !b2)) H
def spLotOf (K : PySem.W.Frag) (C : Addr) : Sp := fun vs H Q _ => ∃ (x : Addr) (y : V) (zs : List Str) (ch : Bool), vs = [.ref x, y] ∧ FoldersAt C H x zs ch ∧ zs.Nodup ∧ zs.length ≤ 12 ∧
  ((Sqs K H y false ∧ ∀ H', Same H H' → Q .non H') ∨ ∃ (a : Addr) (xs : List V), y = .ref a ∧ (SqL K H a xs ∨ SqT K H a xs) ∧ Sqs K H y true ∧ xs.all flatV = true ∧ xs.length ≤ 100000 ∧
    (∀ H', Same H H' → lotOfV ch zs xs = none → Q .non H') ∧ ∀ (t : Addr) (l : List Str) (H' : Hp), H t = none → Same H H' → lotOfV ch zs xs = some l → H' t = some (.tup (l.map V.str)) → Q (.ref t) H')
section
variable {P : Program} {w : World} {K : PySem.W.Frag} {mg : Str → Option Value} {base : Heap}
theorem scIsInt : FnScope ["thing"] ["thing"] (defScope (topS 18)) := ⟨rfl, rfl, rfl, by decide +kernel, rfl, by decide +kernel, by decide +kernel⟩
theorem ok_is_int (B : Bi mg) {f : Addr} {fd : FuncData} (F : Fun K "is_integer" "is_integer" (topS 18) f fd) : FnOk P w K mg base CX0 1 f fd ["thing"] (spIsInt K) := by
  refine F.ok scIsInt (fun vs H Q E h => ?_) (fun cdv A outer s H vs Q E hr h => ?_)
  · obtain ⟨x, t, b1, b2, rfl, _⟩ := h
    rfl
  · obtain ⟨x, t, b1, b2, rfl, tx, k1, k2, q⟩ := h
    have nd := scIsInt.nd
    refine ⟨_, (pss_one (ps_ret (pe_and (pe_callB (kIsi K) (by rfl) B.isinstance (by decide +kernel) (pa_cons (pv 0) (pa_cons (pe_bltn (v := .ty "int") (by rfl) B.int (by decide +kernel) rfl) pa_nil))) (pe_one (pe_not (pe_callB (kIsi K) (by rfl) B.isinstance (by decide +kernel) (pa_cons (pv 0) (pa_cons (pe_bltn (v := .ty "bool") (by rfl) B.bool (by decide +kernel) rfl) pa_nil)))))))), ?_⟩
    refine isi1 rfl tx k1 ⟨_, rfl, ?_⟩
    cases b1 with
    | false =>
      refine iteF ?_
      exact q
    | true =>
      refine iteT ?_
      refine isi1 rfl tx k2 ?_
      cases b2 <;> exact ⟨_, rfl, q⟩
theorem scLotOf : FnScope ["folders", "thing", "lot", "name"] ["folders", "thing"] (defScope (topS 37)) := ⟨rfl, rfl, rfl, by decide +kernel, rfl, by decide +kernel, by decide +kernel⟩
theorem ok_lot_of (B : Bi mg) {C f0 f f1 : Addr} {fd fd1 : FuncData} (T : FolT K mg C f0) (c_is_list : Cal P w K mg base CX0 1 "is_list" f1 fd1 ["thing"] (spIsList K)) (F : Fun K "lot_of" "lot_of" (topS 37) f fd) : FnOk P w K mg base CX0 2 f fd ["folders", "thing"] (spLotOf K C) := by
  refine F.ok scLotOf (fun vs H Q E h => ?_) (fun cdv A outer s H vs Q E hr h => ?_)
  · obtain ⟨x, y, zs, ch, rfl, _⟩ := h
    rfl
  · obtain ⟨x, y, zs, ch, rfl, ⟨dx, t, pd, hx, ht, hp⟩, nz, lz, hc⟩ := h
    have nd := scLotOf.nd
    have hu := hu_of hr
    have hr_is_list := hr
    refine ⟨_, (pss_cons (ps_if (pt_not (pt_val (pe_call c_is_list.ok hr_is_list (by rfl) c_is_list.g c_is_list.kp c_is_list.b .nil pass0 (pa_cons (pv 1) pa_nil)))) (pss_one (ps_ret pe_non)) pss_nil)
      (pss_cons (ps_set (i := 2) nd rfl (Or.inl rfl) (kTupleOf K (by rfl) B.tuple (pe_lc (own := [("name", 3)]) rfl nd (kPiT K (pe_fld (pv 0) rfl)) (blkOk_by (N := ["folders", "thing", "lot", "name"]) (sc := defScope (topS 37)) (by decide +kernel)) (fun _ _ _ _ _ => (pg_name (i := 3) nd rfl (Or.inl rfl))) (fun _ _ _ _ _ => (pts_one (pt_cmpR (kIn K) (pv 3) (pv 1) rfl))) (fun _ _ _ _ _ => (pv 3)))))
      (pss_one (ps_ret (pe_ifExp (PW.pt (pw_and (pt_cmpR op_eq (pe_callB (kLen K) (by rfl) B.len PySem.boot_len (pa_cons (pv 2) pa_nil)) (pe_callB (kLen K) (by rfl) B.len PySem.boot_len (pa_cons (pv 1) pa_nil)) (nomark _)) (pw_and1 (pt_cmp (pc_din hu (pv 2) (pe_fld (pv 0) rfl)))))) (pv 2) pe_non))))), ?_⟩
    rcases hc with ⟨b, q⟩ | ⟨a, xs, rfl, hS, b, hf, hl, qn, qs⟩
    · refine ⟨_, rfl, _, false, rfl, b, fun H1 e1 => ⟨_, rfl, ?_⟩⟩
      refine iteT ?_
      exact q H1 e1
    · refine ⟨_, rfl, _, true, rfl, b, fun H1 e1 => ⟨_, rfl, ?_⟩⟩
      refine iteF ?_
      have hS1 : SqL K H1 a xs ∨ SqT K H1 a xs := hS.imp (fun z => e1.seq z) fun z => Same.sqt e1 z
      refine ⟨_, rfl, x, C, dx, _, _, rfl, e1 _ _ hx, T.cl, T.nN, look_names _ _ _, t, rfl, ⟨_, SqT.of (e1 _ _ ht)⟩, fun D nD => lc_it (walk_tup (xs := zs.map V.str)) (UptoF H1 D zs V.str fun n => inV (.str n) xs) (.zero nD) (fun j H' _ u => SqT.of (u.sm _ _ (e1 _ _ ht))) ?_ ?_⟩
      · rintro j v H2 H3 hj u ⟨rfl, hv⟩
        rw [List.getElem?_map] at hv
        obtain ⟨n, hn, rfl⟩ := Option.map_eq_some_iff.mp hv
        refine ⟨rfl, ?_⟩
        refine ⟨_, rfl, _, rfl, a, xs, rfl, hS1.imp (fun z => Same.seq u.sm z) (fun z => Same.sqt u.sm z), rfl, hf, _, rfl, ?_⟩
        cases hi : inV (.str n) xs with
        | false =>
          refine iteF ?_
          exact u.no hn hi (Same.refl _)
        | true =>
          refine iteT ?_
          exact ⟨_, rfl, u.yes nD hn hi (Same.refl _) (by omega)⟩
      · intro H2 u
        have eD := u.all (by rw [List.length_map])
        have e2 := Same.trans e1 u.sm
        have hS2 : SqL K H2 a xs ∨ SqT K H2 a xs := hS.imp (fun z => e2.seq z) fun z => Same.sqt e2 z
        refine .inl ⟨D, _, rfl, SqL.of eD, fun p np => ?_⟩
        have hnp : H p = none := Same.free e2 np
        have ep := same_upd (o := HO.tup ((zs.filter fun n => inV (.str n) xs).map V.str)) np
        have hp3 : upd H2 p (HO.tup ((zs.filter fun n => inV (.str n) xs).map V.str)) p = some (HO.tup ((zs.filter fun n => inV (.str n) xs).map V.str)) := upd_same
        generalize upd H2 p (HO.tup ((zs.filter fun n => inV (.str n) xs).map V.str)) = H3 at ep hp3 ⊢
        have e3 := Same.trans e2 ep
        have hS3 : SqL K H3 a xs ∨ SqT K H3 a xs := hS.imp (fun z => e3.seq z) fun z => Same.sqt e3 z
        have hin := places_has (ch := ch) nz (toldBy zs xs)
        refine ⟨_, rfl, .ref p, _, rfl, .inr ⟨_, SqT.of hp3, rfl⟩, _, rfl, .ref a, xs.length, rfl, hS3.imp (fun z => ⟨xs, z, rfl⟩) (fun z => ⟨xs, z, rfl⟩), rfl, ?_⟩
        refine ⟨_, rfl, ?_⟩
        have elen : ((((zs.filter fun n => inV (.str n) xs).map V.str).length : Nat) : Int) = ((toldBy zs xs).length : Int) := by
          rw [List.length_map]
          rfl
        rw [elen]
        by_cases hlen : (toldBy zs xs).length = xs.length
        · rw [decide_eq_true (by rw [hlen])]
          refine iteT ?_
          refine ⟨_, rfl, _, rfl, x, C, dx, _, _, rfl, e3 _ _ hx, T.cl, T.nP, look_places _ _ _, pd, _, rfl, DGet.t (k := (toldBy zs xs).map Sum.inr) (e3 _ _ hp) ?_, _, rfl, ?_⟩
          · rw [hp3, List.map_map]
            rfl
          · rw [hin]
            by_cases hm : toldBy zs xs ∈ lotsFor ch zs
            · rw [decide_eq_true hm]
              refine iteT ?_
              exact ⟨_, rfl, qs p (toldBy zs xs) H3 hnp e3 (by unfold lotOfV; rw [if_pos ⟨hlen, hm⟩]) hp3⟩
            · rw [decide_eq_false hm]
              refine iteF ?_
              exact qn H3 e3 (by unfold lotOfV; rw [if_neg (fun z => hm z.2)])
        · rw [decide_eq_false (fun z => hlen (by injection z with z; omega))]
          refine iteF ?_
          refine iteF ?_
          exact qn H3 e3 (by unfold lotOfV; rw [if_neg (fun z => hlen z.1)])
end
end Bk

namespace Bk
open PySem PySem.Spec PyProof.Rows L2
/-- a statement that is never reached -/
theorem ps_no {X : Cx} {st : Stmt} : PS X st (fun _ _ _ => False) := ⟨fun _ _ _ _ _ _ h => h.elim⟩
def entT (es : List (List Str × Int)) : List (List Key × Int) := es.map fun e => (e.1.map Sum.inr, e.2)
def foundT (zs : List Str) (es : List (List Str × Int)) : List (List Key × Int) := es.map fun e => ((lotS zs e.1).map Sum.inr, e.2)
/-- the dict of right entries -/
structure Ents (ch : Bool) (zs : List Str) (es : List (List Str × Int)) : Prop where
  few : es.length ≤ 3000
  lot : ∀ e ∈ es, lotOfV ch zs (e.1.map V.str) = some (lotS zs e.1)
  len : ∀ e ∈ es, e.1.length ≤ 1000
  nd : (es.map fun e => lotS zs e.1).Nodup
def spNums (K : PySem.W.Frag) (C : Addr) : Sp := fun vs H Q _ => ∃ (x d dx t pd : Addr) (zs : List Str) (ch : Bool) (es : List (List Str × Int)), vs = [.ref x, .ref d] ∧ H x = some (.ins C dx (foldersF t pd ch)) ∧ H t = some (.tup (zs.map V.str)) ∧ H pd = some (.dT (placesOf (lotsFor ch zs))) ∧ pd ≠ d ∧
  zs.Nodup ∧ zs.length ≤ 12 ∧ H d = some (.dT (tabV (entT es))) ∧ Ents ch zs es ∧ ∀ (D : Addr) (H' : Hp), H D = none → Same H H' → H' D = some (.dT (tabV (foundT zs es))) → Q (.ref D) H'
theorem found_get {zs : List Str} {es : List (List Str × Int)} {l : List Str} (h : ∀ e ∈ es, lotS zs e.1 ≠ l) : getT (foundT zs es) (l.map Sum.inr) = none := by
  induction es with
  | nil => rfl
  | cons e r ih =>
    show getT (((lotS zs e.1).map Sum.inr, e.2) :: foundT zs r) _ = none
    rw [getT_neg (fun z => h e List.mem_cons_self (inr_inj z))]
    exact ih fun e' m => h e' (List.mem_cons_of_mem _ m)
theorem found_put {zs : List Str} {es : List (List Str × Int)} {e : List Str × Int} (h : ∀ e' ∈ es, lotS zs e'.1 ≠ lotS zs e.1) : putK (tabV (foundT zs es)) ((lotS zs e.1).map Sum.inr) (V.int e.2) = tabV (foundT zs (es ++ [e])) := by
  rw [putK_fresh]
  · unfold tabV foundT
    rw [List.map_append, List.map_append]
    rfl
  · unfold tabV foundT
    rw [List.map_map, List.map_map]
    intro m
    obtain ⟨e', m', q⟩ := List.mem_map.mp m
    exact h e' m' (inr_inj q)
section
variable {P : Program} {w : World} {K : PySem.W.Frag} {mg : Str → Option Value} {base : Heap}
theorem scNums : FnScope ["folders", "weights", "found", "key", "number", "lot"] ["folders", "weights"] (defScope (topS 48)) := ⟨rfl, rfl, rfl, by decide +kernel, rfl, by decide +kernel, by decide +kernel⟩
theorem ok_nums (B : Bi mg) {C f0 f f1 f2 : Addr} {fd fd1 fd2 : FuncData} (T : FolT K mg C f0) (c_lot_of : Cal P w K mg base CX0 2 "lot_of" f1 fd1 ["folders", "thing"] (spLotOf K C)) (c_is_integer : Cal P w K mg base CX0 1 "is_integer" f2 fd2 ["thing"] (spIsInt K))
    (F : Fun K "numbers_by_lots" "numbers_by_lots" (topS 48) f fd) : FnOk P w K mg base CX0 3 f fd ["folders", "weights"] (spNums K C) := by
  refine F.ok scNums (fun vs H Q E h => ?_) (fun cdv A outer s H vs Q E hr h => ?_)
  · obtain ⟨x, d, dx, t, pd, zs, ch, es, rfl, _⟩ := h
    rfl
  · obtain ⟨x, d, dx, t, pd, zs, ch, es, rfl, hx, ht, hp, npd, nz, lz, hd, hE, q⟩ := h
    have nd := scNums.nd
    have hu := hu_of hr
    have hr_lot_of : Room 2 _ := hr.mono (by decide)
    have hr_is_integer : Room 1 _ := hr.mono (by decide)
    refine ⟨_, (pss_cons (ps_set (i := 2) nd rfl (Or.inl rfl) pe_dnewT)
      (pss_cons (ps_lock (ps_for PassesOwn.never rfl (pi_itemsT (pv 1)) (kTg K 2 rfl (pgs_cons (pg_name (i := 3) nd rfl (Or.inl rfl)) (pgs_cons (pg_name (i := 4) nd rfl (Or.inl rfl)) pgs_nil))) (pss_cons (ps_set (i := 5) nd rfl (Or.inl rfl) (pe_call c_lot_of.ok hr_lot_of (by rfl) c_lot_of.g c_lot_of.kp c_lot_of.b .nil pass0 (pa_cons (pv 0) (pa_cons (pv 3) pa_nil))))
      (pss_cons (ps_if (PW.pt (pw_or (pt_cmpR op_isN (pv 5) pe_non (nomark _)) (pw_or1 (pt_cmp (pc_din hu (pv 5) (pv 2)))))) (pss_one ps_no) pss_nil)
      (pss_cons (ps_if (pt_not (pt_val (pe_call c_is_integer.ok hr_is_integer (by rfl) c_is_integer.g c_is_integer.kp c_is_integer.b .nil pass0 (pa_cons (pv 4) pa_nil)))) (pss_one ps_no) pss_nil)
      (pss_one (ps_dput hu (pv 2) (pv 5) (pv 4) rfl)))))))
      (pss_one (ps_ret (pv 2))))), ?_⟩
    refine fun D nD => ?_
    have e0 := same_upd (o := HO.dT []) nD
    have hD0 : upd H D (.dT []) D = some (.dT []) := upd_same
    generalize upd H D (.dT []) = H0 at e0 hD0 ⊢
    have nDd : d ≠ D := ne_of_none hd nD
    refine ⟨d, _, e0 _ _ hd, trivial, fun od => ?_⟩
    have hxd : x ≠ d := ne_of hx hd (fun z => nomatch z)
    have htd : t ≠ d := ne_of ht hd (fun z => nomatch z)
    refine ⟨_, rfl, d, od, _, rfl, upd_same, ?_⟩
    refine for_it walk_itemsT (fun i σ' H' => ∃ v3 v4 v5, σ' = [some (.ref x), some (.ref d), some (.ref D), v3, v4, v5] ∧ H' d = some (.frz od (.dT (tabV (entT es)))) ∧ H' D = some (.dT (tabV (foundT zs (es.take i)))) ∧ ∀ b u, b ≠ d → H b = some u → H' b = some u) ?_ ?_ ?_ ?_
    · exact ⟨none, none, none, rfl, upd_same, by rw [upd_ne nDd.symm]; exact hD0, fun b u nb e => by rw [upd_ne nb]; exact e0 _ _ e⟩
    · rintro i σ' H' _ ⟨_, _, _, _, h, _⟩
      exact h
    · rintro i y σ' H1 H2 hi ⟨v3, v4, v5, rfl, hd1, hD1, kp1⟩ ⟨T2, k, v, qa, hk, hqa, rfl, nT, rfl⟩
      unfold tabV entT at hk
      rw [List.map_map, List.getElem?_map] at hk
      obtain ⟨e, he, hkv⟩ := Option.map_eq_some_iff.mp hk
      obtain ⟨rfl, rfl⟩ := Prod.mk.inj hkv
      have eT := same_upd (o := HO.tup [V.ref qa, .int e.2]) nT
      refine ⟨T2, _, rfl, SqT.of upd_same, rfl, _, _, rfl, _, _, rfl, rfl, ?_⟩
      generalize upd H1 T2 (.tup [V.ref qa, .int e.2]) = H2 at eT ⊢
      have kp2 : ∀ b u, b ≠ d → H b = some u → H2 b = some u := fun b u nb z => eT _ _ (kp1 b u nb z)
      have hem := List.mem_of_getElem? he
      have hq2 : H2 qa = some (.tup (e.1.map V.str)) := by
        have := eT _ _ hqa
        rw [List.map_map] at this
        exact this
      have hl := hE.lot e hem
      refine ⟨_, rfl, _, rfl, x, .ref qa, zs, ch, rfl, ⟨dx, t, pd, kp2 _ _ hxd hx, kp2 _ _ htd ht, kp2 _ _ npd hp⟩, nz, lz, .inr ⟨qa, e.1.map V.str, rfl, .inr (SqT.of hq2), sqs_kit (k := "tuple") (b1 := false) (b2 := true) (.base (.tup hq2)) (by decide +kernel) (by decide +kernel), flat_strs _, ?_, fun H' e' hn => ?_, fun p l H3 np e3 hl' hp3 => ?_⟩⟩
      · have := hE.len e hem
        rw [List.length_map]
        omega
      · rw [hl] at hn
        cases hn
      rw [hl] at hl'
      obtain rfl := Option.some.inj hl'
      have hD3 := e3 _ _ (eT _ _ hD1)
      have hd3 := e3 _ _ (eT _ _ hd1)
      have fresh : ∀ e' ∈ es.take i, lotS zs e'.1 ≠ lotS zs e.1 := by
        intro e' m' z
        obtain ⟨j, hj, rfl⟩ := List.mem_take_iff_getElem.mp m'
        have hil := (List.getElem?_eq_some_iff.mp he).1
        have := nodup_inj hE.nd (i := j) (j := i) (by rw [List.length_map]; omega) (by rw [List.length_map]; exact hil) (by
          rw [List.getElem_map, List.getElem_map, z]
          have := (List.getElem?_eq_some_iff.mp he).2
          rw [this])
        omega
      have hno : valV (tabV (foundT zs (es.take i))) ((lotS zs e.1).map Sum.inr) = none := by
        rw [valV_tab, found_get fresh]
        rfl
      have hp3' : H3 p = some (.tup (((lotS zs e.1).map Sum.inr : List Key).map kV)) := by
        rw [hp3, List.map_map]
        rfl
      refine ⟨_, rfl, rfl, _, rfl, ?_⟩
      refine iteF ?_
      refine ⟨_, rfl, _, rfl, D, _, rfl, DGet.t hD3 hp3', _, rfl, ?_⟩
      rw [hno]
      refine iteF ?_
      refine ⟨_, rfl, .int e.2, .type "int", true, false, rfl, .base (.int _), kit_ty (show kitB "int" "int" = some true by decide +kernel), kit_ty (show kitB "int" "bool" = some false by decide +kernel), ?_⟩
      refine ⟨_, rfl, ?_⟩
      refine iteF ?_
      refine ⟨_, rfl, _, rfl, _, rfl, D, _, rfl, DPut.t (k := (lotS zs e.1).map Sum.inr) hD3 hp3' ?_, ?_⟩
      · rw [tab_len]
        unfold foundT
        rw [List.length_map, List.length_take]
        have := hE.few
        exact Evl.sz_lt (by omega)
      · refine ⟨_, _, _, rfl, ?_, ?_, fun b u nb z => ?_⟩
        · rw [upd_ne nDd]
          exact hd3
        · rw [upd_same, found_put fresh, take_succ he]
        · rw [upd_ne (ne_of_none z nD)]
          exact e3 _ _ (kp2 b u nb z)
    · rintro σ' H1 ⟨v3, v4, v5, rfl, hd1, hD1, kp1⟩
      refine ⟨hd1, ?_⟩
      refine ⟨_, rfl, q D _ nD (fun b u e => ?_) ?_⟩
      · by_cases nb : b = d
        · subst nb
          rw [upd_same, ← e, hd]
        · rw [upd_ne nb]
          exact kp1 b u nb e
      · rw [upd_ne nDd.symm]
        have : (tabV (entT es)).length = es.length := by
          unfold tabV entT
          rw [List.length_map, List.length_map]
        rw [this, List.take_length] at hD1
        exact hD1
end
end Bk

namespace Bk
open PySem PySem.Spec PyProof.Rows L2
section
variable {J : It} {n : Nat} {G : Hp → Prop} {Y : Nat → Hp → V → Hp → Prop}
/-- a dict comprehension with tests over it, the keys tuples -/
theorem dcI_it (w : Walk J n G Y) {g : TG} {tt : TT} {tk tv : TE} {vs : List Nat} {σ : L2.St} {H1 : Hp} {D : Addr} {Qd : Hp → Prop} (Pv : Nat → Hp → Prop) (h0 : Pv 0 (upd H1 D (.dT []))) (hG : ∀ i H, i ≤ n → Pv i H → G H)
    (hs : ∀ i x H H', i < n → Pv i H → Y i H x H' → g x (wipe σ vs) H' fun σ2 H2 => wipe σ2 vs = wipe σ vs ∧ tt σ2 H2 fun bb H3 =>
      if bb = true then tk σ2 H3 fun y H4 => tv σ2 H4 fun z H5 => ∃ kvs k b, y = .ref b ∧ H5 b = some (.tup (k.map kV)) ∧ H5 D = some (.dT kvs) ∧ kvs.length < sizeLine ∧ Pv (i + 1) (upd H5 D (.dT (putK kvs k z))) else Pv (i + 1) H3) (hd : ∀ H, Pv n H → Qd H) :
    ∃ W : Nat → Nat → Hp → Prop, (∃ m, W 0 m (upd H1 D (.dT []))) ∧ ∀ i m H, W i m H →
      (J.stop i H ∧ Qd H) ∨ (J.go i H ∧ ∃ Nx : Hp → Prop, (∀ H', Nx H' → ∃ m', m' < m ∧ W (i + 1) m' H') ∧ ∀ x H', J.yld i H x H' → g x (wipe σ vs) H' fun σ2 H2 => wipe σ2 vs = wipe σ vs ∧ tt σ2 H2 fun bb H3 =>
        if bb = true then tk σ2 H3 fun y H4 => tv σ2 H4 fun z H5 => ∃ kvs k b, y = .ref b ∧ H5 b = some (.tup (k.map kV)) ∧ H5 D = some (.dT kvs) ∧ kvs.length < sizeLine ∧ Nx (upd H5 D (.dT (putK kvs k z))) else Nx H3) := by
  refine ⟨fun i m H => m = n - i ∧ i ≤ n ∧ Pv i H, ⟨n, by simp, Nat.zero_le _, h0⟩, ?_⟩
  rintro i m H ⟨rfl, hi, p⟩
  have q := hG i H hi p
  by_cases hlt : i < n
  · refine .inr ⟨w.goes i H hlt q, Pv (i + 1), fun H' p' => ⟨n - (i + 1), by omega, rfl, hlt, p'⟩, fun x H' y => hs i x H H' hlt p (w.yields i H x H' hlt q y)⟩
  · have e : i = n := by omega
    subst e
    exact .inl ⟨w.stops H q, hd H p⟩
/-- the same without tests -/
theorem dcT_itw (w : Walk J n G Y) {g : TG} {tk tv : TE} {vs : List Nat} {σ : L2.St} {H1 : Hp} {D : Addr} {Qd : Hp → Prop} (Pv : Nat → Hp → Prop) (h0 : Pv 0 (upd H1 D (.dT []))) (hG : ∀ i H, i ≤ n → Pv i H → G H)
    (hs : ∀ i x H H', i < n → Pv i H → Y i H x H' → g x (wipe σ vs) H' fun σ2 H2 => wipe σ2 vs = wipe σ vs ∧ tk σ2 H2 fun y H4 => tv σ2 H4 fun z H5 => ∃ kvs k b, y = .ref b ∧ H5 b = some (.tup (k.map kV)) ∧ H5 D = some (.dT kvs) ∧ kvs.length < sizeLine ∧ Pv (i + 1) (upd H5 D (.dT (putK kvs k z)))) (hd : ∀ H, Pv n H → Qd H) :
    ∃ W : Nat → Nat → Hp → Prop, (∃ m, W 0 m (upd H1 D (.dT []))) ∧ ∀ i m H, W i m H →
      (J.stop i H ∧ Qd H) ∨ (J.go i H ∧ ∃ Nx : Hp → Prop, (∀ H', Nx H' → ∃ m', m' < m ∧ W (i + 1) m' H') ∧ ∀ x H', J.yld i H x H' → g x (wipe σ vs) H' fun σ2 H2 => wipe σ2 vs = wipe σ vs ∧
        tk σ2 H2 fun y H4 => tv σ2 H4 fun z H5 => ∃ kvs k b, y = .ref b ∧ H5 b = some (.tup (k.map kV)) ∧ H5 D = some (.dT kvs) ∧ kvs.length < sizeLine ∧ Nx (upd H5 D (.dT (putK kvs k z)))) := by
  refine ⟨fun i m H => m = n - i ∧ i ≤ n ∧ Pv i H, ⟨n, by simp, Nat.zero_le _, h0⟩, ?_⟩
  rintro i m H ⟨rfl, hi, p⟩
  have q := hG i H hi p
  by_cases hlt : i < n
  · refine .inr ⟨w.goes i H hlt q, Pv (i + 1), fun H' p' => ⟨n - (i + 1), by omega, rfl, hlt, p'⟩, fun x H' y => hs i x H H' hlt p (w.yields i H x H' hlt q y)⟩
  · have e : i = n := by omega
    subst e
    exact .inl ⟨w.stops H q, hd H p⟩
end
/-- what the top has written of Question -/
structure QueT (K : PySem.W.Frag) (mg : Str → Option Value) (C fI : Addr) : Prop where
  g : mg "Question" = some (.ref C)
  cl : Cls K C
  nF : NoAttr K C "folders"
  nT : NoAttr K C "table"
  make : Mk K C fI
/-- the i-th key of the places -/
theorem places_key {ch : Bool} {zs : List Str} (nd : zs.Nodup) {i : Nat} {k : List Key} {v : V} (h : (placesOf (lotsFor ch zs))[i]? = some (k, v)) : ∃ l, (lotsFor ch zs)[i]? = some l ∧ k = l.map Sum.inr := by
  have hk := places_keys (lots_nodup (ch := ch) nd) (lotsFor ch zs).length (Nat.le_refl _)
  rw [List.take_length] at hk
  have e : ((placesOf (lotsFor ch zs)).map (·.1))[i]? = some k := by
    rw [List.getElem?_map, h]
    rfl
  rw [hk, List.getElem?_map] at e
  obtain ⟨l, h1, h2⟩ := Option.map_eq_some_iff.mp e
  exact ⟨l, h1, h2.symm⟩
theorem places_length {ch : Bool} {zs : List Str} (nd : zs.Nodup) : (placesOf (lotsFor ch zs)).length = (lotsFor ch zs).length := by
  have hk := places_keys (lots_nodup (ch := ch) nd) (lotsFor ch zs).length (Nat.le_refl _)
  rw [List.take_length] at hk
  have := congrArg List.length hk
  rw [List.length_map, List.length_map] at this
  exact this
theorem str_key (l : List Str) : (l.map Sum.inr : List Key).map kV = l.map V.str := by
  rw [List.map_map]
  rfl
end Bk

namespace Bk
open PySem PySem.Spec PyProof.Rows L2
/-- Question(folders, weights): the entries F that are told -/
def spQuest (K : PySem.W.Frag) (C CQ : Addr) : Sp := fun vs H Q _ => ∃ (q x dq dx t pd : Addr) (wv : V) (zs : List Str) (ch : Bool) (wt : List Str → Int), vs = [.ref q, .ref x, wv] ∧ H q = some (.ins CQ dq []) ∧ H x = some (.ins C dx (foldersF t pd ch)) ∧ H t = some (.tup (zs.map V.str)) ∧ H pd = some (.dT (placesOf (lotsFor ch zs))) ∧
  zs.Nodup ∧ zs.length ≤ mostFor ch ∧ ((wv = .non ∧ ∀ l ∈ lotsFor ch zs, wt l = 0) ∨ ∃ (d : Addr) (es : List (List Str × Int)), wv = .ref d ∧ pd ≠ d ∧ H d = some (.dT (tabV (entT es))) ∧ Ents ch zs es ∧ ∀ l ∈ lotsFor ch zs, wt l = (getT (foundT zs es) (l.map Sum.inr)).getD 0) ∧
  ∀ H', QuestAt C CQ H' q x zs ch wt → (∀ b u, b ≠ q → H b = some u → H' b = some u) → Q .non H'
section
variable {P : Program} {w : World} {K : PySem.W.Frag} {mg : Str → Option Value} {base : Heap}
theorem scQuest : FnScope ["self", "folders", "weights", "told", "lot"] ["self", "folders", "weights"] (defScope (inClass (topS 47) 0)) := ⟨rfl, rfl, rfl, by decide +kernel, rfl, by decide +kernel, by decide +kernel⟩
theorem ok_quest (B : Bi mg) {C CQ f0 fQ f f1 : Addr} {fd fd1 : FuncData} {dvs : List V} (T : FolT K mg C f0) (TQ : QueT K mg CQ fQ) (c_numbers_by_lots : Cal P w K mg base CX0 3 "numbers_by_lots" f1 fd1 ["folders", "weights"] (spNums K C))
    (F : FunD K "__init__" "Question.__init__" (defArgs (inClass (topS 47) 0)) (defBody (inClass (topS 47) 0)) (defScope (inClass (topS 47) 0)) dvs [] f fd) : FnOk P w K mg base CX0 4 f fd ["self", "folders", "weights"] (spQuest K C CQ) := by
  refine F.ok scQuest (fun vs H Q E h => ?_) (fun cdv A outer s H vs Q E hr h => ?_)
  · obtain ⟨q, x, dq, dx, t, pd, wv, zs, ch, wt, rfl, _⟩ := h
    rfl
  · obtain ⟨q, x, dq, dx, t, pd, wv, zs, ch, wt, rfl, hq, hx, ht, hp, nz, lz, hw, qq⟩ := h
    have nd := scQuest.nd
    have hu := hu_of hr
    have l12 : zs.length ≤ 12 := Nat.le_trans lz (by cases ch <;> decide)
    have hr_numbers_by_lots : Room 3 _ := hr.mono (by decide)
    refine ⟨_, (Evl.pss_cut (ps_set (i := 3) nd rfl (Or.inr rfl) (pe_ifExp (pt_cmpR op_isN (pv 2) pe_non (nomark _)) pe_dnewT (pe_call c_numbers_by_lots.ok hr_numbers_by_lots (by rfl) c_numbers_by_lots.g c_numbers_by_lots.kp c_numbers_by_lots.b .nil pass0 (pa_cons (pv 1) (pa_cons (pv 2) pa_nil)))))
      (pss_cons (ps_fld (pv 0) (pv 1) rfl)
      (pss_one (ps_fld (pv 0) (pe_lock (pe_dcTI (own := [("lot", 4)]) hr.units0 rfl nd (pi_keys (pe_fld (pv 1) rfl)) (blkOk_by (N := ["self", "folders", "weights", "told", "lot"]) (sc := defScope (inClass (topS 47) 0)) (by decide +kernel)) (fun _ _ _ _ _ => (pg_name (i := 4) nd rfl (Or.inl rfl))) (fun _ _ _ _ _ => (pts_one (pt_cmpR op_ne (pe_dget2 hu (pv 3) (pv 4) pe_int ⟨rfl, rfl, rfl, rfl⟩) pe_int (nomark _)))) (fun _ _ _ _ _ => (pv 4)) (fun _ _ _ _ _ => (pe_dget hu (pv 3) (pv 4) (fun _ _ => rfl))))) rfl)))), ?_⟩
    -- told
    refine ⟨fun σ1 H1 => ∃ (D : Addr) (F : List (List Key × Int)), σ1 = [some (.ref q), some (.ref x), some wv, some (.ref D), none] ∧ H D = none ∧ Same H H1 ∧ H1 D = some (.dT (tabV F)) ∧ ∀ l ∈ lotsFor ch zs, wt l = (getT F (l.map Sum.inr)).getD 0, ?_, ?_⟩
    · rcases hw with ⟨rfl, h0⟩ | ⟨d, es, rfl, npd, hd, hE, h0⟩
      · refine ⟨_, rfl, rfl, _, rfl, ?_⟩
        refine iteT ?_
        intro D nD
        exact ⟨D, [], rfl, nD, same_upd nD, upd_same, fun l m => by rw [h0 l m]; rfl⟩
      · refine ⟨_, rfl, rfl, _, rfl, ?_⟩
        refine iteF ?_
        exact ⟨_, rfl, _, rfl, x, d, dx, t, pd, zs, ch, es, rfl, hx, ht, hp, npd, nz, l12, hd, hE, fun D H' nD e1 hD => ⟨D, _, rfl, nD, e1, hD, h0⟩⟩
    rintro σ1 H1 ⟨D, F, rfl, nD, e1, hD1, hwt⟩
    -- self.folders
    have hxq : x ≠ q := fun z => by subst z; rw [hx] at hq; injection hq with hq; injection hq with _ _ h3; cases h3
    have htq : t ≠ q := ne_of ht hq (fun z => nomatch z)
    have hpq : pd ≠ q := ne_of hp hq (fun z => nomatch z)
    have hDq : D ≠ q := (ne_of_none hq nD).symm
    refine ⟨_, rfl, _, rfl, q, CQ, dq, [], rfl, e1 _ _ hq, TQ.cl, TQ.nF, by decide, ?_⟩
    rw [putq1]
    have hq2 : upd H1 q (.ins CQ dq [("folders", .ref x)]) q = some (.ins CQ dq [("folders", .ref x)]) := upd_same
    have k2 : ∀ b u, b ≠ q → H b = some u → upd H1 q (.ins CQ dq [("folders", .ref x)]) b = some u := fun b u nb z => by rw [upd_ne nb]; exact e1 _ _ z
    have hD2 : upd H1 q (.ins CQ dq [("folders", .ref x)]) D = some (.dT (tabV F)) := by rw [upd_ne hDq]; exact hD1
    generalize upd H1 q (.ins CQ dq [("folders", .ref x)]) = H2 at hq2 k2 hD2 ⊢
    -- self.table
    have hp2 := k2 _ _ hpq hp
    refine ⟨pd, _, hp2, trivial, fun od => ?_⟩
    have hxp : x ≠ pd := ne_of hx hp (fun z => nomatch z)
    have htp : t ≠ pd := ne_of ht hp (fun z => nomatch z)
    have hqp : q ≠ pd := hpq.symm
    have hDp : D ≠ pd := (ne_of_none hp nD).symm
    have hx3 : upd H2 pd (.frz od (.dT (placesOf (lotsFor ch zs)))) x = some (.ins C dx (foldersF t pd ch)) := by rw [upd_ne hxp]; exact k2 _ _ hxq hx
    have hp3 : upd H2 pd (.frz od (.dT (placesOf (lotsFor ch zs)))) pd = some (.frz od (.dT (placesOf (lotsFor ch zs)))) := upd_same
    have hD3 : upd H2 pd (.frz od (.dT (placesOf (lotsFor ch zs)))) D = some (.dT (tabV F)) := by rw [upd_ne hDp]; exact hD2
    refine ⟨_, rfl, x, C, dx, _, _, rfl, hx3, T.cl, T.nP, look_places _ _ _, pd, od, rfl, .inr ⟨_, hp3, fun D2 nD2 => ?_⟩⟩
    have lots3 : (lotsFor ch zs).length ≤ 2000 := lots_few lz
    refine dcI_it walk_keysT (fun i H' => Same (upd H2 pd (.frz od (.dT (placesOf (lotsFor ch zs))))) H' ∧ H' D2 = some (.dT (tabV (tabL (((lotsFor ch zs).take i).filter fun l => decide (wt l ≠ 0)) wt)))) ?_ (fun i H' _ ⟨e3, _⟩ => e3 _ _ hp3) ?_ ?_
    · exact ⟨same_upd nD2, upd_same⟩
    · rintro i y H3 H4 hi ⟨e3, hd3⟩ ⟨rfl, k, v, qa, hk, rfl, hqa⟩
      obtain ⟨l, hl, rfl⟩ := places_key nz hk
      refine ⟨rfl, ?_⟩
      have hqs : H4 qa = some (.tup ((l.map Sum.inr : List Key).map kV)) := hqa
      have hget : (valV (tabV F) (l.map Sum.inr)).getD (.int 0) = .int (wt l) := by
        rw [valV_tab, hwt l (List.mem_of_getElem? hl)]
        cases getT F (l.map Sum.inr) <;> rfl
      refine ⟨_, rfl, D, rfl, .inr ⟨_, .inl (e3 _ _ hD3)⟩, _, rfl, _, DGet.t (e3 _ _ hD3) hqs, ?_⟩
      rw [hget]
      refine ⟨rfl, _, rfl, ?_⟩
      have htake : (((lotsFor ch zs).take (i + 1)).filter fun l => decide (wt l ≠ 0)) = (((lotsFor ch zs).take i).filter fun l => decide (wt l ≠ 0)) ++ if wt l = 0 then [] else [l] := by
        rw [take_succ hl, List.filter_append]
        by_cases z : wt l = 0
        · simp [z]
        · simp [z]
      by_cases z : wt l = 0
      · rw [show (!decide (V.int (wt l) = V.int 0)) = false by rw [z]; rfl]
        rw [if_pos z, List.append_nil] at htake
        refine iteF ?_
        exact ⟨e3, by rw [htake]; exact hd3⟩
      · rw [show (!decide (V.int (wt l) = V.int 0)) = true by rw [decide_eq_false (fun h => z (by injection h))]; rfl]
        rw [if_neg z] at htake
        refine iteT ?_
        have hg : getT F (l.map Sum.inr) = some (wt l) := by
          have h := hwt l (List.mem_of_getElem? hl)
          cases e : getT F (l.map Sum.inr) with
          | none => rw [e] at h; exact absurd h z
          | some j => rw [e] at h; rw [h]; rfl
        refine ⟨_, rfl, _, rfl, _, rfl, D, .int (wt l), rfl, ?_, _, l.map Sum.inr, qa, rfl, hqs, hd3, ?_, Same.grow e3 nD2, ?_⟩
        · have := DGet.t (e3 _ _ hD3) hqs
          rw [valV_tab, hg] at this
          exact this
        · rw [tab_len]
          unfold tabL
          rw [List.length_map]
          have h1 := List.length_filter_le (fun l => decide (wt l ≠ 0)) ((lotsFor ch zs).take i)
          rw [List.length_take] at h1
          exact Evl.sz_lt (by omega)
        · have hnew : l ∉ ((lotsFor ch zs).take i).filter fun l => decide (wt l ≠ 0) := by
            intro m
            obtain ⟨j, hj, e⟩ := List.mem_take_iff_getElem.mp (List.mem_filter.mp m).1
            have hil := (List.getElem?_eq_some_iff.mp hl).1
            have := nodup_inj (lots_nodup (ch := ch) nz) (i := j) (j := i) (by omega) hil (by
              rw [e]
              exact (List.getElem?_eq_some_iff.mp hl).2.symm)
            omega
          rw [upd_same, tab_put hnew, htake]
    · rintro H3 ⟨e3, hd3⟩
      rw [places_length nz, List.take_length] at hd3
      refine ⟨e3 _ _ hp3, ?_⟩
      have hq3 : upd H2 pd (.frz od (.dT (placesOf (lotsFor ch zs)))) q = some (.ins CQ dq [("folders", .ref x)]) := by rw [upd_ne hqp]; exact hq2
      have ht3 : upd H2 pd (.frz od (.dT (placesOf (lotsFor ch zs)))) t = some (.tup (zs.map V.str)) := by rw [upd_ne htp]; exact k2 _ _ htq ht
      have n2p : D2 ≠ pd := (ne_of_none hp3 nD2).symm
      have n2q : D2 ≠ q := (ne_of_none hq3 nD2).symm
      refine ⟨_, rfl, q, CQ, dq, [("folders", .ref x)], rfl, by rw [upd_ne hqp]; exact e3 _ _ hq3, TQ.cl, TQ.nT, by show 1 < 1000; decide, ?_⟩
      rw [putq2]
      refine qq _ ⟨dq, D2, upd_same, ⟨dx, t, pd, ?_, ?_, ?_⟩, ?_⟩ fun b u nb z => ?_
      · rw [upd_ne hxq, upd_ne hxp]; exact e3 _ _ hx3
      · rw [upd_ne htq, upd_ne htp]; exact e3 _ _ ht3
      · rw [upd_ne hpq, upd_same]
      · rw [upd_ne n2q, upd_ne n2p]; exact hd3
      · rw [upd_ne nb]
        by_cases nb2 : b = pd
        · subst nb2
          rw [upd_same, ← z, hp]
        · rw [upd_ne nb2]
          refine e3 _ _ ?_
          rw [upd_ne nb2]
          exact k2 _ _ nb z
end
end Bk

/-! the same with K told, and xs[::-1] -/
namespace Bk
open PySem PySem.Spec PyProof.Rows L2
section
variable {X : Cx} {CX : CXT} {n : Nat} {C f : Addr} {fd : FuncData} {ps : List Str} {sp : Sp} {E : XK} (K : PySem.W.Frag)
theorem kEqOwn (F : FnOk X.prog X.w X.K X.mg X.base CX n f fd ps sp) (hb : Binds X.K fd ps []) (hx : Passes CX X E) (hr : Room n X.A) (m : Own X.K C "__eq__" f) (e : X.K = K := by rfl) : OpR X (compareOp .Eq) (rCmpOwn K C sp E) := e ▸ op_cmpOwn (op := .Eq) F hb hx hr m
theorem kEqRefl (F : FnOk X.prog X.w X.K X.mg X.base CX n f fd ps sp) (hb : Binds X.K fd ps []) (hx : Passes CX X E) (hr : Room n X.A) (m : Own X.K C "__eq__" f) (e : X.K = K := by rfl) : OpR X (compareOp .Eq) (rEqRefl K C sp E) := e ▸ op_eqRefl F hb hx hr m
theorem kRev {e : Expr} {te : TE} {k : Nat} {p1 p2 p3 pos : Pos} (he : PE X e te) (h : X.K = K := by rfl) : PE X (.Subscript e (.Slice none none (some (.UnaryOp .USub (.Constant (.int 1) k p1) p2)) p3) pos) (tRevL K te) := h ▸ pe_revL he
end
end Bk

namespace Bk
open PySem PySem.Spec PyProof.Rows L2
def spWeight (K : PySem.W.Frag) (C CQ : Addr) : Sp := fun vs H Q _ => ∃ (q x a : Addr) (zs l : List Str) (ch : Bool) (wt : List Str → Int), vs = [.ref q, .ref a] ∧ QuestAt C CQ H q x zs ch wt ∧ zs.Nodup ∧ zs.length ≤ 12 ∧ l ∈ lotsFor ch zs ∧ zs.length ≤ mostFor ch ∧
  H a = some (.tup (l.map V.str)) ∧ ∀ H', Same H H' → Q (.int (wt l)) H'
def spQEq (K : PySem.W.Frag) (C CQ : Addr) : Sp := fun vs H Q _ => ∃ (q x q' x' : Addr) (zs zs' : List Str) (ch ch' : Bool) (wt wt' : List Str → Int), vs = [.ref q, .ref q'] ∧ QuestAt C CQ H q x zs ch wt ∧ QuestAt C CQ H q' x' zs' ch' wt' ∧
  (∀ z ∈ zs, isNameS z = true) ∧ (∀ z ∈ zs', isNameS z = true) ∧ ∀ H', Same H H' → Q (.bl (decide (zs = zs') && decide (ch = ch') && sameT (tableOf ch zs wt) (tableOf ch' zs' wt'))) H'
section
variable {P : Program} {w : World} {K : PySem.W.Frag} {mg : Str → Option Value} {base : Heap}
theorem scWeight : FnScope ["self", "lot", "known"] ["self", "lot"] (defScope (inClass (topS 47) 8)) := ⟨rfl, rfl, rfl, by decide +kernel, rfl, by decide +kernel, by decide +kernel⟩
theorem ok_weight (B : Bi mg) {C CQ f0 fQ f f1 : Addr} {fd fd1 : FuncData} (T : FolT K mg C f0) (TQ : QueT K mg CQ fQ) (c_lot_of : Cal P w K mg base CX0 2 "lot_of" f1 fd1 ["folders", "thing"] (spLotOf K C))
    (F : Fun K "weight" "Question.weight" (inClass (topS 47) 8) f fd) : FnOk P w K mg base CX0 3 f fd ["self", "lot"] (spWeight K C CQ) := by
  refine F.ok scWeight (fun vs H Q E h => ?_) (fun cdv A outer s H vs Q E hr h => ?_)
  · obtain ⟨q, x, a, zs, l, ch, wt, rfl, _⟩ := h
    rfl
  · obtain ⟨q, x, a, zs, l, ch, wt, rfl, QA, nz, l12, m, lz, ha, qq⟩ := h
    obtain ⟨dq, td, hq, FA, htd⟩ := QA
    have nd := scWeight.nd
    have hu := hu_of hr
    have hr_lot_of : Room 2 _ := hr.mono (by decide)
    refine ⟨_, (pss_cons (ps_set (i := 2) nd rfl (Or.inl rfl) (pe_call c_lot_of.ok hr_lot_of (by rfl) c_lot_of.g c_lot_of.kp c_lot_of.b .nil pass0 (pa_cons (pe_fld (pv 0) rfl) (pa_cons (pv 1) pa_nil))))
      (pss_cons (ps_if (pt_cmpR op_isN (pv 2) pe_non (nomark _)) (pss_one ps_no) pss_nil)
      (pss_one (ps_ret (pe_dget2 hu (pe_fld (pv 0) rfl) (pv 2) pe_int ⟨rfl, rfl, rfl, rfl⟩))))), ?_⟩
    have hl := lotOfV_lot (ch := ch) lz nz m
    refine ⟨_, rfl, q, CQ, dq, _, _, rfl, hq, TQ.cl, TQ.nF, look_folders _ _, _, rfl, x, .ref a, zs, ch, rfl, FA, nz, l12, .inr ⟨a, l.map V.str, rfl, .inr (SqT.of ha), sqs_kit (k := "tuple") (b1 := false) (b2 := true) (.base (.tup ha)) (by decide +kernel) (by decide +kernel), flat_strs _, ?_, fun H' e' hn => ?_, fun p l' H1 np e1 hl' hp1 => ?_⟩⟩
    · have := lot_len m
      rw [List.length_map]
      omega
    · rw [hl] at hn
      cases hn
    rw [hl] at hl'
    obtain rfl := Option.some.inj hl'
    refine ⟨_, rfl, rfl, _, rfl, ?_⟩
    refine iteF ?_
    have hp1' : H1 p = some (.tup ((l.map Sum.inr : List Key).map kV)) := by rw [hp1, str_key]
    refine ⟨_, rfl, q, CQ, dq, _, _, rfl, e1 _ _ hq, TQ.cl, TQ.nT, look_table _ _, td, rfl, .inr ⟨_, .inl (e1 _ _ htd)⟩, _, rfl, _, DGet.t (e1 _ _ htd) hp1', ?_⟩
    have hg := getT_table (wt := wt) m
    rw [valV_tab]
    have : ((getT (tableOf ch zs wt) (l.map Sum.inr)).map V.int).getD (.int 0) = .int (wt l) := by
      rw [← hg]
      cases getT (tableOf ch zs wt) (l.map Sum.inr) <;> rfl
    rw [this]
    exact qq H1 e1
theorem scQEq : FnScope ["self", "other"] ["self", "other"] (defScope (inClass (topS 47) 1)) := ⟨rfl, rfl, rfl, by decide +kernel, rfl, by decide +kernel, by decide +kernel⟩
theorem ok_qeq (B : Bi mg) {C CQ f0 fQ fE f : Addr} {fdE fd : FuncData} (T : FolT K mg C f0) (TQ : QueT K mg CQ fQ) (kQ : PySem.W.kitOne K (.ref CQ) (.ref CQ) = some true) (tQ : ∀ (H : Hp) (x dx : Addr) (fs : List (Str × V)), H x = some (.ins CQ dx fs) → TyX K H (.ref x) (.ref CQ))
    (kF : PySem.W.kitOne K (.ref C) (.ref C) = some true) (nC : PySem.W.notFirst K C (.ref C) = true) (tF : ∀ (H : Hp) (x dx : Addr) (fs : List (Str × V)), H x = some (.ins C dx fs) → TyX K H (.ref x) (.ref C))
    (GE : FnOk P w K mg base CX0 1 fE fdE ["self", "other"] (spFEq K C)) (bE : Binds K fdE ["self", "other"] []) (mE : Own K C "__eq__" fE)
    (F : Fun K "__eq__" "Question.__eq__" (inClass (topS 47) 1) f fd) : FnOk P w K mg base CX0 2 f fd ["self", "other"] (spQEq K C CQ) := by
  refine F.ok scQEq (fun vs H Q E h => ?_) (fun cdv A outer s H vs Q E hr h => ?_)
  · obtain ⟨q, x, q', x', zs, zs', ch, ch', wt, wt', rfl, _⟩ := h
    rfl
  · obtain ⟨q, x, q', x', zs, zs', ch, ch', wt, wt', rfl, ⟨dq, td, hq, FA, htd⟩, ⟨dq', td', hq', FA', htd'⟩, hn, hn', qq⟩ := h
    have nd := scQEq.nd
    have hu := hu_of hr
    have g_Question := TQ.g
    have hrE : Room 1 _ := hr.mono (by decide)
    refine ⟨_, (pss_one (ps_ret (pe_and (pe_callB (kIsi K) (by rfl) B.isinstance (by decide +kernel) (pa_cons (pv 1) (pa_cons (pe_glob (v := .ref _) (by rfl) g_Question rfl) pa_nil))) (pe_and (pe_cmpR (kEqOwn K GE bE pass0 hrE mE) (pe_fld (pv 0) rfl) (pe_fld (pv 1) rfl) (nomark _)) (pe_one (pe_cmpR (op_eqT hu) (pe_fld (pv 0) rfl) (pe_fld (pv 1) rfl) (nomark _))))))), ?_⟩
    refine ⟨_, rfl, .ref q', .ref CQ, .ref CQ, .ref CQ, true, rfl, .own _, tQ _ _ _ _ hq', kQ, _, rfl, ?_⟩
    refine iteT ?_
    obtain ⟨dx, t, pd, hx, _, _⟩ := id FA
    obtain ⟨dx', t', pd', hx', _, _⟩ := id FA'
    refine ⟨_, rfl, q, CQ, dq, _, _, rfl, hq, TQ.cl, TQ.nF, look_folders _ _, _, rfl, q', CQ, dq', _, _, rfl, hq', TQ.cl, TQ.nF, look_folders _ _, ?_⟩
    refine ⟨x, dx, _, .ref C, rfl, hx, tF _ _ _ _ hx', nC, x, .ref x', .ref C, zs, ch, _, rfl, FA, hn, tF _ _ _ _ hx', .inr ⟨kF, x', zs', ch', rfl, FA', hn', rfl⟩, fun H1 e1 => ⟨_, rfl, _, rfl, ?_⟩⟩
    have qq := qq H1 e1
    cases hb : decide (zs = zs') && decide (ch = ch') with
    | false =>
      rw [hb] at qq
      refine iteF ?_
      exact qq
    | true =>
      rw [hb, Bool.true_and] at qq
      refine iteT ?_
      refine ⟨_, rfl, q, CQ, dq, _, _, rfl, e1 _ _ hq, TQ.cl, TQ.nT, look_table _ _, _, rfl, q', CQ, dq', _, _, rfl, e1 _ _ hq', TQ.cl, TQ.nT, look_table _ _, ?_⟩
      exact ⟨td, td', _, _, rfl, rfl, e1 _ _ htd, e1 _ _ htd', qq⟩
end
end Bk

/-! comprehensions that map or filter, over lists, tuples and the places -/
namespace Bk
open PySem PySem.Spec PyProof.Rows L2
section
variable {J : It} {G : Hp → Prop} {xs : List V}
/-- [F(x) for x in xs] -/
theorem map_it (w : Walk J xs.length G (YAt xs)) {g : TG} {te : TE} {vs : List Nat} {σ : L2.St} {H1 : Hp} {D : Addr} {Qd : Hp → Prop} (F : V → V) (nD : H1 D = none) (hG : ∀ H', Same H1 H' → G H') (hl : xs.length ≤ 100000)
    (hs : ∀ v H' (R : VK), v ∈ xs → Same H1 H' → (∀ H2, Same H' H2 → R (F v) H2) → g v (wipe σ vs) H' fun σ2 H2 => wipe σ2 vs = wipe σ vs ∧ te σ2 H2 R)
    (hd : ∀ H', Same H1 H' → H' D = some (.lst (xs.map F)) → Qd H') :
    ∃ W : Nat → Nat → Hp → Prop, (∃ m, W 0 m (upd H1 D (.lst []))) ∧ ∀ i m H, W i m H →
      (J.stop i H ∧ Qd H) ∨ (J.go i H ∧ ∃ Nx : Hp → Prop, (∀ H', Nx H' → ∃ m', m' < m ∧ W (i + 1) m' H') ∧ ∀ x H', J.yld i H x H' → g x (wipe σ vs) H' fun σ2 H2 => wipe σ2 vs = wipe σ vs ∧ tYes σ2 H2 fun b H3 =>
        if b = true then te σ2 H3 fun y H4 => ∃ acc, H4 D = some (.lst acc) ∧ acc.length < sizeLine ∧ Nx (upd H4 D (.lst (acc ++ [y]))) else Nx H3) := by
  refine lc_it w (Upto H1 D xs F) (.zero nD) (fun i H' _ u => hG H' u.sm) ?_ fun H' u => hd H' u.sm (u.all rfl)
  rintro i x H' H2 hi u ⟨rfl, hx⟩
  have h := hs x H2 (fun y H4 => ∃ acc, H4 D = some (.lst acc) ∧ acc.length < sizeLine ∧ Upto H1 D xs F (i + 1) (upd H4 D (.lst (acc ++ [y])))) (List.mem_of_getElem? hx) u.sm fun H3 e3 => u.next nD hx e3 hl
  exact h
/-- [x for x in xs if p(x)] -/
theorem filt_it (w : Walk J xs.length G (YAt xs)) {g : TG} {tt : TT} {vs : List Nat} {k : Nat} {σ : L2.St} {H1 : Hp} {D : Addr} {Qd : Hp → Prop} (p : V → Bool) (nD : H1 D = none) (hG : ∀ H', Same H1 H' → G H') (hl : xs.length ≤ 100000)
    (hs : ∀ v H' (R : L2.St → Bool → Hp → Prop), v ∈ xs → Same H1 H' → (∀ σ2 H2, σ2[k]? = some (some v) → Same H' H2 → R σ2 (p v) H2) → g v (wipe σ vs) H' fun σ2 H2 => wipe σ2 vs = wipe σ vs ∧ tt σ2 H2 (R σ2))
    (hd : ∀ H', Same H1 H' → H' D = some (.lst (xs.filter p)) → Qd H') :
    ∃ W : Nat → Nat → Hp → Prop, (∃ m, W 0 m (upd H1 D (.lst []))) ∧ ∀ i m H, W i m H →
      (J.stop i H ∧ Qd H) ∨ (J.go i H ∧ ∃ Nx : Hp → Prop, (∀ H', Nx H' → ∃ m', m' < m ∧ W (i + 1) m' H') ∧ ∀ x H', J.yld i H x H' → g x (wipe σ vs) H' fun σ2 H2 => wipe σ2 vs = wipe σ vs ∧ tt σ2 H2 fun b H3 =>
        if b = true then tVar k σ2 H3 fun y H4 => ∃ acc, H4 D = some (.lst acc) ∧ acc.length < sizeLine ∧ Nx (upd H4 D (.lst (acc ++ [y]))) else Nx H3) := by
  refine lc_it w (UptoF H1 D xs id p) (.zero nD) (fun i H' _ u => hG H' u.sm) ?_ fun H' u => hd H' u.sm (by have := u.all rfl; rwa [List.map_id] at this)
  rintro i x H' H2 hi u ⟨rfl, hx⟩
  have h := hs x H2 (fun σ2 b H3 => if b = true then tVar k σ2 H3 fun y H4 => ∃ acc, H4 D = some (.lst acc) ∧ acc.length < sizeLine ∧ UptoF H1 D xs id p (i + 1) (upd H4 D (.lst (acc ++ [y]))) else UptoF H1 D xs id p (i + 1) H3) (List.mem_of_getElem? hx) u.sm fun σ2 H3 e2 e3 => by
    cases hp : p x with
    | true =>
      rw [if_pos rfl]
      exact ⟨_, e2, u.yes nD hx hp e3 hl⟩
    | false =>
      rw [if_neg Bool.false_ne_true]
      exact u.no hx hp e3
  exact h
end
/-- what a list or a tuple in a slot is gone through -/
def iLT (K : PySem.W.Frag) (tl : TE) : TI := fun σ H R => iList K tl σ H R ∨ iTup K tl σ H R
section
variable {K : PySem.W.Frag} {a : Addr} {xs : List V} {i : Nat} {σ : L2.St} {H : Hp}
theorem walk_S {R : It → Hp → Prop} (hv : σ[i]? = some (some (.ref a))) (hS : SqL K H a xs ∨ SqT K H a xs) (h : ∀ (J : It) (G : Hp → Prop), Walk J xs.length G (YAt xs) → (∀ H', Same H H' → G H') → R J H) : iLT K (tVar i) σ H R := by
  rcases hS with hS | hS
  · exact .inl ⟨_, hv, a, rfl, ⟨xs, hS⟩, h _ _ walk_list fun H' e => e.seq hS⟩
  · exact .inr ⟨_, hv, a, rfl, ⟨xs, hS⟩, h _ _ walk_tup fun H' e => Same.sqt e hS⟩
theorem for_S {g : TG} {tb : TS} {D : Ends} (hv : σ[i]? = some (some (.ref a))) (hS : SqL K H a xs ∨ SqT K H a xs) (Pv : Nat → L2.St → Hp → Prop) (h0 : Pv 0 σ H) (hG : ∀ k σ' H', Pv k σ' H' → Same H H')
    (hs : ∀ k x σ' H', k < xs.length → xs[k]? = some x → Pv k σ' H' → g x σ' H' fun σ2 H3 => tb { D with nx := Pv (k + 1), ct := Pv (k + 1), bk := D.nx } σ2 H3) (hd : ∀ σ' H', Pv xs.length σ' H' → D.nx σ' H') :
    tFor (iLT K (tVar i)) g tb D σ H :=
  walk_S hv hS fun J G wk kG => for_it wk Pv h0 (fun k σ' H' _ p => kG H' (hG k σ' H' p)) (fun k x σ' H' H2 hk p y => by
    obtain ⟨rfl, hx⟩ := y
    exact hs k x σ' H2 hk hx p) hd
theorem map_S {g : TG} {te : TE} {vs : List Nat} {Q : VK} (F : V → V) (hv : σ[i]? = some (some (.ref a))) (hS : SqL K H a xs ∨ SqT K H a xs) (hl : xs.length ≤ 100000)
    (hs : ∀ v H' (R : VK), v ∈ xs → Same H H' → (∀ H2, Same H' H2 → R (F v) H2) → g v (wipe σ vs) H' fun σ2 H2 => wipe σ2 vs = wipe σ vs ∧ te σ2 H2 R)
    (hd : ∀ D H', H D = none → Same H H' → H' D = some (.lst (xs.map F)) → Q (.ref D) H') : tLc (iLT K (tVar i)) g tYes te vs σ H Q :=
  walk_S hv hS fun J G wk kG D nD => map_it wk F nD kG hl hs fun H' e h => hd D H' nD e h
theorem map_L {g : TG} {te : TE} {vs : List Nat} {Q : VK} (F : V → V) (hv : σ[i]? = some (some (.ref a))) (hS : SqL K H a xs) (hl : xs.length ≤ 100000)
    (hs : ∀ v H' (R : VK), v ∈ xs → Same H H' → (∀ H2, Same H' H2 → R (F v) H2) → g v (wipe σ vs) H' fun σ2 H2 => wipe σ2 vs = wipe σ vs ∧ te σ2 H2 R)
    (hd : ∀ D H', H D = none → Same H H' → H' D = some (.lst (xs.map F)) → Q (.ref D) H') : tLc (iList K (tVar i)) g tYes te vs σ H Q :=
  ⟨_, hv, a, rfl, ⟨xs, hS⟩, fun D nD => map_it walk_list F nD (fun H' e => e.seq hS) hl hs fun H' e h => hd D H' nD e h⟩
theorem map_T {g : TG} {te : TE} {vs : List Nat} {Q : VK} (F : V → V) (hv : σ[i]? = some (some (.ref a))) (hS : SqT K H a xs) (hl : xs.length ≤ 100000)
    (hs : ∀ v H' (R : VK), v ∈ xs → Same H H' → (∀ H2, Same H' H2 → R (F v) H2) → g v (wipe σ vs) H' fun σ2 H2 => wipe σ2 vs = wipe σ vs ∧ te σ2 H2 R)
    (hd : ∀ D H', H D = none → Same H H' → H' D = some (.lst (xs.map F)) → Q (.ref D) H') : tLc (iTup K (tVar i)) g tYes te vs σ H Q :=
  ⟨_, hv, a, rfl, ⟨xs, hS⟩, fun D nD => map_it walk_tup F nD (fun H' e => Same.sqt e hS) hl hs fun H' e h => hd D H' nD e h⟩
end
/-- [lot for lot in folders.places if p(lot)] -/
theorem places_it {od : Obj} {pd D : Addr} {ch : Bool} {zs : List Str} {g : TG} {tt : TT} {vs : List Nat} {k : Nat} {σ : L2.St} {H1 : Hp} {Qd : Hp → Prop} (nz : zs.Nodup) (lz : zs.length ≤ mostFor ch) (p : List Str → Bool) (hp : H1 pd = some (.frz od (.dT (placesOf (lotsFor ch zs))))) (nD : H1 D = none)
    (hs : ∀ l q H' (R : L2.St → Bool → Hp → Prop), l ∈ lotsFor ch zs → Same H1 H' → H' q = some (.tup (l.map V.str)) → (∀ σ2 H2, σ2[k]? = some (some (.ref q)) → Same H' H2 → R σ2 (p l) H2) → g (.ref q) (wipe σ vs) H' fun σ2 H2 => wipe σ2 vs = wipe σ vs ∧ tt σ2 H2 (R σ2))
    (hd : ∀ ws H', Same H1 H' → H' D = some (.lst ws) → Ats H' (fun l : List Str => l.map V.str) ws ((lotsFor ch zs).filter p) → Qd H') :
    ∃ W : Nat → Nat → Hp → Prop, (∃ m, W 0 m (upd H1 D (.lst []))) ∧ ∀ i m H, W i m H →
      ((Itkt pd od (placesOf (lotsFor ch zs))).stop i H ∧ Qd H) ∨ ((Itkt pd od (placesOf (lotsFor ch zs))).go i H ∧ ∃ Nx : Hp → Prop, (∀ H', Nx H' → ∃ m', m' < m ∧ W (i + 1) m' H') ∧ ∀ x H', (Itkt pd od (placesOf (lotsFor ch zs))).yld i H x H' → g x (wipe σ vs) H' fun σ2 H2 => wipe σ2 vs = wipe σ vs ∧ tt σ2 H2 fun b H3 =>
        if b = true then tVar k σ2 H3 fun y H4 => ∃ acc, H4 D = some (.lst acc) ∧ acc.length < sizeLine ∧ Nx (upd H4 D (.lst (acc ++ [y]))) else Nx H3) := by
  have lots3 : (lotsFor ch zs).length ≤ 2000 := lots_few lz
  refine lc_it walk_keysT (fun i H' => ∃ ws, Same H1 H' ∧ H' D = some (.lst ws) ∧ Ats H' (fun l : List Str => l.map V.str) ws (((lotsFor ch zs).take i).filter p)) ⟨[], same_upd nD, upd_same, .nil⟩ (fun i H' _ ⟨_, e, _⟩ => e _ _ hp) ?_ ?_
  · rintro i x H' H2 hi ⟨ws, e, hD, at1⟩ ⟨rfl, kk, v, q, hk, rfl, hq⟩
    obtain ⟨l, hl, rfl⟩ := places_key nz hk
    rw [str_key] at hq
    have lenw : ws.length ≤ 2000 := by
      rw [at1.1]
      have h1 := List.length_filter_le p ((lotsFor ch zs).take i)
      rw [List.length_take] at h1
      omega
    have htake : ((lotsFor ch zs).take (i + 1)).filter p = ((lotsFor ch zs).take i).filter p ++ if p l = true then [l] else [] := by
      rw [take_succ hl, List.filter_append]
      cases h : p l <;> simp [h]
    exact hs l q H2 (fun σ2 b H3 => if b = true then tVar k σ2 H3 fun y H4 => ∃ acc, H4 D = some (.lst acc) ∧ acc.length < sizeLine ∧ (∃ ws, Same H1 (upd H4 D (.lst (acc ++ [y]))) ∧ (upd H4 D (.lst (acc ++ [y]))) D = some (.lst ws) ∧ Ats (upd H4 D (.lst (acc ++ [y]))) (fun l : List Str => l.map V.str) ws (((lotsFor ch zs).take (i + 1)).filter p)) else ∃ ws, Same H1 H3 ∧ H3 D = some (.lst ws) ∧ Ats H3 (fun l : List Str => l.map V.str) ws (((lotsFor ch zs).take (i + 1)).filter p))
      (List.mem_of_getElem? hl) e hq fun σ2 H3 e2 e3 => by
      cases h : p l with
      | true =>
        rw [if_pos rfl]
        have hD3 := e3 _ _ hD
        refine ⟨_, e2, ws, hD3, Evl.sz_lt (by omega), ws ++ [.ref q], Same.grow (Same.trans e e3) nD, upd_same, ?_⟩
        rw [htake, if_pos h]
        exact ((at1.same e3).append (Ats.one (e3 _ _ hq))).updL hD3
      | false =>
        rw [if_neg Bool.false_ne_true]
        refine ⟨ws, Same.trans e e3, e3 _ _ hD, ?_⟩
        rw [htake, if_neg (by rw [h]; exact Bool.false_ne_true), List.append_nil]
        exact at1.same e3
  · rintro H' ⟨ws, e, hD, at1⟩
    rw [places_length nz, List.take_length] at at1
    exact hd ws H' e hD at1
end Bk
namespace Bk
open PySem PySem.Spec PyProof.Rows L2
theorem tb1 {r : List V → Hp → VK → Prop} {te : TE} {σ : L2.St} {H : Hp} {R : Bool → Hp → Prop} (h : te σ H fun x H1 => r [x] H1 fun y H2 => ∃ c, y = .bl c ∧ R c H2) : tB (tCB r (tCons te tNil)) σ H R := h
end Bk

/-! iterators that come to their end while an exception is handled -/
namespace Bk
open PySem PySem.Spec PyProof.Rows L2 HotX
section
variable {prog : Program} {w : World} {A : Around} {E : Value → Shared → Prop} {s : Shared}
theorem hot_ne {x1 it : Addr} {o : Obj} {vs : Array Value} (hot : HotAt A x1 s.heap) (ho : s.heap.get? it = some o) (hd : o.data = .fields vs) (h2 : vs[2]? ≠ some .none) : x1 ≠ it := by
  obtain ⟨_, o1, v1, e1, d1, c1⟩ := hot
  intro e
  subst e
  rw [ho] at e1
  cases e1
  rw [hd] at d1
  cases d1
  exact h2 c1
/-- what is left of the end of an iterator once its field is cleared -/
theorem stop_hot {α : Type} {it x1 : Addr} {h1 : Heap} {Q : Option Value → Shared → Prop} (hot : HotAt A x1 h1) (eb : Heap.ExtBut it s.heap h1) (hit : ∃ o, s.heap.get? it = some o) (hQ : ∀ h', Heap.ExtBut it s.heap h' → Q none { s with heap := h' }) :
    wpAny (model prog w) A.in1 (Builtin.SmallTypes.stopIteration (α := α)) (fun _ _ => False) (fun e s1 => wpAny (model prog w) A (isInstance e (.type "StopIteration")) (fun b s2 => b = true ∧ Q none s2) E s1) { s with heap := h1 } := by
  show wpAny _ _ (newExc (.type "StopIteration") [] >>= _) _ _ _
  refine wpAny_bind ?_
  simp only [newExc, newTuple]
  refine wpAny_bind (wpAny_newObj_type ?_ (by size_fits))
  refine wpAny_bind (m := firstArgMember _ _) (wpAny_of_eq (a := Value.none) (by first | rfl | (simp only [firstArgMember]; rfl)) ?_)
  refine wpAny_newObj_type ?_ (by size_fits)
  obtain ⟨hh, o1, v1, e1, d1, c1⟩ := hot
  refine raiseNew_hot (x1 := x1) ⟨hh, o1, v1, Heap.get?_push_of_some _ (Heap.get?_push_of_some _ e1), d1, c1⟩ (Nat.ne_of_lt (Heap.lt_size (Heap.get?_push_of_some _ e1))) (Heap.get?_push_size _ rfl) rfl (by first | (simp; done) | (simp; omega) | (simp only [Array.size_append]; simp; omega)) ?_
  refine wpAny_isInstance (T := "StopIteration") (b := true) ⟨_, Heap.get?_update_self _ (Heap.get?_push_size _ rfl) rfl, rfl⟩ isSubtype_stop ⟨rfl, hQ _ fun b u hb e => ?_⟩
  have e2 := eb b u hb e
  rw [Heap.get?_update_other _ _ (Nat.ne_of_gt (Heap.lt_size (Heap.get?_push_of_some _ e2)))]
  exact Heap.get?_push_of_some _ (Heap.get?_push_of_some _ e2)
theorem hot_keep {x1 it : Addr} {f : Obj → Obj} {h : Heap} (hot : HotAt A x1 h) (nx : x1 ≠ it) : HotAt A x1 (h.update it f) := by
  obtain ⟨hh, o1, v1, e1, d1, c1⟩ := hot
  exact ⟨hh, o1, v1, by rw [Heap.get?_update_other _ _ nx.symm]; exact e1, d1, c1⟩
theorem hot_in {x1 : Addr} {h : Heap} (hot : HotAt A x1 h) : HotAt A.in1 x1 h := hot
/-- a list is at its end -/
theorem list_stop_hot {it l x1 : Addr} {i : Nat} {items : Array Value} {Q : Option Value → Shared → Prop} (hot : HotAt A x1 s.heap) (hit : s.heap.IsListIter it l i) (hl : s.heap.IsList l items) (hx : items[i]? = none)
    (hQ : ∀ h', Heap.ExtBut it s.heap h' → Q none { s with heap := h' }) : wpAny (model prog w) A (pyNext (.ref it)) Q E s := by
  obtain ⟨oi, hoi, hci, hdi⟩ := id hit
  obtain ⟨ol, hol, _, nl, hdl⟩ := hl
  have nx : x1 ≠ it := hot_ne hot hoi hdi (by simp)
  unfold pyNext
  refine wpAny_bind (wpAny_attempt (wpAny_callSpecial?_slot (name := Str.ofString "__next__") hit.typeIs slot_listiter_next (wpAny_call_entry slot_listiter_next hit.typeIs entry_listiter_next ?_ (args_listiter_next _))))
  show wpAny _ _ (field (.ref it) 0 >>= _) _ _ s
  refine wpAny_bind (wpAny_field hoi hdi (x := .ref l) rfl ?_)
  show wpAny _ _ (if (Value.ref l == Value.none) = true then _ else _) _ _ s
  rw [if_neg (by intro z; exact Bool.false_ne_true z : ¬ ((Value.ref l == Value.none) = true))]
  show wpAny _ _ (field (.ref it) 1 >>= _) _ _ s
  refine wpAny_bind (wpAny_field hoi hdi (x := .int i 0) rfl ?_)
  show wpAny _ _ (seqItems? (.ref l) >>= _) _ _ s
  refine wpAny_bind (wpAny_seqItems hol hdl ?_)
  simp only [Int.toNat_natCast, hx]
  refine wpAny_bind (wpAny_rule (wpAny_bind (wpAny_setField hoi hdi (by simp) ?_)))
  refine wpAny_mono (stop_hot (s := s) (E := E) (hot_keep hot nx) (Heap.SameBut.update ..).extBut ⟨_, hoi⟩ hQ) (fun _ _ z => False.elim z) fun e s1 h => ?_
  exact wpAny_bind (wpAny_mono h (fun b s2 ⟨hb, q⟩ => by subst hb; exact wpAny_pure q) fun _ _ z => z)
/-- a tuple is at its end -/
theorem tuple_stop_hot {it t x1 : Addr} {i : Nat} {items : Array Value} {Q : Option Value → Shared → Prop} (hot : HotAt A x1 s.heap) (hit : s.heap.IsTupleIter it t i) (ht : s.heap.IsTuple t items) (hx : items[i]? = none)
    (hQ : ∀ h', Heap.ExtBut it s.heap h' → Q none { s with heap := h' }) : wpAny (model prog w) A (pyNext (.ref it)) Q E s := by
  obtain ⟨oi, hoi, hci, hdi⟩ := id hit
  obtain ⟨ot, hot', _, nt, hdt⟩ := ht
  have nx : x1 ≠ it := hot_ne hot hoi hdi (by simp)
  unfold pyNext
  refine wpAny_bind (wpAny_attempt (wpAny_callSpecial?_slot (name := Str.ofString "__next__") hit.typeIs F.slot_tuple_iterator_next (wpAny_call_entry F.slot_tuple_iterator_next hit.typeIs F.entry_tuple_iterator_next ?_ (F.args_tuple_iterator_next_1 _))))
  show wpAny _ _ (field (.ref it) 0 >>= _) _ _ s
  refine wpAny_bind (wpAny_field hoi hdi (x := .ref t) rfl ?_)
  show wpAny _ _ (if (Value.ref t == Value.none) = true then _ else _) _ _ s
  rw [if_neg (by intro z; exact Bool.false_ne_true z : ¬ ((Value.ref t == Value.none) = true))]
  show wpAny _ _ (field (.ref it) 1 >>= _) _ _ s
  refine wpAny_bind (wpAny_field hoi hdi (x := .int i 0) rfl ?_)
  show wpAny _ _ (seqItems? (.ref t) >>= _) _ _ s
  refine wpAny_bind (wpAny_seqItems hot' hdt ?_)
  simp only [Int.toNat_natCast, hx]
  refine wpAny_bind (wpAny_rule (wpAny_bind (wpAny_setField hoi hdi (by simp) ?_)))
  refine wpAny_mono (stop_hot (s := s) (E := E) (hot_keep hot nx) (Heap.SameBut.update ..).extBut ⟨_, hoi⟩ hQ) (fun _ _ z => False.elim z) fun e s1 h => ?_
  exact wpAny_bind (wpAny_mono h (fun b s2 ⟨hb, q⟩ => by subst hb; exact wpAny_pure q) fun _ _ z => z)
/-- the keys of a dict are at their end -/
theorem key_stop_hot {it d x1 : Addr} {i n ep : Nat} {od : Obj} {es : Array DictEntry} {Q : Option Value → Shared → Prop} (hot : HotAt A x1 s.heap) (hit : s.heap.IsKeyIter it d i n ep) (hod : s.heap.get? d = some od) (hdd : od.data = .dict es ep) (hsz : es.size = n) (hge : n ≤ i)
    (hQ : ∀ h', Heap.ExtBut it s.heap h' → Q none { s with heap := h' }) : wpAny (model prog w) A (pyNext (.ref it)) Q E s := by
  obtain ⟨oi, hoi, hci, hdi⟩ := id hit
  have nx : x1 ≠ it := hot_ne hot hoi hdi (by simp [rawInt])
  unfold pyNext
  refine wpAny_bind (wpAny_attempt (wpAny_callSpecial?_slot (name := Str.ofString "__next__") hit.typeIs F.slot_dict_keyiterator_next (wpAny_call_entry F.slot_dict_keyiterator_next hit.typeIs F.entry_dict_keyiterator_next ?_ (F.args_dict_keyiterator_next_1 _))))
  refine wpAny_bind (wpAny_pure (wpAny_bind (wpAny_bind ?_)))
  first | refine wpAny_bind (wpAny_typeNameOfWhole_keyiter hit.typeIs (wpAny_pure (wpAny_bind (wpAny_fieldsOf hoi hdi ?_)))) | refine wpAny_bind (wpAny_typeNameOf_keyiter hit.typeIs (wpAny_pure (wpAny_bind (wpAny_fieldsOf hoi hdi ?_))))
  have own0 : Builtin.Dict_items.ownsTuple "dict_keyiterator" = false := by decide +kernel
  simp only [own0, Bool.false_eq_true, if_false]
  show wpAny _ _ (if (Value.ref d == Value.none) = true then _ else _) _ _ s
  rw [if_neg (by intro z; exact Bool.false_ne_true z : ¬ ((Value.ref d == Value.none) = true))]
  refine wpAny_bind (wpAny_pure (wpAny_bind (wpAny_dictEntries hod hdd ?_)))
  rw [if_neg (by rw [hsz]; simp)]
  refine wpAny_bind (wpAny_pure (wpAny_bind (wpAny_dictEpoch hod hdd ?_)))
  rw [if_neg (by simp)]
  refine wpAny_pure ?_
  have past : es.size ≤ i := by rw [hsz]; exact hge
  simp only [show ¬ ((i : Int) < 0) from by omega, if_false, Int.toNat_natCast, Array.getElem?_eq_none past]
  first | refine wpAny_bind (wpAny_bind (wpAny_typeNameOfWhole_keyiter hit.typeIs (wpAny_pure ?_))) | refine wpAny_bind (wpAny_bind (wpAny_typeNameOf_keyiter hit.typeIs (wpAny_pure ?_)))
  show wpAny _ _ (setField (.ref it) 0 .none >>= _) _ _ s
  refine wpAny_bind (wpAny_setField hoi hdi (by simp) ?_)
  refine wpAny_mono (stop_hot (s := s) (E := E) (hot_keep hot nx) (Heap.SameBut.update ..).extBut ⟨_, hoi⟩ hQ) (fun _ _ z => False.elim z) fun e s1 h => ?_
  exact wpAny_bind (wpAny_mono h (fun b s2 ⟨hb, q⟩ => by subst hb; exact wpAny_pure q) fun _ _ z => z)
end
end Bk

/-! lists, tuples and the keys of dicts gone through while an exception is handled -/
namespace Bk
open PySem PySem.Spec PyProof.Rows L2 HotX L2H
section
variable {P : Program} {w : World} {K : PySem.W.Frag} {tg : Expr}
theorem turnH_list (a it : Addr) : TurnH P w K tg (Itl K a) [it] it (fun i h => h.IsListIter it a i) where
  mem := List.mem_singleton.mpr rfl
  obj := fun i h st b hb => by
    obtain rfl := List.mem_singleton.mp hb
    obtain ⟨o, e, _, d⟩ := st
    exact ⟨o, e, fun v z => by rw [d] at z; exact nomatch z⟩
  keep := fun i h h' st k => st.at fun o e => k it (List.mem_singleton.mpr rfl) o e
  item := by
    intro X hP hw hK hc i pins s σ H E I hf st ⟨xs, x, hq, hx⟩
    subst hP hw hK
    obtain ⟨its, rv, pl, _⟩ := I.list hq
    obtain ⟨u, hu, ru⟩ := rv.get hx
    obtain ⟨g0, g1, g2, g3, g4, g5⟩ := hf it (List.mem_singleton.mpr rfl)
    refine wpAny_pyNext_list_item st pl.isList (x := u) (by simpa using hu) fun h2 st2 sb => ?_
    have I2 : Inv X pins σ H { s with heap := h2 } := I.turned (t' := s.toks) (fun b o hb e => (sb.2 b hb).trans e) g0 g1 g3 g4 g5
    obtain ⟨o, e, c, d⟩ := id st2
    exact ⟨u, rfl, go_of (s := { s with heap := h2 }) e c d (by decide) ⟨x, H, I2, ru, ⟨rfl, fun ys hy => by rw [I.list_inj hy hq]; exact hx⟩, st2, fun b hb => (hf b hb).1⟩⟩
  done := by
    intro X hP hw hK hc i pins s σ H E I hf st ⟨xs, hq, hx⟩
    subst hP hw hK
    obtain ⟨its, rv, pl, _⟩ := I.list hq
    obtain ⟨g0, g1, g2, g3, g4, g5⟩ := hf it (List.mem_singleton.mpr rfl)
    obtain ⟨x1, hot⟩ := hc.at I
    have hl := rv.length
    exact list_stop_hot hot st pl.isList (by simp; omega) fun h2 eb => ⟨rfl, I.turned (t' := s.toks) (fun b o hb e => eb b o hb e) g0 g1 g3 g4 g5⟩
  self := fun _ _ _ _ _ st q => wpAny_pyIter_listiter st q
theorem turnH_tuple (a it : Addr) : TurnH P w K tg (Itt K a) [it] it (fun i h => h.IsTupleIter it a i) where
  mem := List.mem_singleton.mpr rfl
  obj := fun i h st b hb => by
    obtain rfl := List.mem_singleton.mp hb
    obtain ⟨o, e, _, d⟩ := st
    exact ⟨o, e, fun v z => by rw [d] at z; exact nomatch z⟩
  keep := fun i h h' st k => st.at fun o e => k it (List.mem_singleton.mpr rfl) o e
  item := by
    intro X hP hw hK hc i pins s σ H E I hf st ⟨xs, x, hq, hx⟩
    subst hP hw hK
    obtain ⟨its, rv, pt, _⟩ := I.tuple hq
    obtain ⟨u, hu, ru⟩ := rv.get hx
    obtain ⟨g0, g1, g2, g3, g4, g5⟩ := hf it (List.mem_singleton.mpr rfl)
    refine wpAny_pyNext_tuple_item st (show s.heap.IsTuple a its.toArray from pt) (x := u) (by simpa using hu) fun h2 st2 sb => ?_
    have I2 : Inv X pins σ H { s with heap := h2 } := I.turned (t' := s.toks) (fun b o hb e => (sb.2 b hb).trans e) g0 g1 g3 g4 g5
    obtain ⟨o, e, c, d⟩ := id st2
    exact ⟨u, rfl, go_of (s := { s with heap := h2 }) e c d (by decide) ⟨x, H, I2, ru, ⟨rfl, fun ys hy => by rw [I.tuple_inj hy hq]; exact hx⟩, st2, fun b hb => (hf b hb).1⟩⟩
  done := by
    intro X hP hw hK hc i pins s σ H E I hf st ⟨xs, hq, hx⟩
    subst hP hw hK
    obtain ⟨its, rv, pt, _⟩ := I.tuple hq
    obtain ⟨g0, g1, g2, g3, g4, g5⟩ := hf it (List.mem_singleton.mpr rfl)
    obtain ⟨x1, hot⟩ := hc.at I
    have hl := rv.length
    exact tuple_stop_hot hot st (show s.heap.IsTuple a its.toArray from pt) (by simp; omega) fun h2 eb => ⟨rfl, I.turned (t' := s.toks) (fun b o hb e => eb b o hb e) g0 g1 g3 g4 g5⟩
  self := fun _ _ _ _ _ st q => wpAny_pyIter_tupleiter st q
theorem turnH_keys {d : Addr} {o : Obj} {es : Array DictEntry} {ep : Nat} {kvs : List (Key × V)} (it : Addr) (hod : o.data = .dict es ep) : TurnH P w K tg (Itk d o kvs) [it] it (fun i h => h.IsKeyIter it d i kvs.length ep) where
  mem := List.mem_singleton.mpr rfl
  obj := fun i h st b hb => by
    obtain rfl := List.mem_singleton.mp hb
    obtain ⟨oi, e, _, dd⟩ := st
    exact ⟨oi, e, fun v z => by rw [dd] at z; exact nomatch z⟩
  keep := fun i h h' st k => st.at fun o e => k it (List.mem_singleton.mpr rfl) o e
  item := by
    intro X hP hw hK hc i pins s σ H E I hf st ⟨hd, hi⟩
    subst hP hw hK
    obtain ⟨g0, g1, g2, g3, g4, g5⟩ := hf it (List.mem_singleton.mpr rfl)
    obtain ⟨hs, hgd, hx, es', ep', vs, hdt, hsz, kv, hm⟩ := I.frzK hd
    obtain ⟨rfl, rfl⟩ := dict_ep hod hdt
    obtain ⟨⟨k, v⟩, hkv⟩ : ∃ p, kvs[i]? = some p := ⟨_, List.getElem?_eq_getElem hi⟩
    obtain ⟨u, hu, ru⟩ := kv_get kv hkv
    have len : kvs.length = vs.length := Paired.length kv
    rw [len] at st
    refine wpAny_pyNext_dict_item st hm hu fun key h2 hkey st2 sb => ?_
    have I2 : Inv X pins σ H { s with heap := h2 } := I.turned (t' := s.toks) (fun b ob hb e => (sb.2 b hb).trans e) g0 g1 g3 g4 g5
    obtain ⟨oi, e, c, dd⟩ := id st2
    refine ⟨key, rfl, go_of (s := { s with heap := h2 }) e c dd (by decide) ⟨kV k, H, I2, relV_key (show keyIs k key = true from hkey), ⟨rfl, k, v, hkv, rfl⟩, ?_, fun b hb => (hf b hb).1⟩⟩
    show h2.IsKeyIter it d (i + 1) kvs.length _
    rw [len]
    exact st2
  done := by
    intro X hP hw hK hc i pins s σ H E I hf st ⟨hd, hi⟩
    subst hP hw hK
    obtain ⟨g0, g1, g2, g3, g4, g5⟩ := hf it (List.mem_singleton.mpr rfl)
    obtain ⟨hs, hgd, hx, es', ep', vs, hdt, hsz, kv, hm⟩ := I.frzK hd
    obtain ⟨rfl, rfl⟩ := dict_ep hod hdt
    obtain ⟨x1, hot⟩ := hc.at I
    exact key_stop_hot hot st hgd hdt hsz hi fun h2 eb => ⟨rfl, I.turned (t' := s.toks) (fun b ob hb e => eb b ob hb e) g0 g1 g3 g4 g5⟩
  self := fun _ _ _ _ _ st q => wpAny_pyIter_keyiter st q
end
end Bk

/-! list comprehensions while an exception is handled -/
namespace Bk
open PySem PySem.Spec PyProof.Rows L2 HotX L2H
/-- a comprehension's block there: the handled exception is still known to stand -/
abbrev Cx.bh (X : Cx) (p : Addr × Obj) (s : Shared) (H : Hp) (scope : Scope) (env : Env) (fp : List Addr) : Cx := { X.blk s H scope env fp with pn := [p], calm := false }
theorem bh_hot {X : Cx} {p : Addr × Obj} (hot : Hot1 X.A p) {s : Shared} {H : Hp} {scope : Scope} {env : Env} {fp : List Addr} : HotC (Cx.bh X p s H scope env fp) := ⟨p, hot, List.mem_singleton.mpr rfl⟩
section
variable {X : Cx} {pins : List (Addr × Obj)} {σ : L2.St} {H : Hp} {s : Shared} {p : Addr × Obj}
theorem bh_ok {scope : Scope} {env : Env} {fp : List Addr} (ok : (X.blk s H scope env fp).Ok) : (Cx.bh X p s H scope env fp).Ok :=
  ⟨ok.mod, ok.kind, ok.glob, ok.blt, ok.above, ok.inj, ok.has, ok.cab, (fun z => nomatch z), ok.frames, ok.stk, ok.exf, ok.bs, ok.bsz, ok.noex, ok.exfs, ok.funs, ok.frf⟩
/-- the block's start, with the pin -/
theorem bh_start {scope : Scope} {own : List (Str × Nat)} {fp : List Addr} (I : Inv X pins σ H s) (hp : p ∈ X.pn) (ok : BlkOk X.N X.env.scope scope own) (hN : X.N.Nodup) (hfp : ∀ b ∈ fp, FpOk X pins H b ∧ b < s.heap.objs.size) :
    Inv (Cx.bh X p s H scope (compEnvC scope (cellsFrom (s.heap.objs.size + 1) scope.names (cloFrom X.env.cells scope.names [])) s.heap.objs.size X.env) fp) [] (wipe σ (own.map (·.2))) H { s with heap := pushCells (s.heap.push { cls := .type "dict", data := .dict #[] }) scope.names } := by
  have B := block_start I ok hN hfp
  obtain ⟨g1, g2, g3, g4, g5⟩ := I.pin p (List.mem_append_left _ hp)
  refine ⟨bh_ok B.ok, B.os, B.bare, B.base, B.loc, B.cell, B.free, B.freeC, fun z hz => ?_, B.hok, B.len⟩
  obtain rfl : z = p := by simpa using hz
  refine ⟨pushCells_keeps _ _ _ _ (Heap.get?_push_of_some _ g1), g2, Nat.ne_of_lt (Heap.lt_size g1), fun m => ?_, g5⟩
  exact (List.mem_cons.mp (I.stkSub z.1 m)).elim g3 g4
end
section
variable {X : Cx}
theorem lc_hot {pins : List (Addr × Obj)} {s : Shared} {σ : L2.St} {H : Hp} {Q : VK} {elt tg iter : Expr} {ifs : List Expr} {scope : Scope} {own : List (Str × Nat)} {pos pos' : Pos} {wi : TI} {g : TG} {tt : TT} {te : TE} {use : Option (Value → Sem Unit)} {Qf : Value → Shared → Prop} {p : Addr × Obj}
    (hot : Hot1 X.A p) (hp : p ∈ X.pn) (hN : X.N.Nodup) (I : Inv X pins σ H s) (hi : PIH X tg iter wi) (ok : BlkOk X.N X.env.scope scope own)
    (hg : ∀ (s : Shared) (H : Hp) (C : Addr) (cl : List (Str × Addr)) (fp : List Addr), PG (Cx.bh X p s H scope (compEnvC scope cl C X.env) fp) tg g) (ht : ∀ (s : Shared) (H : Hp) (C : Addr) (cl : List (Str × Addr)) (fp : List Addr), PTs (Cx.bh X p s H scope (compEnvC scope cl C X.env) fp) ifs tt)
    (he : ∀ (s : Shared) (H : Hp) (C : Addr) (cl : List (Str × Addr)) (fp : List Addr), PE (Cx.bh X p s H scope (compEnvC scope cl C X.env) fp) elt te) (hs : ∀ x, foldedSetIterable iter X.env x = pure x)
    (h : tLc wi g tt te (own.map (·.2)) σ H Q)
    (done : ∀ D C s' m H', Inv X pins σ H' s' → Q (.ref D) H' → s'.heap.Ns C m → FpOk X pins H' C → compPost (model X.prog X.w) X.A X.xe use Qf (.ref D) C (.ok .next) s') :
    wpAny (model X.prog X.w) X.A (comprehension (.ListComp elt [⟨tg, iter, ifs, 0⟩] scope pos) scope X.env pos' (newList []) false (eval iter X.env) use) Qf X.xe s := by
  have clo : ∀ y ∈ scope.names, y.2 = .free → ∃ c, X.env.cells.lookup y.1 = some c := fun y hy e => (ok.free y hy e).elim (fun k => I.ok.has _ (.inl k)) fun k => I.ok.has _ (.inr k)
  refine wpAny_comprehension_free (use := use) rfl hs (closure_ok clo) ok.kind (fun y hy e => by rw [ok.uniq y hy, e]) (thn (hi.run pins s σ H _ I h) fun xv t1 hx => thn hx fun itv t2 h2 => ?_)
  obtain ⟨it, fp, tn, J, G2, rfl, J2, T, at2, f2, q⟩ := h2
  refine wpAny_newObj_type (newEnv_comp ?_) (by show 0 ≤ sizeLine; exact Nat.zero_le _)
  have nD : G2 t2.heap.objs.size = none := J2.hok.fresh (Nat.le_refl _)
  obtain ⟨W, ⟨m0, w0⟩, turn⟩ := q t2.heap.objs.size nD
  have fpLt : ∀ b ∈ fp, b < t2.heap.objs.size := fun b hb => let ⟨_, e, _⟩ := T.obj _ _ at2 b hb; Heap.lt_size e
  generalize hD : t2.heap.objs.size = D at nD w0 turn fpLt ⊢
  -- the state with the new list, and the heap with it
  generalize et3 : ({ t2 with heap := t2.heap.push { cls := .type "list", data := .seq ([] : List Value).toArray } } : Shared) = t3
  have ht3 : t3.heap = t2.heap.push { cls := .type "list", data := .seq ([] : List Value).toArray } := by rw [← et3]
  obtain ⟨G3, hG3⟩ : ∃ G3, G3 = upd G2 D (.lst []) := ⟨_, rfl⟩
  rw [← hG3] at w0
  have J3 : Inv X pins σ G3 t3 := by
    rw [hG3, ← et3]
    refine J2.laid (t' := t2.toks) (fun b o e => Heap.get?_push_of_some _ e) (Nat.le_of_eq hD) ⟨Nat.zero_le _, [], 0, .nil, ?_⟩
    rw [← hD]
    exact Heap.get?_push_size _ rfl
  have size3 : t3.heap.objs.size = D + 1 := by rw [ht3, ← hD]; exact Heap.size_push ..
  have f3 : ∀ b ∈ fp, FpOk X pins G3 b ∧ b < t3.heap.objs.size := fun b hb => by
    have lt := fpLt b hb
    refine ⟨⟨?_, (f2 b hb).2⟩, by rw [size3]; exact Nat.lt_succ_of_lt lt⟩
    rw [hG3, upd_ne (Nat.ne_of_lt lt)]
    exact (f2 b hb).1
  have at3 : tn 0 t3.heap := T.keep _ _ _ at2 fun b _ o e => by rw [ht3]; exact Heap.get?_push_of_some _ e
  have J4 := bh_start J3 hp ok hN f3
  have pg := hg t3 G3 t3.heap.objs.size (cellsFrom (t3.heap.objs.size + 1) scope.names (cloFrom X.env.cells scope.names [])) fp
  have pt := ht t3 G3 t3.heap.objs.size (cellsFrom (t3.heap.objs.size + 1) scope.names (cloFrom X.env.cells scope.names [])) fp
  have pe := he t3 G3 t3.heap.objs.size (cellsFrom (t3.heap.objs.size + 1) scope.names (cloFrom X.env.cells scope.names [])) fp
  show codeAny _ _ (.compStart (.ListComp elt [⟨tg, iter, ifs, 0⟩] scope pos) 0 (.ref it) (.ref D) (compEnvC scope (cellsFrom (t3.heap.objs.size + 1) scope.names (cloFrom X.env.cells scope.names [])) t3.heap.objs.size X.env)) (compPost (model X.prog X.w) X.A X.xe use Qf (.ref D) t3.heap.objs.size) { t3 with heap := pushCells (t3.heap.push { cls := .type "dict", data := .dict #[] }) scope.names }
  generalize hc4 : compEnvC scope (cellsFrom (t3.heap.objs.size + 1) scope.names (cloFrom X.env.cells scope.names [])) t3.heap.objs.size X.env = ce at J4 pg pt pe ⊢
  have locals : ce.locals = t3.heap.objs.size := by rw [← hc4]; rfl
  have at4 : tn 0 ({ t3 with heap := pushCells (t3.heap.push { cls := .type "dict", data := .dict #[] }) scope.names } : Shared).heap := T.keep _ _ _ at3 fun b _ o e => pushCells_keeps _ _ _ _ (Heap.get?_push_of_some _ e)
  generalize ({ t3 with heap := pushCells (t3.heap.push { cls := .type "dict", data := .dict #[] }) scope.names } : Shared) = t4 at J4 at4 ⊢
  have hx := bh_hot (X := X) (p := p) hot (s := t3) (H := G3) (scope := scope) (env := ce) (fp := fp)
  -- the iterator's own objects stay apart
  have apart : ∀ {σ' : L2.St} {G' : Hp} {t' : Shared}, Inv (Cx.bh X p t3 G3 scope ce fp) [] σ' G' t' → (∀ b ∈ fp, G' b = none) → ∀ b ∈ fp, FpOk (Cx.bh X p t3 G3 scope ce fp) [] G' b := fun {σ' G' t'} I' hn b hb =>
    ⟨hn b hb, (I'.ok.exf b hb).1, I'.ok.exfs b hb, .inl hb, fun x c e => (I'.ok.exf b hb).2 x c e, fun z hz => by
      obtain rfl : z = p := by simpa using hz
      exact (f3 b hb).1.2.2.2.2.2 z (List.mem_append_left _ hp)⟩
  have loop : codeAny (model X.prog X.w) X.A (.compLoop (.ListComp elt [⟨tg, iter, ifs, 0⟩] scope pos) 0 (.ref it) (.ref D) ce) (compPost (model X.prog X.w) X.A X.xe use Qf (.ref D) t3.heap.objs.size) t4 := by
    refine compLoop_any (fun n t' => ∃ i G', Inv (Cx.bh X p t3 G3 scope ce fp) [] (wipe σ (own.map (·.2))) G' t' ∧ tn i t'.heap ∧ (∀ b ∈ fp, G' b = none) ∧ W i n G') ?_ m0 ⟨0, G3, J4, at4, fun b hb => (f3 b hb).1.1, w0⟩
    rintro n t5 ⟨i, G5, J5, at5, n5, w5⟩
    rcases turn i n G5 w5 with ⟨stop, qq⟩ | ⟨go, Nx, hNx, step⟩
    · refine thnF (T.done (Cx.bh X p t3 G3 scope ce fp) rfl rfl rfl hx i [] t5 _ G5 (fun _ _ => False) J5 (apart J5 n5) at5 stop) fun r t6 ⟨hr, J6⟩ => ?_
      subst hr
      have J7 : Inv X pins σ G5 t6 := J3.call' (ch := fp) J6.os J6.base J6.hok J6.bare fun b hb => let z := (f3 b hb).1; ⟨z.2.2.2.1, z.2.1, z.2.2.2.2.1, z.2.2.2.2.2⟩
      have free : G5 t3.heap.objs.size = none := by
        have z : G5 ce.locals = none := J6.free
        rwa [locals] at z
      obtain ⟨m, hn, _⟩ := J6.loc
      have hn : t6.heap.Ns ce.locals m := hn
      rw [locals] at hn
      exact done D t3.heap.objs.size t6 m G5 J7 qq hn (J3.fpOk (Nat.le_refl _) free)
    · refine thnF (T.item (Cx.bh X p t3 G3 scope ce fp) rfl rfl rfl hx i [] t5 _ G5 (fun _ _ => False) J5 (apart J5 n5) at5 go) fun r t6 ⟨u, hr, h6⟩ => ?_
      subst hr
      refine thnF h6 fun _ t7 ⟨x, G7, J7, r7, y7, at7, n7⟩ => ?_
      have J7' := J7.pinned (apart J7 n7) (T.obj _ _ at7)
      refine thnF (pg.run _ t7 _ G7 x u _ J7' r7 (step x G7 y7)) fun _ t8 ⟨σ8, G8, J8, hw8, q8⟩ => ?_
      refine thnF (pt.run _ t8 σ8 G8 _ J8 q8) fun b t9 ⟨G9, J9, q9⟩ => ?_
      have next : ∀ {t' : Shared} {G' : Hp}, Inv (Cx.bh X p t3 G3 scope ce fp) ([] ++ pinsAt fp t7.heap) σ8 G' t' → Nx G' → ∃ m, m < n ∧ ∃ i G', Inv (Cx.bh X p t3 G3 scope ce fp) [] (wipe σ (own.map (·.2))) G' t' ∧ tn i t'.heap ∧ (∀ b ∈ fp, G' b = none) ∧ W i m G' := fun {t' G'} I' nx => by
        obtain ⟨m', hm, w'⟩ := hNx G' nx
        have stays : ∀ b ∈ fp, ∀ o, t7.heap.get? b = some o → t'.heap.get? b = some o ∧ G' b = none := fun b hb o e =>
          let z := I'.pin (b, o) (List.mem_append_right _ (List.mem_append_right _ (mem_pinsAt hb e)))
          ⟨z.1, z.2.1⟩
        have len8 : (wipe σ (own.map (·.2))).length = σ8.length := by rw [← hw8, wipe_length]
        refine ⟨m', hm, i + 1, G', (I'.unpinned (pins := [])).weak len8 (fun j v e => ?_), T.keep _ _ _ at7 fun b hb o e => (stays b hb o e).1, fun b hb => ?_, w'⟩
        · rw [← hw8] at e
          exact (wipe_some e).1
        · obtain ⟨o, e, _⟩ := T.obj _ _ at7 b hb
          exact (stays b hb o e).2
      cases b with
      | false =>
        simp only [Bool.false_eq_true, if_false] at q9 ⊢
        exact next J9 q9
      | true =>
        simp only [if_true] at q9 ⊢
        refine thnF (pe.run _ t9 σ8 G9 _ J9 q9) fun z t10 ⟨yv, G10, J10, r10, acc, hD10, hz10, nx⟩ => ?_
        exact app_ok (X := Cx.bh X p t3 G3 scope ce fp) J10 hD10 hz10 r10 fun t11 J11 => next J11 nx
  exact codeAny_compStart_list loop (T.self X.A 0 _ _ _ at4 loop)
end
end Bk

/-! the rules for it: lists, tuples, the keys of a dict; list comprehensions; the context of an except suite -/
namespace Bk
open PySem PySem.Spec PyProof.Rows L2 HotX L2H
section
variable {X : Cx} {tg : Expr}
theorem pih_list (K : PySem.W.Frag) {l : Expr} {tl : TE} (hl : PE X l tl) (eK : X.K = K := by rfl) : PIH X tg l (iList K tl) := by
  subst eK
  refine ⟨fun pins s σ H R I h => thn (hl.run pins s σ H _ I h) fun v s1 hv => ?_⟩
  obtain ⟨x, H1, I1, r1, a, rfl, ⟨xs, hq⟩, q⟩ := hv
  cases r1
  obtain ⟨its, rv, pl, hz⟩ := I1.list hq
  refine wpAny_pyIter_list pl.isList ⟨s1.heap.objs.size, [s1.heap.objs.size], _, _, H1, rfl, I1.kept (t' := s1.toks) fun b o e => Heap.get?_push_of_some _ e, turnH_list a _, ⟨_, Heap.get?_push_size _ rfl, rfl, rfl⟩, fun b hb => ?_, q⟩
  obtain rfl := List.mem_singleton.mp hb
  exact I1.fpOk (Nat.le_refl _) (I1.hok.fresh (Nat.le_refl _))
theorem pih_tup (K : PySem.W.Frag) {l : Expr} {tl : TE} (hl : PE X l tl) (eK : X.K = K := by rfl) : PIH X tg l (iTup K tl) := by
  subst eK
  refine ⟨fun pins s σ H R I h => thn (hl.run pins s σ H _ I h) fun v s1 hv => ?_⟩
  obtain ⟨x, H1, I1, r1, a, rfl, ⟨xs, hq⟩, q⟩ := hv
  cases r1
  obtain ⟨its, rv, pt, hz⟩ := I1.tuple hq
  refine wpAny_pyIter_tuple (show s1.heap.IsTuple a its.toArray from pt) ⟨s1.heap.objs.size, [s1.heap.objs.size], _, _, H1, rfl, I1.kept (t' := s1.toks) fun b o e => Heap.get?_push_of_some _ e, turnH_tuple a _, ⟨_, Heap.get?_push_size _ rfl, rfl, rfl⟩, fun b hb => ?_, q⟩
  obtain rfl := List.mem_singleton.mp hb
  exact I1.fpOk (Nat.le_refl _) (I1.hok.fresh (Nat.le_refl _))
theorem pih_or {l : Expr} {w1 w2 : TI} (h1 : PIH X tg l w1) (h2 : PIH X tg l w2) : PIH X tg l (fun σ H R => w1 σ H R ∨ w2 σ H R) := ⟨fun pins s σ H R I h => h.elim (h1.run pins s σ H R I) (h2.run pins s σ H R I)⟩
/-- the keys of a dict, these texts or numbers -/
theorem pih_keys {e : Expr} {td : TE} (he : PE X e td) : PIH X tg e (iKeysM td) := by
  refine ⟨fun pins s σ H R I h => thn (he.run pins s σ H _ I h) fun u s1 hu => ?_⟩
  obtain ⟨x, H1, I1, rx, d, o, kvs, rfl, hd, q⟩ := hu
  obtain rfl : u = Value.ref d := rx
  obtain ⟨hs, hgd, hx, es, ep, vs, hdt, hsz, kv, hm⟩ := I1.frzK hd
  refine iter_keys hs hgd hx hdt ⟨s1.heap.objs.size, [s1.heap.objs.size], _, _, H1, rfl, I1.kept (t' := s1.toks) fun b o e => Heap.get?_push_of_some _ e, turnH_keys _ hdt, ⟨_, Heap.get?_push_size _ rfl, rfl, ?_⟩, fun b hb => ?_, q⟩
  · rw [hsz] <;> rfl
  · obtain rfl := List.mem_singleton.mp hb
    exact I1.fpOk (Nat.le_refl _) (I1.hok.fresh (Nat.le_refl _))
/-- [elt for tg in iter if ..] as a value -/
theorem pe_lcH {elt iter : Expr} {ifs : List Expr} {scope : Scope} {own : List (Str × Nat)} {pos : Pos} {wi : TI} {g : TG} {tt : TT} {te : TE} {p : Addr × Obj} (hot : Hot1 X.A p) (hp : p ∈ X.pn) (hN : X.N.Nodup) (hi : PIH X tg iter wi) (ok : BlkOk X.N X.env.scope scope own)
    (hg : ∀ (s : Shared) (H : Hp) (C : Addr) (cl : List (Str × Addr)) (fp : List Addr), PG (Cx.bh X p s H scope (compEnvC scope cl C X.env) fp) tg g) (ht : ∀ (s : Shared) (H : Hp) (C : Addr) (cl : List (Str × Addr)) (fp : List Addr), PTs (Cx.bh X p s H scope (compEnvC scope cl C X.env) fp) ifs tt)
    (he : ∀ (s : Shared) (H : Hp) (C : Addr) (cl : List (Str × Addr)) (fp : List Addr), PE (Cx.bh X p s H scope (compEnvC scope cl C X.env) fp) elt te) (hs : ∀ x, foldedSetIterable iter X.env x = pure x := by intro _; rfl) :
    PE X (.ListComp elt [⟨tg, iter, ifs, 0⟩] scope pos) (tLc wi g tt te (own.map (·.2))) := by
  refine ⟨fun pins s σ H Q I h => ?_⟩
  rw [eval_ListComp]
  refine lc_hot hot hp hN I hi ok hg ht he hs h fun D C s' m H' I' q hn f => ⟨m, hn, fun h2 sb => ?_⟩
  obtain ⟨g0, g1, g2, g3, g4, g5⟩ := f
  exact ⟨.ref D, H', I'.turned (t' := s'.toks) (fun b o hb e => (sb.2 b hb).trans e) g0 g1 g3 g4 g5, rfl, q⟩
end
end Bk

/-! dict([]) while an exception is handled -/
namespace Bk
open PySem PySem.Spec PyProof.Rows L2 HotX L2H
section
variable {α : Type} {prog : Program} {w : World} {A : Around} {E : Value → Shared → Prop} {s : Shared}
theorem attrErr_hot {x1 : Addr} {o : Value} {name msg : Str} {Q : α → Shared → Prop} (hot : HotAt A x1 s.heap)
    (q : ∀ h' tk e oe, (∀ b ob, s.heap.get? b = some ob → h'.get? b = some ob) → h'.get? e = some oe → oe.cls = .type "AttributeError" → E (.ref e) { s with heap := h', toks := tk }) (hm : msg.length ≤ sizeLine) :
    wpAny (model prog w) A (raiseAttrError o name msg : Sem α) Q E s := by
  unfold raiseAttrError
  refine wpAny_bind (wpAny_mkStr (wpAny_bind ?_) hm)
  simp only [newExc, newTuple]
  refine wpAny_bind (wpAny_newObj_type ?_ (by size_fits))
  refine wpAny_bind (m := firstArgMember _ _) (wpAny_of_eq (a := Value.none) (by simp only [firstArgMember, attrError_no_first]; rfl) ?_)
  rw [ownMembersOf_AttributeError]
  refine wpAny_newObj_type ?_ (by size_fits)
  obtain ⟨hp, g, d, tk, os⟩ := s
  have f1 := sub_AttributeError
  repeat (any_goals (first | assumption | wp_step))
  dsimp only
  obtain ⟨hh, o1, v1, e1, d1, c1⟩ := hot
  have lt1 := Heap.lt_size e1
  refine raiseNew_hot (x1 := x1) ⟨hh, o1, v1, ?_, d1, c1⟩ ?_ (Heap.get?_update_self _ (Heap.get?_push_size _ rfl) rfl) rfl (by first | decide | (simp; done) | (simp; omega)) ?_
  · refine (Heap.get?_update_other _ _ ?_).trans (Heap.get?_push_of_some _ (Heap.get?_push_of_some _ e1))
    simp only [Heap.size_push]
    exact Nat.ne_of_gt (Nat.lt_succ_of_lt lt1)
  · simp only [Heap.size_push]
    exact Nat.ne_of_lt (Nat.lt_succ_of_lt lt1)
  · refine q _ _ _ _ (fun b ob hb => ?_) (Heap.get?_update_self _ (Heap.get?_update_self _ (Heap.get?_push_size _ rfl) rfl) rfl) rfl
    have hlt : b < hp.objs.size := Heap.lt_size hb
    have ne : (hp.push { cls := .type "tuple", data := .seq #[] }).objs.size ≠ b := by
      simp only [Heap.size_push]
      exact Nat.ne_of_gt (Nat.lt_succ_of_lt hlt)
    first
      | exact (Heap.get?_update_other _ _ (by simp only [Heap.size_push]; exact Nat.ne_of_gt (Nat.lt_succ_of_lt hlt))).trans ((Heap.get?_update_other _ _ (by simp only [Heap.size_push]; exact Nat.ne_of_gt (Nat.lt_succ_of_lt hlt))).trans (Heap.get?_push_of_some _ (Heap.get?_push_of_some _ hb)))
end
def specHot (x1 : Addr) : PySem.Spec := fun A R s => HotAt A x1 s.heap ∧ ∀ h' tk e oe, (∀ b ob, s.heap.get? b = some ob → h'.get? b = some ob) → h'.get? e = some oe → oe.cls = .type "AttributeError" → R (.error (.ref e)) { s with heap := h', toks := tk }
theorem meets_keys_hot (x1 a : Addr) (xs : Array Value) (n : Nat) (sl : Array (Option Value)) (nm : Str) (u : Tok) (hmiss : typeLookup (.type "list") nm = pure none) (hname : (["__module__", "__name__", "__qualname__", "__doc__", "__annotations__"] : List Str).contains nm = false) (hsz : nm.length + 100 ≤ sizeLine) :
    Meets (Builtin.«object.__getattribute__» ⟨[.ref a, .str nm u], []⟩) (fun A R s => s.heap.get? a = some { cls := .type "list", dict := none, data := .seq xs n, slots := sl } ∧ specHot x1 A R s) :=
  Meets.of_wp fun prog w A R s hs => by
    obtain ⟨hp, g, d, tk, os⟩ := s
    obtain ⟨hx, hot, q⟩ := hs
    have tl : (⟨hp, g, d, tk, os⟩ : Shared).TypeIs (.ref a) "list" := ⟨_, hx, rfl⟩
    unfold Builtin.«object.__getattribute__»
    repeat (any_goals (first | assumption | wp_step))
    simp only [hname, Bool.false_eq_true, if_false]
    repeat (any_goals (first | assumption | wp_step))
    exact attrErr_hot hot q (attrMsg_fits (by decide +kernel) hsz)
section
variable {prog : Program} {w : World} {A : Around} {E : Value → Shared → Prop} {s : Shared}
theorem list_keys_hot {x1 a : Addr} {o : Obj} {xs : Array Value} {n : Nat} {Q : Option Value → Shared → Prop} (hot : HotAt A x1 s.heap) (hx : s.heap.get? a = some o) (hc : o.cls = .type "list") (hdat : o.data = .seq xs n) (hd : o.dict = none)
    (q : ∀ h' tk, (∀ b ob, s.heap.get? b = some ob → h'.get? b = some ob) → Q none { s with heap := h', toks := tk }) : wpAny (model prog w) A (getAttr? (.ref a) "keys") Q E s := by
  obtain ⟨c, dct, dat, sl⟩ := o
  simp only at hc hdat hd
  subst hc hdat hd
  obtain ⟨hp, g, d, tk, os⟩ := s
  have tl : ∀ tk', (⟨hp, g, d, tk', os⟩ : Shared).TypeIs (.ref a) "list" := fun _ => ⟨_, hx, rfl⟩
  have hmiss := list_no_keys
  have hname : (["__module__", "__name__", "__qualname__", "__doc__", "__annotations__"] : List Str).contains "keys" = false := by decide +kernel
  have hsz : ("keys" : Str).length + 100 ≤ sizeLine := by first | size_fits | decide +kernel
  have f1 := sub_AttributeError
  have f3 := F.slot_list_getattribute.lookup
  have f4 := F.slot_list_getattribute.bind (.ref a)
  have f5 := am_list_getattr_none
  unfold getAttr? getAttrBy?
  repeat (any_goals (first | assumption | exact tl _ | ((with_reducible show wpAny _ _ (call (Value.builtin "list.__getattribute__") _ _) _ _ _); refine call_meets F.slot_list_getattribute (tl _) am_entry_list_getattribute (F.args_list_getattribute_2 _ _) (meets_keys_hot x1 a xs n sl "keys" _ hmiss hname hsz) ⟨hx, hot, fun h' tk' e oe hk he hcl => ?_⟩) | wp_step))
  obtain ⟨ec, ed, eda, es⟩ := oe
  simp only at hcl
  subst hcl
  have hE : ∀ tk2, (⟨h', g, d, tk2, os⟩ : Shared).TypeIs (.ref e) "AttributeError" := fun _ => ⟨_, he, rfl⟩
  show wpAny _ _ (getattributeRaised _ _ _ _ _ _ _) _ _ _
  unfold getattributeRaised
  repeat (any_goals (first | assumption | exact hE _ | wp_step))
  all_goals exact q _ _ hk
end
end Bk

/-! defs that raise (the exception's context told to be None); defs called while an exception is handled -/
namespace Bk
open PySem PySem.Spec PyProof.Rows L2 HotX L2H
/-- dict([]) -/
def rDict0 : List V → Hp → VK → Prop := fun xs H Q => ∃ a : Addr, xs = [.ref a] ∧ H a = some (.lst []) ∧ ∀ p, H p = none → Q (.ref p) (upd H p (.dT []))
theorem call_dict0H {X : Cx} (hc : HotC X) : CallR X (.type "dict") rDict0 := by
  intro pins s σ H xs us Q I r q
  obtain ⟨a, ex, ha, q⟩ := q
  subst ex
  obtain ⟨u, eu, rx⟩ := vals1 r
  subst eu
  cases rx
  obtain ⟨its, rv, pl, hz⟩ := I.list (SqL.of (K := X.K) ha)
  have e0 : its = [] := List.eq_nil_of_length_eq_zero (by rw [← rv.length]; rfl)
  subst e0
  obtain ⟨x1, hot⟩ := hc.at I
  have items : PairItems s.heap (#[] : Array Value) (fun _ => (0 : Nat)) [] := ⟨rfl, fun j k v e => by simp at e⟩
  have plain : PlainSeq "list" s.heap a #[] := by
    obtain ⟨o, n, ho, hcl, hd, hdat⟩ := pl
    exact ⟨o, n, ho, hcl, hd, hdat⟩
  have lt : a < s.heap.objs.size := by
    obtain ⟨o, n, ho, _⟩ := plain
    exact Heap.lt_size ho
  obtain ⟨hp, gn, dr, tk, os⟩ := s
  refine call_dict_arg (PairArg.list (prog := X.prog) (w := X.w) a #[] (fun _ => (0 : Nat)) []) ⟨plain, items⟩ fun s₁ es hdf ok₁ => ?_
  subst es
  obtain ⟨⟨o, n, ho, hcl, hd, hdat⟩, _⟩ := ok₁
  have hot1 : ∀ (h' : Heap), (∀ b ob, hp.get? b = some ob → h'.get? b = some ob) → HotAt X.A x1 h' := fun h' k => by
    obtain ⟨hh, o1, v1, e1, d1, c1⟩ := hot
    exact ⟨hh, o1, v1, k _ _ e1, d1, c1⟩
  have kp : ∀ b ob, hp.get? b = some ob → (hp.push { cls := .type "dict", data := .dict #[] }).get? b = some ob := fun b ob e => Heap.get?_push_of_some _ e
  unfold Builtin.Dict.updateFrom
  refine wpAny_bind (wpAny_typeOf (T := "list") ⟨o, ho, hcl⟩ ?_)
  rw [if_pos (by decide)]
  refine wpAny_bind (list_keys_hot (x1 := x1) (hot1 _ kp) ho hcl hdat hd fun h1 tk1 k1 => ?_)
  simp only [Option.isNone_none, if_true]
  refine wpAny_bind (wpAny_rule ?_)
  have kh : ∀ b ob, hp.get? b = some ob → h1.get? b = some ob := fun b ob e => k1 b ob (kp b ob e)
  have hl1 : h1.IsList a #[] := ⟨o, k1 _ _ ho, hcl, n, hdat⟩
  refine wpAny_bind (wpAny_pyIter_list hl1 ?_)
  refine wpAny_pure ⟨plainId_quiet plain_update_loop _, codeAny_builtin entry_update_loop ?_⟩
  rw [Around.under_plainId plain_update_loop _]
  have it0 : (h1.push { cls := .type "list_iterator", data := .fields #[.ref a, rawInt 0] }).IsListIter h1.objs.size a 0 := ⟨_, Heap.get?_push_size _ rfl, rfl, rfl⟩
  have kk : ∀ b ob, h1.get? b = some ob → (h1.push { cls := .type "list_iterator", data := .fields #[.ref a, rawInt 0] }).get? b = some ob := fun b ob e => Heap.get?_push_of_some _ e
  show wpAny _ _ (pyNext (.ref h1.objs.size) >>= _) _ _ _
  refine wpAny_bind (list_stop_hot (x1 := x1) (i := 0) (items := #[]) (hot1 _ fun b ob e => kk b ob (kh b ob e)) it0 (hl1.at fun ob e => kk _ ob e) rfl fun h2 eb => ?_)
  show wpAny _ _ (Builtin.Dict.addKeywords hp.objs.size [] >>= _) _ _ _
  refine wpAny_bind (wpAny_pure (wpAny_pure ?_))
  have k2 : ∀ b ob, (hp.push { cls := .type "dict", data := .dict #[] }).get? b = some ob → h2.get? b = some ob := fun b ob e => eb b ob (Nat.ne_of_lt (Heap.lt_size (k1 b ob e))) (kk b ob (k1 b ob e))
  refine ⟨rfl, ?_⟩
  have hd0 : h2.DictOfH (tupleKind (mixKind X.prog X.w)) hp.objs.size [] := (Heap.DictOfH.new (knd := tupleKind (mixKind X.prog X.w)) hp).at' (fun ob e => k2 _ ob e) fun y hy => nomatch hy
  exact dt_made (s := ⟨hp, gn, dr, tk, os⟩) (kvs := []) (prs := []) I .nil (Nat.zero_le _) (Nat.le_refl _) hd0 (fun b ob e => k2 b ob (kp b ob e)) fun p hp' => q p hp'
end Bk

/-! defs that raise, told with the exception's context; defs run while an exception is handled; own exceptions made there -/
namespace Bk
open PySem PySem.Spec PyProof.Rows L2 HotX L2H
section
variable {P : Program} {w : World} {K : PySem.W.Frag} {mg : Str → Option Value} {base : Heap} {x qual : Str} {st : Stmt} {f : Addr} {fd : FuncData} {N ps : List Str} {k : Nat} {sp : Sp}
theorem Fun.okN (F : Fun K x qual st f fd) (S : FnScope N ps (defScope st)) (len : ∀ vs H Q E, sp vs H Q E → vs.length = ps.length)
    (hbody : ∀ (cdv : Value) (A : Around) (outer : List Env) (s : Shared) (H : Hp) (vs : List V) (Q : VK) (E : XK), Room k (A.deeper (envOfC qual (defScope st) s.heap.objs.size f cdv)) → sp vs H Q E →
      ∃ t, PSs (cxOf (L2N.CX P w) P w K mg base N qual (defScope st) f cdv A outer s H E) (defBody st) t ∧ t { nx := fun _ H' => Q .non H', rt := Q } (L2.start N vs) H) :
    FnOk P w K mg base (L2N.CX P w) (k + 1) f fd ps sp := by
  obtain ⟨_, _, _, _, _, _, cdv, _, _, rfl, lk, hcd⟩ := F.ex
  exact fn_of lk hcd S len (fun A outer s H vs Q E hr => hbody cdv A outer s H vs Q E hr)
theorem Fun.okH (F : Fun K x qual st f fd) (S : FnScope N ps (defScope st)) (len : ∀ vs H Q E, sp vs H Q E → vs.length = ps.length)
    (hbody : ∀ (cdv : Value) (A : Around) (outer : List Env) (s : Shared) (H : Hp) (vs : List V) (Q : VK) (E : XK) (p : Addr × Obj), Hot1 A p → RoomH k (A.deeper (envOfC qual (defScope st) s.heap.objs.size f cdv)) → sp vs H Q E →
      ∃ t, PSs (cxH CX0 P w K mg base N qual (defScope st) f cdv A outer s H E p) (defBody st) t ∧ t { nx := fun _ H' => Q .non H', rt := Q } (L2.start N vs) H) :
    FnH P w K mg base CX0 (k + 1) f fd ps sp := by
  obtain ⟨_, _, _, _, _, _, cdv, _, _, rfl, lk, hcd⟩ := F.ex
  exact fn_ofH lk hcd S len (fun A outer s H vs Q E p hot hr => hbody cdv A outer s H vs Q E p hot hr)
theorem never_H : FnH P w K mg base CX0 k f fd ps (fun _ _ _ _ => False) := ⟨fun _ _ _ _ h => h.elim, fun _ _ _ _ _ _ _ _ _ _ _ _ _ _ _ _ h => h.elim⟩
end
/-- a def that can be called by its name while an exception is handled -/
structure CalH (P : Program) (w : World) (K : PySem.W.Frag) (mg : Str → Option Value) (base : Heap) (k : Nat) (x : Str) (f : Addr) (fd : FuncData) (ps : List Str) (sp : Sp) : Prop where
  ok : FnH P w K mg base CX0 k f fd ps sp
  g : mg x = some (.ref f)
  kp : PySem.W.keepIn K (.ref f) = true
  b : Binds K fd ps []
theorem passAt0 {X : Cx} (σ : L2.St) : PassesAt CX0 X σ E0 := fun _ _ _ _ _ _ h => h.elim
theorem huH_of {A : Around} {k : Nat} (hr : RoomH k A) : A.units + 1 < cLine := by
  have := hr.un
  omega
section
variable {X : Cx} {CX : CXT} {x : Str} {e : Expr} {es : List Expr} {ta : TA} {p pos : Pos} {C fI : Addr} {k : Nat} {fd : FuncData} {ps : List Str} {sp : Sp}
/-- C(e, ..), its context told -/
theorem pmk_oexN (T : OexC X.K C) (iC : PySem.W.findIn X.K (.ref C) "__init__" = some (some (.ref fI))) (tI : PySem.W.typeIn X.K (.ref fI) = some (.type "function"))
    (F1 : FnOk X.prog X.w X.K X.mg X.base CX k fI fd ps sp) (hr : Room (k + 1) X.A) (hb : Binds X.K fd ps []) (hx : Passes CX X (fun _ _ _ => False)) (hg : Gl X x) (hm : X.mg x = some (.ref C)) (ha : PA X (e :: es) ta)
    (hdb : (x == ("__debug__" : Str)) = false := by decide) (he : starEach (e :: es) X.env = (false, eval e X.env) :: starEach es X.env := by rfl) (hpl : (backTo pos (starEach es X.env)).any (·.1) = false := by rfl) :
    L2N.PMk X (.Call (.Name x p) (e :: es) [] pos) (tMkO C sp [] ta) := by
  intro pins s σ H Q I h
  obtain ⟨_, _, _, _, bm, _, _, _, _, _, _, _, _, _, _, hC, hbm⟩ := T.cls
  refine wpAny_Call_Name_kw (ld_glob I hg hm ?_ hdb)
  refine PySem.W.callWith_K (h₀ := X.base) I.ok.mod.kin T.kC (thn (ha.run pos pins s σ H _ I h) fun us s1 q0 => ?_) he hpl
  obtain ⟨vs, H1, I1, r1, hz, q1⟩ := q0
  refine ⟨I1.kIn, ?_⟩
  obtain ⟨hp, g, dr, tk, os⟩ := s1
  obtain ⟨a, ea⟩ : ∃ a, a = hp.objs.size + 1 := ⟨_, rfl⟩
  have hsz : hp.objs.size ≤ a := by rw [ea]; exact Nat.le_succ _
  obtain ⟨hp2, e2⟩ : ∃ hp2, hp2 = (hp.push (PySem.W.kdv_tup us)).push (PySem.HandSPX.excO C hp.objs.size) := ⟨_, rfl⟩
  have hq := q1 a (I1.hok.fresh hsz)
  rw [List.append_nil] at hq
  have kk : ∀ b o, hp.get? b = some o → hp2.get? b = some o := fun b o z => by
    rw [e2]
    exact Heap.get?_push_of_some _ (Heap.get?_push_of_some _ z)
  have I2 : Inv X pins σ (upd H1 a (exo a C none)) ⟨hp2, g, dr, tk, os⟩ := by
    refine I1.laid (t' := tk) kk hsz (exo_ok (t1 := hp.objs.size) ?_)
    rw [e2, ea]
    heap_get
  have r2 : Vals (V.ref a :: vs) (Value.ref a :: us) := .cons rfl r1
  have hl : (Value.ref a :: us ++ []).length = ps.length := by
    rw [List.append_nil, ← r2.length, F1.len _ _ _ _ hq]
  have hus : us.length ≤ sizeLine := by
    rw [← Paired.length r1, sizeLine_eq]
    omega
  have b2 := hb ⟨hp2, g, dr, tk, os⟩ (Value.ref a :: us) I2.kIn hl
  rw [List.append_nil] at b2
  have code := F1.run _ X.stack _ _ ⟨Value.ref a :: us, []⟩ _ _ _ (fun _ _ _ => False) (hr.make C us []) (I2.env0.make C us []) b2 r2 hq
  show wpAny _ _ (call (.ref C) us) _ _ _
  rw [e2, ea] at code
  refine wpAny_call (PySem.HandSPX.call_own F.excBase_ValueError (fun Y => PySem.HandSPX.refsVE_contains Y bm hbm) (I1.kIn _ _ hC) (PySem.W.looks_findIn I1.kIn iC) (fun self => PySem.W.bind_fn I1.kIn self tI) hus
    (codeAny_mono code fun r s' hq' => ?_))
  match r, hq' with
  | .error er, hq' =>
    rw [e2, ea] at I2
    exact hx pins σ _ _ er s' I2 hq'
  | .ok .next, hq' => exact hq'.elim
  | .ok .brk, hq' => exact hq'.elim
  | .ok .cont, hq' => exact hq'.elim
  | .ok (.ret u), hq' =>
    obtain ⟨v, H2, os2, bare2, un2, hok2, rv, ev, d, fs, ea2, ed, hd1, q2⟩ := hq'
    subst ev
    rw [← ea] at ea2 q2 un2
    rw [← e2] at un2
    obtain ⟨h2, g2, d2, t2, os'⟩ := s'
    obtain ⟨t0, G, J, kG, ge, hoe, na⟩ := mk_end0 (d2 := d2) (t2 := t2) I1 hsz kk un2 hok2 os2 bare2 ea2 ed hd1
    rw [← ea]
    refine ⟨rv, a, _, _, ⟨G, g2, d2, t2, os'⟩, _, .ref C, some d, rfl, J, kG, ge, hoe, ⟨rfl, rfl, fun ws hw => ?_⟩, rfl, rfl, na, rfl, bare2, raises_own T.exC T.tyC, q2⟩
    cases hw
    rfl
end
end Bk

namespace Bk
open PySem PySem.Spec PyProof.Rows L2
/-- an object that can be asked of a tuple of names -/
def Ask (H : Hp) (v : V) : Prop := flatV v = true ∨ Box H v
theorem Ask.same {H H' : Hp} {v : V} (h : Ask H v) (e : Same H H') : Ask H' v := by
  rcases h with h | h
  · exact .inl h
  · refine .inr ?_
    cases h with
    | lst h => exact .lst (e _ _ h)
    | tup h => exact .tup (e _ _ h)
    | dK h => exact .dK (e _ _ h)
/-- the first of some objects that is none of the names -/
def firstNot (zs : List Str) (xs : List V) : Option V := xs.find? fun v => !inV v (zs.map V.str)
theorem firstNot_some {zs : List Str} {xs : List V} {i : Nat} {v : V} (hb : ∀ u ∈ xs.take i, inV u (zs.map V.str) = true) (hv : xs[i]? = some v) (hn : inV v (zs.map V.str) = false) : firstNot zs xs = some v := by
  unfold firstNot
  rw [List.find?_eq_some_iff_append]
  refine ⟨by rw [hn]; rfl, xs.take i, xs.drop (i + 1), ?_, fun u m => by rw [hb u m]; rfl⟩
  obtain ⟨h1, rfl⟩ := List.getElem?_eq_some_iff.mp hv
  rw [← List.drop_eq_getElem_cons h1, List.take_append_drop]
theorem firstNot_none {zs : List Str} {xs : List V} (h : ∀ u ∈ xs, inV u (zs.map V.str) = true) : firstNot zs xs = none := by
  unfold firstNot
  rw [List.find?_eq_none]
  intro u m
  rw [h u m]
  exact Bool.false_ne_true
theorem box_odd {H : Hp} {v : V} (h : Box H v) : ∀ s, v ≠ .str s := fun s e => by
  cases h <;> cases e
theorem none_names {zs : List Str} {xs : List V} (h : firstNot zs xs = none) : ∃ ks : List Str, xs = ks.map V.str ∧ ∀ k ∈ ks, k ∈ zs := by
  induction xs with
  | nil => exact ⟨[], rfl, fun k m => nomatch m⟩
  | cons x r ih =>
    unfold firstNot at h
    rw [List.find?_eq_none] at h
    have h0 := h x List.mem_cons_self
    obtain ⟨ks, rfl, hk⟩ := ih (by
      unfold firstNot
      rw [List.find?_eq_none]
      exact fun u m => h u (List.mem_cons_of_mem _ m))
    have hx : inV x (zs.map V.str) = true := by
      cases e : inV x (zs.map V.str)
      · rw [e] at h0; exact absurd rfl h0
      · rfl
    by_cases hs : ∃ s, x = .str s
    · obtain ⟨s, rfl⟩ := hs
      rw [inV_strs] at hx
      refine ⟨s :: ks, rfl, fun k m => ?_⟩
      rcases List.mem_cons.mp m with rfl | m
      · exact of_decide_eq_true hx
      · exact hk k m
    · rw [inV_odd (fun s e => hs ⟨s, e⟩)] at hx
      cases hx
def spCheck (K : PySem.W.Frag) (C CN : Addr) : Sp := fun vs H Q E => ∃ (x a : Addr) (xs : List V) (zs : List Str) (ch : Bool), vs = [.ref x, .ref a] ∧ FoldersAt C H x zs ch ∧ Sqs K H (.ref a) true ∧ (SqL K H a xs ∨ SqT K H a xs) ∧ (∀ v ∈ xs, Ask H v) ∧
  (∀ v d H', firstNot zs xs = some v → ExcAt H d "name" v H' → E (.ref CN) (some d) H') ∧ ∀ H', firstNot zs xs = none → Same H H' → Q .non H'
section
variable {P : Program} {w : World} {K : PySem.W.Frag} {mg : Str → Option Value} {base : Heap}
theorem scNF : FnScope ["self", "name"] ["self", "name"] (defScope (inClass (topS 8) 0)) := ⟨rfl, rfl, rfl, by decide +kernel, rfl, by decide +kernel, by decide +kernel⟩
theorem ok_NF {C f : Addr} {fd : FuncData} (T : ExT K mg "NoFolder" C f "name") (F : Fun K "__init__" "NoFolder.__init__" (inClass (topS 8) 0) f fd) : FnOk P w K mg base CX0 1 f fd ["self", "name"] (spExcInit C "name") := by
  refine F.ok scNF (fun vs H Q E h => ?_) (fun cdv A outer s H vs Q E hr h => ?_)
  · obtain ⟨a, v, rfl, _⟩ := h
    rfl
  · obtain ⟨a, v, rfl, ha, q⟩ := h
    refine ⟨_, pss_one (ps_ost (pv 0) (pv 1)), ?_⟩
    exact ⟨_, rfl, _, rfl, a, C, rfl, T.o, T.noF, .inl ⟨ha, fun dx ndx hne => q dx ndx hne⟩⟩
theorem scCheck : FnScope ["folders", "names", "name"] ["folders", "names"] (defScope (topS 38)) := ⟨rfl, rfl, rfl, by decide +kernel, rfl, by decide +kernel, by decide +kernel⟩
theorem ok_check (B : Bi mg) {C CN f0 fN fI f f1 : Addr} {fdN fdI fd fd1 : FuncData} (T : FolT K mg C f0) (T_NoFolder : ExT K mg "NoFolder" CN fN "name")
    (G_NoFolder : FnOk P w K mg base CX0 1 fN fdN ["self", "name"] (spExcInit CN "name")) (b_NoFolder : Binds K fdN ["self", "name"] [])
    (GIn : FnOk P w K mg base CX0 3 fI fdI ["self", "x"] (spFInA C)) (bIn : Binds K fdI ["self", "x"] []) (mIn : Own K C "__contains__" fI)
    (c_is_list : Cal P w K mg base CX0 1 "is_list" f1 fd1 ["thing"] (spIsList K)) (F : Fun K "check_named" "check_named" (topS 38) f fd) : FnOk P w K mg base (L2N.CX P w) 4 f fd ["folders", "names"] (spCheck K C CN) := by
  refine Fun.okN F scCheck (fun vs H Q E h => ?_) (fun cdv A outer s H vs Q E hr h => ?_)
  · obtain ⟨x, a, xs, zs, ch, rfl, _⟩ := h
    rfl
  · obtain ⟨x, a, xs, zs, ch, rfl, FA, b, hS, hA, kE, kQ⟩ := h
    have nd := scCheck.nd
    have hu := hu_of hr
    have hrI : Room 3 _ := hr.mono (by decide)
    have hr_is_list : Room 1 _ := hr.mono (by decide)
    have hrE : Room 2 _ := hr.mono (by decide)
    refine ⟨_, (pss_cons (ps_if (pt_not (pt_val (pe_call c_is_list.ok hr_is_list (by rfl) c_is_list.g c_is_list.kp c_is_list.b .nil pass0 (pa_cons (pv 1) pa_nil)))) (pss_one ps_no) pss_nil)
      (pss_one (ps_for (passes_of rfl) rfl (pi_or (kPiL K (pv 1)) (kPiT K (pv 1))) (pg_name (i := 2) nd rfl (Or.inl rfl)) (pss_one (ps_if (pt_cmpR (op_notInOwn GIn bIn pass0 hrI mIn) (pv 2) (pv 0) rfl) (pss_one (L2N.ps_raise rfl (L2N.takes_of rfl rfl rfl rfl) (pmk_oexN T_NoFolder.o T_NoFolder.iC T_NoFolder.tI G_NoFolder hrE b_NoFolder pass0 (by rfl) T_NoFolder.g (pa_cons (pv 2) pa_nil)))) pss_nil))))), ?_⟩
    refine ⟨_, rfl, _, true, rfl, b, fun H1 e1 => ⟨_, rfl, ?_⟩⟩
    refine iteF ?_
    refine for_S rfl (hS.imp (fun z => e1.seq z) fun z => Same.sqt e1 z) (fun i σ' H' => ∃ v2, σ' = [some (.ref x), some (.ref a), v2] ∧ Same H1 H' ∧ ∀ u ∈ xs.take i, inV u (zs.map V.str) = true) ⟨none, rfl, Same.refl _, fun u m => nomatch m⟩ (fun i σ' H' ⟨_, _, e, _⟩ => e) ?_ ?_
    · rintro i v σ' H2 hi hv ⟨v2, rfl, e2, hb⟩
      have e02 := Same.trans e1 e2
      have hA2 := (hA v (List.mem_of_getElem? hv)).same e02
      have FA2 := FA.same e02
      obtain ⟨dx, t, pd, hx, _, _⟩ := id FA2
      refine ⟨_, rfl, _, rfl, x, dx, _, rfl, hx, x, v, zs, ch, inV v (zs.map V.str), rfl, FA2, ?_, fun H3 e3 => ⟨_, rfl, _, rfl, ?_⟩⟩
      · rcases hA2 with h | h
        · exact .inl ⟨h, rfl⟩
        · exact .inr (.inl ⟨h, inV_odd (box_odd h) zs⟩)
      · cases hin : inV v (zs.map V.str) with
        | true =>
          refine iteF ?_
          refine ⟨_, rfl, Same.trans e2 e3, fun u m => ?_⟩
          rw [take_succ hv] at m
          rcases List.mem_append.mp m with m | m
          · exact hb u m
          · rw [List.mem_singleton.mp m]
            exact hin
        | false =>
          refine iteT ?_
          refine mkO_of (v := v) (H1 := H3) (fun R r => ⟨_, rfl, r⟩) fun d H' h => kE v d H' (firstNot_some hb hv hin) ⟨(Same.trans e02 e3).free h.1, Same.trans (Same.trans e02 e3) h.2.1, h.2.2⟩
    · rintro σ' H2 ⟨v2, rfl, e2, hb⟩
      rw [List.take_length] at hb
      exact kQ H2 (firstNot_none hb) (Same.trans e1 e2)
end
end Bk

namespace Bk
open PySem PySem.Spec PyProof.Rows L2
/-- how often the question of some lots counts a lot -/
def cnt (ls : List (List Str)) (l : List Str) : Int := if l ∈ ls then 1 else 0
theorem ones_ent (ls : List (List Str)) : entT (ls.map fun l => (l, (1 : Int))) = tabL ls fun _ => 1 := by
  unfold entT tabL
  rw [List.map_map]
  rfl
theorem ones_found {ch : Bool} {zs : List Str} {ls : List (List Str)} (nz : zs.Nodup) (lz : zs.length ≤ mostFor ch) (h : ∀ l ∈ ls, l ∈ lotsFor ch zs) : foundT zs (ls.map fun l => (l, (1 : Int))) = tabL ls fun _ => 1 := by
  unfold foundT tabL
  rw [List.map_map]
  refine List.map_congr_left fun l m => ?_
  show ((lotS zs l).map Sum.inr, (1 : Int)) = _
  rw [lotS_sub (lots_sub lz (h l m)) nz]
theorem ones_ents {ch : Bool} {zs : List Str} {ls : List (List Str)} (nz : zs.Nodup) (lz : zs.length ≤ mostFor ch) (h : ∀ l ∈ ls, l ∈ lotsFor ch zs) (nl : ls.Nodup) : Ents ch zs (ls.map fun l => (l, (1 : Int))) := by
  have e : ∀ l ∈ ls, lotS zs l = l := fun l m => lotS_sub (lots_sub lz (h l m)) nz
  refine ⟨?_, fun x m => ?_, fun x m => ?_, ?_⟩
  · have h1 := pigeon ls (lotsFor ch zs) nl h
    have h2 := lots_few (ch := ch) lz
    rw [List.length_map]
    omega
  · obtain ⟨l, ml, rfl⟩ := List.mem_map.mp m
    show lotOfV ch zs (l.map V.str) = some (lotS zs l)
    rw [e l ml]
    exact lotOfV_lot lz nz (h l ml)
  · obtain ⟨l, ml, rfl⟩ := List.mem_map.mp m
    have h1 := lot_len (h l ml)
    have h2 : mostFor ch ≤ 12 := by cases ch <;> decide
    show l.length ≤ 1000
    omega
  · rw [List.map_map]
    rw [show ls.map ((fun e : List Str × Int => lotS zs e.1) ∘ fun l => (l, (1 : Int))) = ls from by
      conv => rhs; rw [← List.map_id ls]
      exact List.map_congr_left fun l m => e l m]
    exact nl
def spCounting (C CQ : Addr) : Sp := fun vs H Q _ => ∃ (x D : Addr) (ws : List V) (zs : List Str) (ch : Bool) (ls : List (List Str)), vs = [.ref x, .ref D] ∧ FoldersAt C H x zs ch ∧ zs.Nodup ∧ zs.length ≤ mostFor ch ∧ H D = some (.lst ws) ∧ Ats H (fun l : List Str => l.map V.str) ws ls ∧ (∀ l ∈ ls, l ∈ lotsFor ch zs) ∧ ls.Nodup ∧
  ∀ q H', H q = none → Same H H' → QuestAt C CQ H' q x zs ch (cnt ls) → Q (.ref q) H'
section
variable {P : Program} {w : World} {K : PySem.W.Frag} {mg : Str → Option Value} {base : Heap}
theorem scCounting : FnScope ["folders", "lots", "lot"] ["folders", "lots"] (defScope (topS 52)) := ⟨rfl, rfl, rfl, by decide +kernel, rfl, by decide +kernel, by decide +kernel⟩
theorem ok_counting (B : Bi mg) {C CQ f0 fQ f : Addr} {fdQ fd : FuncData} (T : FolT K mg C f0) (TQ : QueT K mg CQ fQ) (GQ : FnOk P w K mg base CX0 4 fQ fdQ ["self", "folders", "weights"] (spQuest K C CQ)) (bQ : Binds K fdQ ["self", "folders", "weights"] [])
    (F : Fun K "counting" "counting" (topS 52) f fd) : FnOk P w K mg base CX0 6 f fd ["folders", "lots"] (spCounting C CQ) := by
  refine F.ok scCounting (fun vs H Q E h => ?_) (fun cdv A outer s H vs Q E hr h => ?_)
  · obtain ⟨x, D, ws, zs, ch, ls, rfl, _⟩ := h
    rfl
  · obtain ⟨x, D, ws, zs, ch, ls, rfl, FA, nz, lz, hD, at0, hls, nl, qq⟩ := h
    have nd := scCounting.nd
    have hu := hu_of hr
    refine ⟨_, (pss_one (ps_ret (pe_make TQ.make GQ hr (by rfl) TQ.g bQ .nil pass0 (pa_cons (pv 0) (pa_cons (pe_dcT (own := [("lot", 2)]) hr.units0 rfl nd (kPiL K (pv 1)) (blkOk_by (N := ["folders", "lots", "lot"]) (sc := defScope (topS 52)) (by decide +kernel)) (fun _ _ _ _ _ => (pg_name (i := 2) nd rfl (Or.inl rfl))) (fun _ _ _ _ _ => (pv 2)) (fun _ _ _ _ _ => pe_int)) pa_nil))))), ?_⟩
    have lenl : ls.length ≤ 2000 := Nat.le_trans (pigeon ls (lotsFor ch zs) nl hls) (lots_few lz)
    refine ⟨_, rfl, _, rfl, D, rfl, ⟨_, SqL.of hD⟩, fun D2 nD2 => dcT_itw walk_list (fun i H' => Same H H' ∧ H' D2 = some (.dT (tabV (tabL (ls.take i) fun _ => 1)))) ⟨same_upd nD2, upd_same⟩ (fun i H' _ ⟨e, _⟩ => SqL.of (e _ _ hD)) ?_ ?_⟩
    · rintro i v H1 H2 hi ⟨e1, hd1⟩ ⟨rfl, hv⟩
      obtain ⟨l, hl⟩ : ∃ l, ls[i]? = some l := ⟨_, List.getElem?_eq_getElem (by rw [← at0.1]; exact hi)⟩
      obtain ⟨b, rfl, hb⟩ := at0.2 i v l hv hl
      have hb2 : H2 b = some (.tup (l.map V.str)) := e1 _ _ hb
      rw [← str_key] at hb2
      refine ⟨rfl, _, rfl, _, l.map Sum.inr, b, rfl, hb2, hd1, ?_, Same.grow e1 nD2, ?_⟩
      · rw [tab_len]
        unfold tabL
        rw [List.length_map, List.length_take]
        exact Evl.sz_lt (by omega)
      · have hnew : l ∉ ls.take i := by
          intro m
          obtain ⟨j, hj, e⟩ := List.mem_take_iff_getElem.mp m
          have hil := (List.getElem?_eq_some_iff.mp hl).1
          have := nodup_inj nl (i := j) (j := i) (by omega) hil (by
            rw [e]
            exact (List.getElem?_eq_some_iff.mp hl).2.symm)
          omega
        have := tab_put (f := fun _ => (1 : Int)) hnew
        rw [upd_same, this, take_succ hl]
    · rintro H1 ⟨e1, hd1⟩
      rw [at0.1, List.take_length] at hd1
      intro q dx nq ndx hne
      have e2 := Same.grow (o := HO.ins CQ dx []) (Same.grow (o := HO.own q) (Same.refl H1) ndx) nq
      obtain ⟨dx', t, pd, hx, ht, hp⟩ := FA
      have e12 := Same.trans e1 e2
      refine ⟨q, x, dx, dx', t, pd, .ref D2, zs, ch, cnt ls, rfl, upd_same, e12 _ _ hx, e12 _ _ ht, e12 _ _ hp, nz, lz, .inr ⟨D2, ls.map fun l => (l, (1 : Int)), rfl, ?_, ?_, ones_ents nz lz hls nl, fun l m => ?_⟩, fun H' QA hb => ⟨rfl, qq q H' (e1.free nq) (fun b u z => hb b u (ne_of_none (e1 _ _ z) nq) (e12 _ _ z)) QA⟩⟩
      · exact ne_of_none hp nD2
      · rw [ones_ent]
        exact e2 _ _ hd1
      · rw [ones_found nz lz hls, getT_tab]
        unfold cnt
        by_cases h : l ∈ ls
        · rw [if_pos h, if_pos h]; rfl
        · rw [if_neg h, if_neg h]; rfl
end
end Bk

namespace Bk
open PySem PySem.Spec PyProof.Rows L2
/-- which lots a function counts, of the names that are handed over -/
abbrev Cnt := List Str → List Str → List Str → Bool
def cRefers : Cnt := fun _ ks l => ks.any fun k => decide (k ∈ l)
def cFreed : Cnt := fun _ ks l => l.all fun k => decide (k ∈ ks)
def cShared : Cnt := fun _ ks l => ks.all fun k => decide (k ∈ l)
def cJust : Cnt := fun zs ks l => decide (l = zs.filter fun n => decide (n ∈ ks))
def cSent : Cnt := fun _ ks l => decide (ks.getD 1 Str.empty ∈ l) && !decide (ks.getD 0 Str.empty ∈ l)
def cntF (p : Cnt) (ch : Bool) (zs ks : List Str) : List Str → Int := cnt ((lotsFor ch zs).filter (p zs ks))
/-- what all five functions promise -/
def spFn (K : PySem.W.Frag) (C CQ CN : Addr) (p : Cnt) : Sp := fun vs H Q E => ∃ (x a : Addr) (xs : List V) (zs : List Str) (ch : Bool), vs = [.ref x, .ref a] ∧ FoldersAt C H x zs ch ∧ zs.Nodup ∧ zs.length ≤ mostFor ch ∧ (∀ z ∈ zs, isNameS z = true) ∧ Sqs K H (.ref a) true ∧ (SqL K H a xs ∨ SqT K H a xs) ∧ (∀ v ∈ xs, Ask H v) ∧ xs.length ≤ 1000 ∧
  (∀ v d H', firstNot zs xs = some v → ExcAt H d "name" v H' → E (.ref CN) (some d) H') ∧ ∀ ks q H', xs = ks.map V.str → (∀ k ∈ ks, k ∈ zs) → H q = none → Same H H' → QuestAt C CQ H' q x zs ch (cntF p ch zs ks) → Q (.ref q) H'
theorem inV_str (z : Str) (zs : List Str) : inV (.str z) (zs.map V.str) = decide (z ∈ zs) := inV_strs z zs
theorem lot_small {ch : Bool} {zs l : List Str} (lz : zs.length ≤ mostFor ch) (m : l ∈ lotsFor ch zs) : (l.map V.str).length ≤ 100000 := by
  have h1 := lot_len m
  have h2 : mostFor ch ≤ 12 := by cases ch <;> decide
  rw [List.length_map]
  omega
theorem names_small {ch : Bool} {zs : List Str} (lz : zs.length ≤ mostFor ch) : (zs.map V.str).length ≤ 100000 := by
  have h2 : mostFor ch ≤ 12 := by cases ch <;> decide
  rw [List.length_map]
  omega
theorem any_map {α : Type} (f : α → Bool) (l : List α) : (l.map f).any id = l.any f := by
  rw [List.any_map]
  rfl
theorem all_map {α : Type} (f : α → Bool) (l : List α) : (l.map f).all id = l.all f := by
  rw [List.all_map]
  rfl
section
variable {P : Program} {w : World} {K : PySem.W.Frag} {mg : Str → Option Value} {base : Heap}
theorem unlock {H H2 : Hp} {d : Addr} {u v : HO} (hd : H d = some u) (e : Same (upd H d v) H2) : Same H (upd H2 d u) := fun b x h => by
  by_cases z : b = d
  · subst z
    rw [upd_same, ← h, hd]
  · rw [upd_ne z]
    refine e _ _ ?_
    rw [upd_ne z]
    exact h
theorem Ats.unlock {α : Type} {H : Hp} {g : α → List V} {ws : List V} {xs : List α} {d : Addr} {od : Obj} {u v : HO} (a : Ats H g ws xs) (h : H d = some (.frz od v)) : Ats (upd H d u) g ws xs := ⟨a.1, fun i w x h1 h2 => by
  obtain ⟨b, e1, e2⟩ := a.2 i w x h1 h2
  refine ⟨b, e1, ?_⟩
  rw [upd_ne (ne_of e2 h (fun z => nomatch z))]
  exact e2⟩
theorem sq_lock {H : Hp} {a d : Addr} {xs : List V} {ws : List (List Key × V)} {v : HO} (h : SqL K H a xs ∨ SqT K H a xs) (hd : H d = some (.dT ws)) : SqL K (upd H d v) a xs ∨ SqT K (upd H d v) a xs := by
  rcases h with ((h | ⟨o, h⟩) | h) | ((h | ⟨o, h⟩) | h)
  · exact .inl (.inl (.inl (by rw [upd_ne (ne_of h hd (fun z => nomatch z))]; exact h)))
  · exact .inl (.inl (.inr ⟨o, by rw [upd_ne (ne_of h hd (fun z => nomatch z))]; exact h⟩))
  · exact .inl (.inr h)
  · exact .inr (.inl (.inl (by rw [upd_ne (ne_of h hd (fun z => nomatch z))]; exact h)))
  · exact .inr (.inl (.inr ⟨o, by rw [upd_ne (ne_of h hd (fun z => nomatch z))]; exact h⟩))
  · exact .inr (.inr h)
/-- [lot for lot in folders.places if p(lot)], the places locked the while -/
theorem lots_lock {C f0 x dx t pd : Addr} {σ : L2.St} {i k : Nat} {vs : List Nat} {g : TG} {tt : TT} {H : Hp} {Q : VK} {zs : List Str} {ch : Bool} (T : FolT K mg C f0) (hv : σ[i]? = some (some (.ref x))) (hx : H x = some (.ins C dx (foldersF t pd ch))) (hp : H pd = some (.dT (placesOf (lotsFor ch zs))))
    (nz : zs.Nodup) (lz : zs.length ≤ mostFor ch) (p : List Str → Bool)
    (hs : ∀ od l q H' (R : L2.St → Bool → Hp → Prop), l ∈ lotsFor ch zs → Same (upd H pd (.frz od (.dT (placesOf (lotsFor ch zs))))) H' → H' q = some (.tup (l.map V.str)) → (∀ σ2 H2, σ2[k]? = some (some (.ref q)) → Same H' H2 → R σ2 (p l) H2) → g (.ref q) (wipe σ vs) H' fun σ2 H2 => wipe σ2 vs = wipe σ vs ∧ tt σ2 H2 (R σ2))
    (hd : ∀ D ws H', H D = none → Same H H' → H' D = some (.lst ws) → Ats H' (fun l : List Str => l.map V.str) ws ((lotsFor ch zs).filter p) → Q (.ref D) H') :
    tLockE (tLc (iKeys (tFld K (tVar i) "places")) g tt (tVar k) vs) σ H Q := by
  refine ⟨pd, _, hp, trivial, fun od => ?_⟩
  have hxp : x ≠ pd := ne_of hx hp (fun z => nomatch z)
  have hp3 : upd H pd (.frz od (.dT (placesOf (lotsFor ch zs)))) pd = some (.frz od (.dT (placesOf (lotsFor ch zs)))) := upd_same
  refine ⟨_, hv, x, C, dx, _, _, rfl, by rw [upd_ne hxp]; exact hx, T.cl, T.nP, look_places _ _ _, pd, od, rfl, .inr ⟨_, hp3, fun D nD => ?_⟩⟩
  have hDp : D ≠ pd := (ne_of_none hp3 nD).symm
  have nD0 : H D = none := by rw [upd_ne hDp] at nD; exact nD
  refine places_it nz lz p hp3 nD (hs od) fun ws H' e hD at1 => ⟨e _ _ hp3, hd D ws _ nD0 (unlock hp e) ?_ (at1.unlock (e _ _ hp3))⟩
  rw [upd_ne hDp]
  exact hD
theorem scRefers : FnScope ["folders", "names", "lot", "name"] ["folders", "names"] (defScope (topS 53)) := ⟨rfl, rfl, rfl, by decide +kernel, rfl, by decide +kernel, by decide +kernel⟩
theorem ok_refers (B : Bi mg) {C CQ CN f0 f f1 f2 : Addr} {fd fd1 fd2 : FuncData} (T : FolT K mg C f0) (c_check_named : Cal P w K mg base (L2N.CX P w) 4 "check_named" f1 fd1 ["folders", "names"] (spCheck K C CN)) (c_counting : Cal P w K mg base CX0 6 "counting" f2 fd2 ["folders", "lots"] (spCounting C CQ))
    (F : Fun K "refers" "refers" (topS 53) f fd) : FnOk P w K mg base (L2N.CX P w) 7 f fd ["folders", "names"] (spFn K C CQ CN cRefers) := by
  refine Fun.okN F scRefers (fun vs H Q E h => ?_) (fun cdv A outer s H vs Q E hr h => ?_)
  · obtain ⟨x, a, xs, zs, ch, rfl, _⟩ := h
    rfl
  · obtain ⟨x, a, xs, zs, ch, rfl, FA, nz, lz, nm, b, hS, hA, lx, kE, kQ⟩ := h
    have nd := scRefers.nd
    have hu := hu_of hr
    have hr_check_named : Room 4 _ := hr.mono (by decide)
    have hr_counting : Room 6 _ := hr.mono (by decide)
    refine ⟨_, (pss_cons (ps_expr (pe_call c_check_named.ok hr_check_named (by rfl) c_check_named.g c_check_named.kp c_check_named.b .nil (L2N.passes_call (L2N.takes_of rfl rfl rfl rfl) (fun _ _ _ _ h => h)) (pa_cons (pv 0) (pa_cons (pv 1) pa_nil))))
      (pss_one (ps_ret (pe_call c_counting.ok hr_counting (by rfl) c_counting.g c_counting.kp c_counting.b .nil pass0 (pa_cons (pv 0) (pa_cons (pe_lock (pe_lc (own := [("lot", 2)]) rfl nd (pi_keys (pe_fld (pv 0) rfl)) (blkOk_by (N := ["folders", "names", "lot", "name"]) (sc := defScope (topS 53)) (by decide +kernel)) (fun _ _ _ _ _ => (pg_name (i := 2) nd rfl (Or.inr rfl))) (fun _ _ _ _ _ => (pts_one (pt_val (pe_callB (kAny K rfl) (by rfl) B.any (by decide +kernel) (pa_cons (pe_lc (own := [("name", 3)]) rfl nd (pi_or (kPiL K (pv 1)) (kPiT K (pv 1))) (blkOk_by (by with_unfolding_all rfl)) (fun _ _ _ _ _ => (pg_name (i := 3) nd rfl (Or.inl rfl))) (fun _ _ _ _ _ => pts_nil) (fun _ _ _ _ _ => (pe_cmpR (kIn K) (pv 3) (pv 2) rfl))) pa_nil))))) (fun _ _ _ _ _ => (pv 2)))) pa_nil)))))), ?_⟩
    refine ⟨_, rfl, _, rfl, x, a, xs, zs, ch, rfl, FA, b, hS, hA, kE, fun H1 hno e1 => ?_⟩
    obtain ⟨ks, rfl, hks⟩ := none_names hno
    have hS1 : SqL K H1 a (ks.map V.str) ∨ SqT K H1 a (ks.map V.str) := hS.imp (fun z => e1.seq z) fun z => Same.sqt e1 z
    have FA1 := FA.same e1
    obtain ⟨dx, t, pd, hx, ht, hp⟩ := id FA1
    refine ⟨_, rfl, ?_⟩
    refine lots_lock T ?_ hx hp nz lz (cRefers zs ks) ?_ ?_
    · rfl
    · intro od l q H2 R ml e2 hq hR
      have hS2 := (sq_lock (v := .frz od (.dT (placesOf (lotsFor ch zs)))) hS1 hp).imp (fun z => e2.seq z) fun z => Same.sqt e2 z
      refine ⟨rfl, ?_⟩
      refine tb1 ?_
      refine map_S (fun v => V.bl (inV v (l.map V.str))) (by rfl) hS2 (by omega) (fun v H3 R' mv e3 hR' => ?_) fun D H3 nD e3 hD => ?_
      · obtain ⟨k, _, rfl⟩ := List.mem_map.mp mv
        exact ⟨rfl, _, rfl, _, rfl, q, _, rfl, .inr (SqT.of (e3 _ _ hq)), rfl, flat_strs _, hR' H3 (Same.refl _)⟩
      · have hb : (List.map (fun v => V.bl (inV v (l.map V.str))) (ks.map V.str)) = (ks.map fun k => decide (k ∈ l)).map V.bl := by
          rw [List.map_map, List.map_map]
          refine List.map_congr_left fun k _ => ?_
          show V.bl (inV (.str k) (l.map V.str)) = V.bl (decide (k ∈ l))
          rw [inV_str]
        rw [hb] at hD
        refine ⟨D, _, rfl, SqL.of hD, ?_⟩
        rw [any_map]
        exact ⟨_, rfl, hR _ H3 rfl e3⟩
    · intro D ws H2 nD e2 hD at2
      exact ⟨x, D, ws, zs, ch, _, rfl, FA1.same e2, nz, lz, hD, at2, fun l m => (List.mem_filter.mp m).1, (lots_nodup nz).filter _, fun q H3 nq e3 QA => kQ ks q H3 rfl hks ((Same.trans e1 e2).free nq) (Same.trans (Same.trans e1 e2) e3) QA⟩
end
end Bk

namespace Bk
open PySem PySem.Spec PyProof.Rows L2
section
variable {P : Program} {w : World} {K : PySem.W.Frag} {mg : Str → Option Value} {base : Heap}
theorem scFreed : FnScope ["folders", "names", "lot", "name"] ["folders", "names"] (defScope (topS 54)) := ⟨rfl, rfl, rfl, by decide +kernel, rfl, by decide +kernel, by decide +kernel⟩
theorem ok_freed (B : Bi mg) {C CQ CN f0 f f1 f2 : Addr} {fd fd1 fd2 : FuncData} (T : FolT K mg C f0) (c_check_named : Cal P w K mg base (L2N.CX P w) 4 "check_named" f1 fd1 ["folders", "names"] (spCheck K C CN)) (c_counting : Cal P w K mg base CX0 6 "counting" f2 fd2 ["folders", "lots"] (spCounting C CQ))
    (F : Fun K "freed" "freed" (topS 54) f fd) : FnOk P w K mg base (L2N.CX P w) 7 f fd ["folders", "names"] (spFn K C CQ CN cFreed) := by
  refine Fun.okN F scFreed (fun vs H Q E h => ?_) (fun cdv A outer s H vs Q E hr h => ?_)
  · obtain ⟨x, a, xs, zs, ch, rfl, _⟩ := h
    rfl
  · obtain ⟨x, a, xs, zs, ch, rfl, FA, nz, lz, nm, b, hS, hA, lx, kE, kQ⟩ := h
    have nd := scFreed.nd
    have hu := hu_of hr
    have hr_check_named : Room 4 _ := hr.mono (by decide)
    have hr_counting : Room 6 _ := hr.mono (by decide)
    refine ⟨_, (pss_cons (ps_expr (pe_call c_check_named.ok hr_check_named (by rfl) c_check_named.g c_check_named.kp c_check_named.b .nil (L2N.passes_call (L2N.takes_of rfl rfl rfl rfl) (fun _ _ _ _ h => h)) (pa_cons (pv 0) (pa_cons (pv 1) pa_nil))))
      (pss_one (ps_ret (pe_call c_counting.ok hr_counting (by rfl) c_counting.g c_counting.kp c_counting.b .nil pass0 (pa_cons (pv 0) (pa_cons (pe_lock (pe_lc (own := [("lot", 2)]) rfl nd (pi_keys (pe_fld (pv 0) rfl)) (blkOk_by (N := ["folders", "names", "lot", "name"]) (sc := defScope (topS 54)) (by decide +kernel)) (fun _ _ _ _ _ => (pg_name (i := 2) nd rfl (Or.inl rfl))) (fun _ _ _ _ _ => (pts_one (pt_val (pe_callB (kAll K rfl) (by rfl) B.all (by decide +kernel) (pa_cons (pe_lc (own := [("name", 3)]) rfl nd (kPiT K (pv 2)) (blkOk_by (by with_unfolding_all rfl)) (fun _ _ _ _ _ => (pg_name (i := 3) nd rfl (Or.inl rfl))) (fun _ _ _ _ _ => pts_nil) (fun _ _ _ _ _ => (pe_cmpR (kIn K) (pv 3) (pv 1) rfl))) pa_nil))))) (fun _ _ _ _ _ => (pv 2)))) pa_nil)))))), ?_⟩
    refine ⟨_, rfl, _, rfl, x, a, xs, zs, ch, rfl, FA, b, hS, hA, kE, fun H1 hno e1 => ?_⟩
    obtain ⟨ks, rfl, hks⟩ := none_names hno
    have hS1 : SqL K H1 a (ks.map V.str) ∨ SqT K H1 a (ks.map V.str) := hS.imp (fun z => e1.seq z) fun z => Same.sqt e1 z
    have FA1 := FA.same e1
    obtain ⟨dx, t, pd, hx, ht, hp⟩ := id FA1
    refine ⟨_, rfl, ?_⟩
    refine lots_lock T ?_ hx hp nz lz (cFreed zs ks) ?_ ?_
    · rfl
    · intro od l q H2 R ml e2 hq hR
      have hS2 := (sq_lock (v := .frz od (.dT (placesOf (lotsFor ch zs)))) hS1 hp).imp (fun z => e2.seq z) fun z => Same.sqt e2 z
      refine ⟨rfl, ?_⟩
      refine tb1 ?_
      refine map_T (fun v => V.bl (inV v (ks.map V.str))) (by rfl) (SqT.of hq) (lot_small lz ml) (fun v H3 R' mv e3 hR' => ?_) fun D H3 nD e3 hD => ?_
      · obtain ⟨k, _, rfl⟩ := List.mem_map.mp mv
        exact ⟨rfl, _, rfl, _, rfl, a, _, rfl, (hS2.imp (fun z => e3.seq z) fun z => Same.sqt e3 z), rfl, flat_strs _, hR' H3 (Same.refl _)⟩
      · have hb : (List.map (fun v => V.bl (inV v (ks.map V.str))) (l.map V.str)) = (l.map fun k => decide (k ∈ ks)).map V.bl := by
          rw [List.map_map, List.map_map]
          refine List.map_congr_left fun k _ => ?_
          show V.bl (inV (.str k) (ks.map V.str)) = V.bl (decide (k ∈ ks))
          rw [inV_str]
        rw [hb] at hD
        refine ⟨D, _, rfl, SqL.of hD, ?_⟩
        rw [all_map]
        exact ⟨_, rfl, hR _ H3 rfl e3⟩
    · intro D ws H2 nD e2 hD at2
      exact ⟨x, D, ws, zs, ch, _, rfl, FA1.same e2, nz, lz, hD, at2, fun l m => (List.mem_filter.mp m).1, (lots_nodup nz).filter _, fun q H3 nq e3 QA => kQ ks q H3 rfl hks ((Same.trans e1 e2).free nq) (Same.trans (Same.trans e1 e2) e3) QA⟩
theorem scShared : FnScope ["folders", "names", "lot", "name"] ["folders", "names"] (defScope (topS 55)) := ⟨rfl, rfl, rfl, by decide +kernel, rfl, by decide +kernel, by decide +kernel⟩
theorem ok_shared (B : Bi mg) {C CQ CN f0 f f1 f2 : Addr} {fd fd1 fd2 : FuncData} (T : FolT K mg C f0) (c_check_named : Cal P w K mg base (L2N.CX P w) 4 "check_named" f1 fd1 ["folders", "names"] (spCheck K C CN)) (c_counting : Cal P w K mg base CX0 6 "counting" f2 fd2 ["folders", "lots"] (spCounting C CQ))
    (F : Fun K "shared" "shared" (topS 55) f fd) : FnOk P w K mg base (L2N.CX P w) 7 f fd ["folders", "names"] (spFn K C CQ CN cShared) := by
  refine Fun.okN F scShared (fun vs H Q E h => ?_) (fun cdv A outer s H vs Q E hr h => ?_)
  · obtain ⟨x, a, xs, zs, ch, rfl, _⟩ := h
    rfl
  · obtain ⟨x, a, xs, zs, ch, rfl, FA, nz, lz, nm, b, hS, hA, lx, kE, kQ⟩ := h
    have nd := scShared.nd
    have hu := hu_of hr
    have hr_check_named : Room 4 _ := hr.mono (by decide)
    have hr_counting : Room 6 _ := hr.mono (by decide)
    refine ⟨_, (pss_cons (ps_expr (pe_call c_check_named.ok hr_check_named (by rfl) c_check_named.g c_check_named.kp c_check_named.b .nil (L2N.passes_call (L2N.takes_of rfl rfl rfl rfl) (fun _ _ _ _ h => h)) (pa_cons (pv 0) (pa_cons (pv 1) pa_nil))))
      (pss_one (ps_ret (pe_call c_counting.ok hr_counting (by rfl) c_counting.g c_counting.kp c_counting.b .nil pass0 (pa_cons (pv 0) (pa_cons (pe_lock (pe_lc (own := [("lot", 2)]) rfl nd (pi_keys (pe_fld (pv 0) rfl)) (blkOk_by (N := ["folders", "names", "lot", "name"]) (sc := defScope (topS 55)) (by decide +kernel)) (fun _ _ _ _ _ => (pg_name (i := 2) nd rfl (Or.inr rfl))) (fun _ _ _ _ _ => (pts_one (pt_val (pe_callB (kAll K rfl) (by rfl) B.all (by decide +kernel) (pa_cons (pe_lc (own := [("name", 3)]) rfl nd (pi_or (kPiL K (pv 1)) (kPiT K (pv 1))) (blkOk_by (by with_unfolding_all rfl)) (fun _ _ _ _ _ => (pg_name (i := 3) nd rfl (Or.inl rfl))) (fun _ _ _ _ _ => pts_nil) (fun _ _ _ _ _ => (pe_cmpR (kIn K) (pv 3) (pv 2) rfl))) pa_nil))))) (fun _ _ _ _ _ => (pv 2)))) pa_nil)))))), ?_⟩
    refine ⟨_, rfl, _, rfl, x, a, xs, zs, ch, rfl, FA, b, hS, hA, kE, fun H1 hno e1 => ?_⟩
    obtain ⟨ks, rfl, hks⟩ := none_names hno
    have hS1 : SqL K H1 a (ks.map V.str) ∨ SqT K H1 a (ks.map V.str) := hS.imp (fun z => e1.seq z) fun z => Same.sqt e1 z
    have FA1 := FA.same e1
    obtain ⟨dx, t, pd, hx, ht, hp⟩ := id FA1
    refine ⟨_, rfl, ?_⟩
    refine lots_lock T ?_ hx hp nz lz (cShared zs ks) ?_ ?_
    · rfl
    · intro od l q H2 R ml e2 hq hR
      have hS2 := (sq_lock (v := .frz od (.dT (placesOf (lotsFor ch zs)))) hS1 hp).imp (fun z => e2.seq z) fun z => Same.sqt e2 z
      refine ⟨rfl, ?_⟩
      refine tb1 ?_
      refine map_S (fun v => V.bl (inV v (l.map V.str))) (by rfl) hS2 (by omega) (fun v H3 R' mv e3 hR' => ?_) fun D H3 nD e3 hD => ?_
      · obtain ⟨k, _, rfl⟩ := List.mem_map.mp mv
        exact ⟨rfl, _, rfl, _, rfl, q, _, rfl, .inr (SqT.of (e3 _ _ hq)), rfl, flat_strs _, hR' H3 (Same.refl _)⟩
      · have hb : (List.map (fun v => V.bl (inV v (l.map V.str))) (ks.map V.str)) = (ks.map fun k => decide (k ∈ l)).map V.bl := by
          rw [List.map_map, List.map_map]
          refine List.map_congr_left fun k _ => ?_
          show V.bl (inV (.str k) (l.map V.str)) = V.bl (decide (k ∈ l))
          rw [inV_str]
        rw [hb] at hD
        refine ⟨D, _, rfl, SqL.of hD, ?_⟩
        rw [all_map]
        exact ⟨_, rfl, hR _ H3 rfl e3⟩
    · intro D ws H2 nD e2 hD at2
      exact ⟨x, D, ws, zs, ch, _, rfl, FA1.same e2, nz, lz, hD, at2, fun l m => (List.mem_filter.mp m).1, (lots_nodup nz).filter _, fun q H3 nq e3 QA => kQ ks q H3 rfl hks ((Same.trans e1 e2).free nq) (Same.trans (Same.trans e1 e2) e3) QA⟩
end
end Bk

namespace Bk
open PySem PySem.Spec PyProof.Rows L2
section
variable {P : Program} {w : World} {K : PySem.W.Frag} {mg : Str → Option Value} {base : Heap}
theorem named_map (ks zs : List Str) : (zs.map V.str).filter (fun v => inV v (ks.map V.str)) = (zs.filter fun n => decide (n ∈ ks)).map V.str := by
  rw [List.filter_map]
  congr 1
  refine List.filter_congr fun n _ => ?_
  exact inV_str n ks
theorem scJust : FnScope ["folders", "names", "named", "name", "lot"] ["folders", "names"] (defScope (topS 56)) := ⟨rfl, rfl, rfl, by decide +kernel, rfl, by decide +kernel, by decide +kernel⟩
theorem ok_just (B : Bi mg) {C CQ CN f0 f f1 f2 : Addr} {fd fd1 fd2 : FuncData} (T : FolT K mg C f0) (c_check_named : Cal P w K mg base (L2N.CX P w) 4 "check_named" f1 fd1 ["folders", "names"] (spCheck K C CN)) (c_counting : Cal P w K mg base CX0 6 "counting" f2 fd2 ["folders", "lots"] (spCounting C CQ))
    (F : Fun K "just" "just" (topS 56) f fd) : FnOk P w K mg base (L2N.CX P w) 7 f fd ["folders", "names"] (spFn K C CQ CN cJust) := by
  refine Fun.okN F scJust (fun vs H Q E h => ?_) (fun cdv A outer s H vs Q E hr h => ?_)
  · obtain ⟨x, a, xs, zs, ch, rfl, _⟩ := h
    rfl
  · obtain ⟨x, a, xs, zs, ch, rfl, FA, nz, lz, nm, b, hS, hA, lx, kE, kQ⟩ := h
    have nd := scJust.nd
    have hu := hu_of hr
    have hr_check_named : Room 4 _ := hr.mono (by decide)
    have hr_counting : Room 6 _ := hr.mono (by decide)
    refine ⟨_, (pss_cons (ps_expr (pe_call c_check_named.ok hr_check_named (by rfl) c_check_named.g c_check_named.kp c_check_named.b .nil (L2N.passes_call (L2N.takes_of rfl rfl rfl rfl) (fun _ _ _ _ h => h)) (pa_cons (pv 0) (pa_cons (pv 1) pa_nil))))
      (pss_cons (ps_set (i := 2) nd rfl (Or.inr rfl) (kTupleOf K (by rfl) B.tuple (pe_lc (own := [("name", 3)]) rfl nd (kPiT K (pe_fld (pv 0) rfl)) (blkOk_by (N := ["folders", "names", "named", "name", "lot"]) (sc := defScope (topS 56)) (by decide +kernel)) (fun _ _ _ _ _ => (pg_name (i := 3) nd rfl (Or.inl rfl))) (fun _ _ _ _ _ => (pts_one (pt_cmpR (kIn K) (pv 3) (pv 1) rfl))) (fun _ _ _ _ _ => (pv 3)))))
      (pss_one (ps_ret (pe_call c_counting.ok hr_counting (by rfl) c_counting.g c_counting.kp c_counting.b .nil pass0 (pa_cons (pv 0) (pa_cons (pe_lock (pe_lc (own := [("lot", 4)]) rfl nd (pi_keys (pe_fld (pv 0) rfl)) (blkOk_by (N := ["folders", "names", "named", "name", "lot"]) (sc := defScope (topS 56)) (by decide +kernel)) (fun _ _ _ _ _ => (pg_name (i := 4) nd rfl (Or.inl rfl))) (fun _ _ _ _ _ => (pts_one (pt_cmpR (kEqD K hr.units) (pv 4) (pv 2) (nomark _)))) (fun _ _ _ _ _ => (pv 4)))) pa_nil))))))), ?_⟩
    refine ⟨_, rfl, _, rfl, x, a, xs, zs, ch, rfl, FA, b, hS, hA, kE, fun H1 hno e1 => ?_⟩
    obtain ⟨ks, rfl, hks⟩ := none_names hno
    have hS1 : SqL K H1 a (ks.map V.str) ∨ SqT K H1 a (ks.map V.str) := hS.imp (fun z => e1.seq z) fun z => Same.sqt e1 z
    have FA1 := FA.same e1
    obtain ⟨dx, t, pd, hx, ht, hp⟩ := id FA1
    -- named
    have e01 := e1
    refine ⟨_, rfl, x, C, dx, _, _, rfl, hx, T.cl, T.nN, look_names _ _ _, t, rfl, ⟨_, SqT.of ht⟩, fun D0 nD0 => filt_it walk_tup (fun v => inV v (ks.map V.str)) nD0 (fun H' e => SqT.of (e _ _ ht)) (names_small lz) ?_ ?_⟩
    · intro v H2 R mv e2 hR
      obtain ⟨k, _, rfl⟩ := List.mem_map.mp mv
      have hS2 : SqL K H2 a (ks.map V.str) ∨ SqT K H2 a (ks.map V.str) := hS1.imp (fun z => e2.seq z) fun z => Same.sqt e2 z
      exact ⟨rfl, _, rfl, _, rfl, a, _, rfl, hS2, rfl, flat_strs _, _, rfl, hR _ H2 rfl (Same.refl _)⟩
    intro H2 e2 hD0
    rw [named_map] at hD0
    refine .inl ⟨D0, _, rfl, SqL.of hD0, fun p np => ?_⟩
    have ep := same_upd (o := HO.tup ((zs.filter fun n => decide (n ∈ ks)).map V.str)) np
    have hpp : upd H2 p (HO.tup ((zs.filter fun n => decide (n ∈ ks)).map V.str)) p = some (HO.tup ((zs.filter fun n => decide (n ∈ ks)).map V.str)) := upd_same
    generalize upd H2 p (HO.tup ((zs.filter fun n => decide (n ∈ ks)).map V.str)) = H3 at ep hpp ⊢
    have e3 := Same.trans e2 ep
    have FA3 := FA1.same e3
    refine ⟨_, rfl, ?_⟩
    refine lots_lock T ?_ (e3 _ _ hx) (e3 _ _ hp) nz lz (cJust zs ks) ?_ ?_
    · rfl
    · intro od l q H4 R ml e4 hq hR
      have hpl : H4 p = some (HO.tup ((zs.filter fun n => decide (n ∈ ks)).map V.str)) := e4 _ _ (by rw [upd_ne (ne_of hpp (e3 _ _ hp) (fun z => nomatch z))]; exact hpp)
      refine ⟨rfl, ?_⟩
      refine ⟨_, rfl, _, rfl, .tuple (l.map PyData.str), .tuple ((zs.filter fun n => decide (n ∈ ks)).map PyData.str), .tup (SqT.of hq) (dp_strs l), .tup (SqT.of hpl) (dp_strs _), shaped_strs l (fun z m => nm z ((lots_sub lz ml).subset m)), shaped_strs _ (fun z m => nm z (List.mem_filter.mp m).1), _, rfl, ?_⟩
      rw [eqv_strs]
      exact hR _ H4 rfl (Same.refl _)
    · intro D ws H4 nD e4 hD at4
      exact ⟨x, D, ws, zs, ch, _, rfl, FA3.same e4, nz, lz, hD, at4, fun l m => (List.mem_filter.mp m).1, (lots_nodup nz).filter _, fun q H5 nq e5 QA => kQ ks q H5 rfl hks ((Same.trans (Same.trans e1 e3) e4).free nq) (Same.trans (Same.trans (Same.trans e1 e3) e4) e5) QA⟩
def spSent (K : PySem.W.Frag) (C CQ CN : Addr) : Sp := fun vs H Q E => ∃ (x : Addr) (y1 y2 : V) (zs : List Str) (ch : Bool), vs = [.ref x, y1, y2] ∧ FoldersAt C H x zs ch ∧ zs.Nodup ∧ zs.length ≤ mostFor ch ∧ (∀ z ∈ zs, isNameS z = true) ∧ Ask H y1 ∧ Ask H y2 ∧
  (∀ v d H', firstNot zs [y1, y2] = some v → ExcAt H d "name" v H' → E (.ref CN) (some d) H') ∧ ∀ k1 k2 q H', y1 = .str k1 → y2 = .str k2 → k1 ∈ zs → k2 ∈ zs → H q = none → Same H H' → QuestAt C CQ H' q x zs ch (cntF cSent ch zs [k1, k2]) → Q (.ref q) H'
theorem scSent : FnScope ["folders", "one", "other", "lot"] ["folders", "one", "other"] (defScope (topS 57)) := ⟨rfl, rfl, rfl, by decide +kernel, rfl, by decide +kernel, by decide +kernel⟩
theorem ok_sent (B : Bi mg) {C CQ CN f0 f f1 f2 : Addr} {fd fd1 fd2 : FuncData} (T : FolT K mg C f0) (c_check_named : Cal P w K mg base (L2N.CX P w) 4 "check_named" f1 fd1 ["folders", "names"] (spCheck K C CN)) (c_counting : Cal P w K mg base CX0 6 "counting" f2 fd2 ["folders", "lots"] (spCounting C CQ))
    (F : Fun K "sent" "sent" (topS 57) f fd) : FnOk P w K mg base (L2N.CX P w) 7 f fd ["folders", "one", "other"] (spSent K C CQ CN) := by
  refine Fun.okN F scSent (fun vs H Q E h => ?_) (fun cdv A outer s H vs Q E hr h => ?_)
  · obtain ⟨x, y1, y2, zs, ch, rfl, _⟩ := h
    rfl
  · obtain ⟨x, y1, y2, zs, ch, rfl, FA, nz, lz, nm, a1, a2, kE, kQ⟩ := h
    have nd := scSent.nd
    have hu := hu_of hr
    have hr_check_named : Room 4 _ := hr.mono (by decide)
    have hr_counting : Room 6 _ := hr.mono (by decide)
    refine ⟨_, (pss_cons (ps_expr (pe_call c_check_named.ok hr_check_named (by rfl) c_check_named.g c_check_named.kp c_check_named.b .nil (L2N.passes_call (L2N.takes_of rfl rfl rfl rfl) (fun _ _ _ _ h => h)) (pa_cons (pv 0) (pa_cons (pe_lst (pa_cons (pv 1) (pa_cons (pv 2) pa_nil))) pa_nil))))
      (pss_one (ps_ret (pe_call c_counting.ok hr_counting (by rfl) c_counting.g c_counting.kp c_counting.b .nil pass0 (pa_cons (pv 0) (pa_cons (pe_lock (pe_lc (own := [("lot", 3)]) rfl nd (pi_keys (pe_fld (pv 0) rfl)) (blkOk_by (N := ["folders", "one", "other", "lot"]) (sc := defScope (topS 57)) (by decide +kernel)) (fun _ _ _ _ _ => (pg_name (i := 3) nd rfl (Or.inl rfl))) (fun _ _ _ _ _ => (pts_one (PW.pt (pw_and (pt_cmpR (kIn K) (pv 2) (pv 3) rfl) (pw_and1 (pt_cmpR (kNotIn K) (pv 1) (pv 3) rfl)))))) (fun _ _ _ _ _ => (pv 3)))) pa_nil)))))), ?_⟩
    refine ⟨_, rfl, _, rfl, _, rfl, by show 2 ≤ sizeLine; rw [sizeLine_eq]; omega, fun a na => ?_⟩
    have e0 := same_upd (o := HO.lst [y1, y2]) na
    have ha : upd H a (.lst [y1, y2]) a = some (.lst [y1, y2]) := upd_same
    generalize upd H a (.lst [y1, y2]) = H0 at e0 ha ⊢
    refine ⟨x, a, [y1, y2], zs, ch, rfl, FA.same e0, sqs_kit (k := "list") (b1 := true) (b2 := false) (.base (.lst ha)) (by decide +kernel) (by decide +kernel), .inl (SqL.of ha), ?_, fun v d H' hv h => kE v d H' hv ⟨e0.free h.1, Same.trans e0 h.2.1, h.2.2⟩, fun H1 hno e1' => ?_⟩
    · intro v m
      rcases List.mem_cons.mp m with rfl | m
      · exact a1.same e0
      · rw [List.mem_singleton.mp m]
        exact a2.same e0
    have e1 := Same.trans e0 e1'
    obtain ⟨ks, ek, hks⟩ := none_names hno
    obtain ⟨k1, k2, rfl⟩ : ∃ k1 k2, ks = [k1, k2] := by
      match ks, ek with
      | [k1, k2], _ => exact ⟨k1, k2, rfl⟩
      | [], e => cases e
      | [_], e => cases e
      | _ :: _ :: _ :: _, e => cases e
    have ek1 : y1 = .str k1 := by injection ek
    have ek2 : y2 = .str k2 := by injection ek with _ ek; injection ek
    subst ek1 ek2
    have h1z := hks k1 List.mem_cons_self
    have h2z := hks k2 (List.mem_cons_of_mem _ List.mem_cons_self)
    have FA1 := FA.same e1
    obtain ⟨dx, t, pd, hx, ht, hp⟩ := id FA1
    refine ⟨_, rfl, ?_⟩
    refine lots_lock T ?_ hx hp nz lz (cSent zs [k1, k2]) ?_ ?_
    · rfl
    · intro od l q H2 R ml e2 hq hR
      have hR : R [some (.ref x), some (.str k1), some (.str k2), some (.ref q)] (decide (k2 ∈ l) && !decide (k1 ∈ l)) H2 := hR _ H2 rfl (Same.refl _)
      refine ⟨rfl, ?_⟩
      refine ⟨_, rfl, _, rfl, q, _, rfl, .inr (SqT.of hq), rfl, flat_strs _, _, rfl, ?_⟩
      rw [inV_str]
      by_cases h2 : k2 ∈ l
      · rw [decide_eq_true h2]
        rw [decide_eq_true h2, Bool.true_and] at hR
        refine iteT ?_
        refine ⟨_, rfl, _, rfl, q, _, rfl, .inr (SqT.of hq), rfl, flat_strs _, _, rfl, ?_⟩
        rw [inV_str]
        exact hR
      · rw [decide_eq_false h2]
        rw [decide_eq_false h2, Bool.false_and] at hR
        refine iteF ?_
        exact hR
    · intro D ws H2 nD e2 hD at2
      exact ⟨x, D, ws, zs, ch, _, rfl, FA1.same e2, nz, lz, hD, at2, fun l m => (List.mem_filter.mp m).1, (lots_nodup nz).filter _, fun q H3 nq e3 QA => kQ k1 k2 q H3 rfl rfl h1z h2z ((Same.trans e1 e2).free nq) (Same.trans (Same.trans e1 e2) e3) QA⟩
def spWhole (C CQ : Addr) : Sp := fun vs H Q _ => ∃ (x : Addr) (zs : List Str) (ch : Bool), vs = [.ref x] ∧ FoldersAt C H x zs ch ∧ zs.Nodup ∧ zs.length ≤ mostFor ch ∧ ∀ q H', H q = none → Same H H' → QuestAt C CQ H' q x zs ch (cnt (lotsFor ch zs)) → Q (.ref q) H'
theorem scWhole : FnScope ["folders"] ["folders"] (defScope (topS 58)) := ⟨rfl, rfl, rfl, by decide +kernel, rfl, by decide +kernel, by decide +kernel⟩
theorem ok_whole (B : Bi mg) {C CQ f0 f f2 fT : Addr} {fd fd2 fdT : FuncData} (T : FolT K mg C f0) (c_counting : Cal P w K mg base CX0 6 "counting" f2 fd2 ["folders", "lots"] (spCounting C CQ))
    (GLots : FnOk P w K mg base CX0 1 fT fdT ["self"] (spFLots C)) (bLots : Binds K fdT ["self"] []) (mLots : Meth K C "lots" fT)
    (F : Fun K "whole" "whole" (topS 58) f fd) : FnOk P w K mg base CX0 7 f fd ["folders"] (spWhole C CQ) := by
  refine F.ok scWhole (fun vs H Q E h => ?_) (fun cdv A outer s H vs Q E hr h => ?_)
  · obtain ⟨x, zs, ch, rfl, _⟩ := h
    rfl
  · obtain ⟨x, zs, ch, rfl, FA, nz, lz, kQ⟩ := h
    have nd := scWhole.nd
    have hu := hu_of hr
    have hrE : Room 1 _ := hr.mono (by decide)
    have hr_counting : Room 6 _ := hr.mono (by decide)
    refine ⟨_, (pss_one (ps_ret (pe_call c_counting.ok hr_counting (by rfl) c_counting.g c_counting.kp c_counting.b .nil pass0 (pa_cons (pv 0) (pa_cons (pe_meth0 (pv 0) T.cl mLots GLots hrE bLots .nil pass0) pa_nil))))), ?_⟩
    obtain ⟨dx, t, pd, hx, ht, hp⟩ := id FA
    refine ⟨_, rfl, _, rfl, x, dx, _, rfl, hx, look_lots _ _ _, x, zs, ch, rfl, FA, nz, fun D ws H1 nD e1 hD at1 => ?_⟩
    exact ⟨x, D, ws, zs, ch, _, rfl, FA.same e1, nz, lz, hD, at1, fun l m => m, lots_nodup nz, fun q H3 nq e3 QA => kQ q H3 (e1.free nq) (Same.trans e1 e3) QA⟩
end
end Bk

/-! + - * of instances whose class says them itself; a whole number times such an instance -/
namespace Bk
open PySem PySem.Spec PyProof.Rows L2
section
variable {X : Cx} {CX : CXT} {n : Nat} {C f : Addr} {fd : FuncData} {ps : List Str} {sp : Sp} {E : XK}
/-- x op y of two such instances; it tells an object -/
def rBinOwn (C : Addr) (sp : Sp) (E : XK) : R2 := fun x y H Q => ∃ (a dx b dy : Addr) (fs gs : List (Str × V)), x = .ref a ∧ y = .ref b ∧ H a = some (.ins C dx fs) ∧ H b = some (.ins C dy gs) ∧ sp [.ref a, .ref b] H (fun v H' => ∃ p : Addr, v = .ref p ∧ Q (.ref p) H') E
theorem op_binOwn {op : Operator} (F : FnOk X.prog X.w X.K X.mg X.base CX n f fd ps sp) (hb : Binds X.K fd ps []) (hx : Passes CX X E) (hr : Room n X.A) (m : Own X.K C (PySem.dunder op.info.2) f) (hc : PySem.W.selfFirst X.K C = true) : OpR X (binaryOp op) (rBinOwn C sp E) := by
  intro pins s σ H x y v u Q I rx ry h
  obtain ⟨a, dx, b, dy, fs, gs, rfl, rfl, ha, hb', hs⟩ := h
  cases rx
  cases ry
  obtain ⟨mA, J, _⟩ := ins_get I.hok ha
  obtain ⟨od, J, _⟩ := J.look
  obtain ⟨mB, J2, _⟩ := ins_get I.hok hb'
  obtain ⟨_, hF⟩ := I.fr
  refine PySem.W.binop_K (op := op) hF I.ok.mod.kin J (looks_cls J2.obj rfl) hc m.at_ m.fn (wpAny_mono (own_run (vs := [.ref a, .ref b]) F hb hx ⟨hr, rfl⟩ I (.cons rfl (.cons rfl .nil)) hs) (fun v s' hv => ?_) fun _ _ z => z)
  obtain ⟨z, H', I', rv, p, rfl, q⟩ := hv
  cases rv
  exact ⟨.ref p, H', I', rfl, q⟩
/-- x * k, k a whole number -/
def rMulInt (C : Addr) (sp : Sp) (E : XK) : R2 := fun x y H Q => ∃ (a dx : Addr) (fs : List (Str × V)) (i : Int), x = .ref a ∧ y = .int i ∧ H a = some (.ins C dx fs) ∧ sp [.ref a, .int i] H (fun v H' => ∃ p : Addr, v = .ref p ∧ Q (.ref p) H') E
/-- what the top says of a class with own * from both sides -/
structure MulT (K : PySem.W.Frag) (C fM fR : Addr) : Prop where
  sf : PySem.W.selfFirst K C = true
  m : Own K C "__mul__" fM
  r : Own K C "__rmul__" fR
  i1 : PySem.W.findIn K (.type "int") "__mul__" = some (some (.builtin "int.__mul__"))
  i2 : PySem.W.findIn K (.type "int") "__rmul__" = some (some (.builtin "int.__rmul__"))
  s1 : PySem.W.subIn K (.type "int") (.ref C) = some false
  s2 : PySem.W.subIn K (.ref C) (.type "int") = some false
theorem op_mulInt {fR : Addr} (F : FnOk X.prog X.w X.K X.mg X.base CX n f fd ps sp) (hb : Binds X.K fd ps []) (hx : Passes CX X E) (hr : Room n X.A) (m : MulT X.K C f fR) : OpR X (binaryOp .Mult) (rMulInt C sp E) := by
  intro pins s σ H x y v u Q I rx ry h
  obtain ⟨a, dx, fs, i, rfl, rfl, ha, hs⟩ := h
  cases rx
  obtain ⟨t, rfl⟩ := (show ∃ t, u = Value.int i t from ry)
  obtain ⟨mA, J, _⟩ := ins_get I.hok ha
  obtain ⟨od, J, _⟩ := J.look
  obtain ⟨_, hF⟩ := I.fr
  refine PySem.W.ksp_binT (op := .Mult) (T := "int") hF I.ok.mod.kin J rfl m.sf m.m.at_ m.m.fn m.r.at_ (.inr ⟨_, rfl⟩) m.i1 m.i2 m.s1 (wpAny_mono (own_run (vs := [.ref a, .int i]) F hb hx ⟨hr, rfl⟩ I (.cons rfl (.cons ⟨t, rfl⟩ .nil)) hs) (fun v s' hv => ?_) fun _ _ z => z)
  obtain ⟨z, H', I', rv, p, rfl, q⟩ := hv
  cases rv
  exact ⟨.ref p, H', I', rfl, q⟩
end
theorem int_mul_other (i : Int) (t : Tok) (l : Addr) (o : Obj) (ho : ∀ v, o.data ≠ .prim v) : Meets (Builtin.«int.__mul__» ⟨[.int i t, .ref l], []⟩) (fun _ R s => s.heap.get? l = some o ∧ R (.ok (.ret Value.notImplemented)) s) :=
  .of_wp fun prog w A R s h => by
    obtain ⟨hp, g, d, tk, os⟩ := s
    obtain ⟨hl, h⟩ := h
    obtain ⟨c, dd, dat, sl⟩ := o
    cases dat <;> first | exact absurd rfl (ho _) | (wp_walk; exact ⟨_, rfl, h⟩)
end Bk
namespace Bk
open PySem PySem.Spec PyProof.Rows L2
section
variable {X : Cx} {CX : CXT} {n : Nat} {C f : Addr} {fd : FuncData} {ps : List Str} {sp : Sp} {E : XK}
/-- k * x, k a whole number -/
def rIntMul (C : Addr) (sp : Sp) (E : XK) : R2 := fun x y H Q => ∃ (a dx : Addr) (fs : List (Str × V)) (i : Int), x = .int i ∧ y = .ref a ∧ H a = some (.ins C dx fs) ∧ sp [.ref a, .int i] H (fun v H' => ∃ p : Addr, v = .ref p ∧ Q (.ref p) H') E
theorem op_intMul {fM : Addr} (F : FnOk X.prog X.w X.K X.mg X.base CX n f fd ps sp) (hb : Binds X.K fd ps []) (hx : Passes CX X E) (hr : Room n X.A) (m : MulT X.K C fM f) : OpR X (binaryOp .Mult) (rIntMul C sp E) := by
  intro pins s σ H x y v u Q I rx ry h
  obtain ⟨a, dx, fs, i, rfl, rfl, ha, hs⟩ := h
  cases ry
  obtain ⟨t, rfl⟩ := (show ∃ t, v = Value.int i t from rx)
  obtain ⟨mA, J, _⟩ := ins_get I.hok ha
  have hobj := J.obj
  obtain ⟨od, J, _⟩ := J.look
  obtain ⟨_, hF⟩ := I.fr
  have KX : X.K.In s.heap := I.kIn
  have run := own_run (vs := [.ref a, .int i]) (us := [.ref a, .int i t]) F hb hx ⟨hr, rfl⟩ I (.cons rfl (.cons ⟨t, rfl⟩ .nil)) hs
  have one := PySem.W.ksp_try (Q := EP X pins σ Q) KX J m.r.at_ m.r.fn (b := .int i t) (wpAny_mono run (fun v s' hv => by
    obtain ⟨z, H', I', rv, p, rfl, q⟩ := hv
    cases rv
    exact ⟨.ref p, H', I', rfl, q⟩) fun _ _ z => z)
  obtain ⟨cd, rest, hcd, hm⟩ := PySem.W.ksp_first m.sf
  have L1 : PySem.W.Looks (model X.prog X.w) s.heap (typeOf (.ref a)) (.ref C) := J.type
  have L2' : PySem.W.Looks (model X.prog X.w) s.heap (fillsNumberSlot (.ref C) "mul") true := PySem.W.fills_K KX hcd hm m.m.at_
  have L3 : PySem.W.Looks (model X.prog X.w) s.heap (isSubtype (.ref C) (.type "int")) false := PySem.W.looks_subIn KX m.s2
  unfold binaryOp
  refine wpAny_holding (wpAny_bind ?_)
  unfold binaryOp1
  refine wpAny_bind (wpAny_pure (wpAny_bind (L1.here ?_)))
  have hne : (Value.type "int" == Value.ref C) = false := Bool.eq_false_iff.mpr fun q => by cases beq_iff_eq.mp q
  have hi : s.TypeIs (.int i t) "int" := rfl
  have nomul : ∀ {Q' : Option Value → Shared → Prop}, Q' none s → wpAny (model X.prog X.w) X.A (tryMethod (.int i t) (PySem.dunder "mul") (.ref a)) Q' X.xe s := fun {Q'} q => by
    unfold tryMethod
    refine wpAny_bind (wpAny_callSpecial?_slot hi PySem.F.slot_int_mul (call_meets PySem.F.slot_int_mul hi PySem.F.entry_int_mul (PySem.F.args_int_mul_2 _ _) (int_mul_other i t a _ (fun v z => by cases z)) ⟨hobj, ?_⟩))
    exact wpAny_pure q
  refine wpAny_bind (wpAny_of_eq PySem.F.fills_int_mul ?_)
  simp only [hne, Bool.false_eq_true, if_false]
  refine wpAny_bind (L2'.here ?_)
  simp only [Bool.and_self, if_true]
  refine wpAny_bind (L3.here ?_)
  simp only [Bool.false_eq_true, if_false, Bool.not_false, Bool.and_self, if_true]
  refine wpAny_bind (wpAny_pure ?_)
  simp only [Bool.false_eq_true, if_false]
  refine wpAny_bind (nomul ?_)
  simp only [Bool.false_eq_true, if_false, Bool.not_false, Bool.and_self, if_true]
  refine wpAny_bind (wpAny_mono one (fun r s' hr' => ?_) fun _ _ e => e)
  obtain ⟨v, rfl, hq⟩ := hr'
  refine wpAny_bind (wpAny_rule (wpAny_pure ?_))
  exact wpAny_pure hq
end
end Bk

namespace Bk
open PySem PySem.Spec PyProof.Rows L2
theorem take_fresh {ls : List (List Str)} (nd : ls.Nodup) {i : Nat} {l : List Str} (hl : ls[i]? = some l) : l ∉ ls.take i := fun m => by
  obtain ⟨j, hj, e⟩ := List.mem_take_iff_getElem.mp m
  have hil := (List.getElem?_eq_some_iff.mp hl).1
  have := nodup_inj nd (i := j) (j := i) (by omega) hil (by
    rw [e]
    exact (List.getElem?_eq_some_iff.mp hl).2.symm)
  omega
/-- the entries of a dict by such lots, all of them lots of the folders -/
theorem ents_some {ch : Bool} {zs : List Str} (nz : zs.Nodup) (lz : zs.length ≤ mostFor ch) {ls : List (List Str)} (f : List Str → Int) (sub : ∀ l ∈ ls, l ∈ lotsFor ch zs) (nl : ls.Nodup) : Ents ch zs (ls.map fun l => (l, f l)) where
  few := by
    rw [List.length_map]
    have h1 := pigeon ls (lotsFor ch zs) nl sub
    have := lots_few (ch := ch) lz
    omega
  lot := fun e he => by
    obtain ⟨l, m, rfl⟩ := List.mem_map.mp he
    show lotOfV ch zs (l.map V.str) = some (lotS zs l)
    rw [lotOfV_lot lz nz (sub l m), lotS_sub (lots_sub lz (sub l m)) nz]
  len := fun e he => by
    obtain ⟨l, m, rfl⟩ := List.mem_map.mp he
    have h1 := lot_len (sub l m)
    have h2 : mostFor ch ≤ 12 := by cases ch <;> decide
    show l.length ≤ 1000
    omega
  nd := by
    rw [List.map_map]
    have e : ls.map ((fun e : List Str × Int => lotS zs e.1) ∘ fun l => (l, f l)) = ls := by
      conv => rhs; rw [← List.map_id ls]
      exact List.map_congr_left fun l m => lotS_sub (lots_sub lz (sub l m)) nz
    rw [e]
    exact nl
theorem ent_some (ls : List (List Str)) (f : List Str → Int) : entT (ls.map fun l => (l, f l)) = tabL ls f := by
  unfold entT tabL
  rw [List.map_map]
  rfl
theorem found_some {ch : Bool} {zs : List Str} (nz : zs.Nodup) (lz : zs.length ≤ mostFor ch) {ls : List (List Str)} (f : List Str → Int) (sub : ∀ l ∈ ls, l ∈ lotsFor ch zs) : foundT zs (ls.map fun l => (l, f l)) = tabL ls f := by
  unfold foundT tabL
  rw [List.map_map]
  refine List.map_congr_left fun l m => ?_
  show ((lotS zs l).map Sum.inr, f l) = _
  rw [lotS_sub (lots_sub lz (sub l m)) nz]
theorem far_new {C x d : Addr} {H1 H : Hp} {zs : List Str} {ch : Bool} (FA : FoldersAt C H1 x zs ch) (nd : H1 d = none) (e : Same H1 H) : ∀ dx t pd, H x = some (.ins C dx (foldersF t pd ch)) → pd ≠ d := fun dx t pd hx => by
  obtain ⟨dx', t', pd', hx', ht', hp'⟩ := FA
  have h := e _ _ hx'
  rw [hx] at h
  have h := Option.some.inj h
  injection h with _ _ h3
  have h4 : pd = pd' := by
    unfold foldersF at h3
    simpa using (List.cons.inj (List.cons.inj (List.cons.inj h3).2).2).1
  rw [h4]
  exact ne_of_none hp' nd
/-- Question(folders, d) of a dict by lots -/
theorem make_quest {K : PySem.W.Frag} {C CQ : Addr} {H : Hp} {x d : Addr} {zs : List Str} {ch : Bool} {ls : List (List Str)} {f wt : List Str → Int} {R : Addr → Hp → Prop} (FA : FoldersAt C H x zs ch) (nz : zs.Nodup) (lz : zs.length ≤ mostFor ch) (hd : H d = some (.dT (tabV (tabL ls f)))) (far : ∀ dx t pd, H x = some (.ins C dx (foldersF t pd ch)) → pd ≠ d)
    (sub : ∀ l ∈ ls, l ∈ lotsFor ch zs) (nl : ls.Nodup) (hw : ∀ l ∈ lotsFor ch zs, wt l = if l ∈ ls then f l else 0) (r : ∀ q H', H q = none → Same H H' → QuestAt C CQ H' q x zs ch wt → R q H') :
    ∀ q dq, H q = none → H dq = none → dq ≠ q → spQuest K C CQ [.ref q, .ref x, .ref d] (upd (upd H dq (.own q)) q (.ins CQ dq [])) (fun v H' => v = .non ∧ R q H') E0 := by
  rintro q dq nq ndq hne
  have e2 := Same.grow (o := HO.ins CQ dq []) (Same.grow (o := HO.own q) (Same.refl H) ndq) nq
  obtain ⟨dx, t, pd, hx, ht, hp⟩ := FA
  refine ⟨q, x, dq, dx, t, pd, .ref d, zs, ch, wt, rfl, upd_same, e2 _ _ hx, e2 _ _ ht, e2 _ _ hp, nz, lz, .inr ⟨d, ls.map fun l => (l, f l), rfl, far _ _ _ hx, ?_, ents_some nz lz f sub nl, fun l m => ?_⟩, fun H' QA hb => ⟨rfl, r q H' nq (fun b u z => hb b u (ne_of_none z nq) (e2 _ _ z)) QA⟩⟩
  · rw [ent_some]
    exact e2 _ _ hd
  · rw [found_some nz lz f sub, getT_tab, hw l m]
    by_cases h : l ∈ ls
    · rw [if_pos h, if_pos h]; rfl
    · rw [if_neg h, if_neg h]; rfl
/-- added(one, other, sign) of questions about equal folders -/
def spAdded (C CQ : Addr) : Sp := fun vs H Q _ => ∃ (q x q' x' : Addr) (zs : List Str) (ch : Bool) (wt wt' : List Str → Int) (sg : Int), vs = [.ref q, .ref q', .int sg] ∧ QuestAt C CQ H q x zs ch wt ∧ QuestAt C CQ H q' x' zs ch wt' ∧ (∀ z ∈ zs, isNameS z = true) ∧ zs.Nodup ∧ zs.length ≤ mostFor ch ∧ -(2 ^ 64) < sg ∧ sg < 2 ^ 64 ∧
  ∀ D H', H D = none → Same H H' → H' D = some (.dT (tabV (tabL (lotsFor ch zs) fun l => wt l + sg * wt' l))) → Q (.ref D) H'
section
variable {P : Program} {w : World} {K : PySem.W.Frag} {mg : Str → Option Value} {base : Heap}
theorem scAdded : FnScope ["one", "other", "sign", "lot"] ["one", "other", "sign"] (defScope (topS 50)) := ⟨rfl, rfl, rfl, by decide +kernel, rfl, by decide +kernel, by decide +kernel⟩
theorem ok_added (B : Bi mg) {C CQ f0 fQ fE f : Addr} {fdE fd : FuncData} (T : FolT K mg C f0) (TQ : QueT K mg CQ fQ) (kT : PySem.W.kitOne K (.ref C) (.ref C) = some true) (tF : ∀ (H : Hp) (x dx : Addr) (fs : List (Str × V)), H x = some (.ins C dx fs) → TyX K H (.ref x) (.ref C))
    (GE : FnOk P w K mg base CX0 1 fE fdE ["self", "other"] (spFEq K C)) (bE : Binds K fdE ["self", "other"] []) (mE : Own K C "__eq__" fE) (cE : eqCls K C fE = true) (F : Fun K "added" "added" (topS 50) f fd) : FnOk P w K mg base CX0 3 f fd ["one", "other", "sign"] (spAdded C CQ) := by
  refine F.ok scAdded (fun vs H Q E h => ?_) (fun cdv A outer s H vs Q E hr h => ?_)
  · obtain ⟨q, x, q', x', zs, ch, wt, wt', sg, rfl, _⟩ := h
    rfl
  · obtain ⟨q, x, q', x', zs, ch, wt, wt', sg, rfl, QA, QB, nm, nz, lz, g1, g2, qq⟩ := h
    have nd := scAdded.nd
    have hu := hu_of hr
    have hrN := hr
    refine ⟨_, (pss_cons (ps_if (pt_cmpR (op_neOwn GE bE pass0 hrN cE mE.fn) (pe_fld (pv 0) rfl) (pe_fld (pv 1) rfl) (nomark _)) (pss_one ps_no) pss_nil)
      (pss_one (ps_ret (pe_lock (pe_dcT (own := [("lot", 3)]) hr.units0 rfl nd (pi_keys (pe_fld (pe_fld (pv 0) rfl) rfl)) (blkOk_by (N := ["one", "other", "sign", "lot"]) (sc := defScope (topS 50)) (by decide +kernel)) (fun _ _ _ _ _ => (pg_name (i := 3) nd rfl (Or.inl rfl))) (fun _ _ _ _ _ => (pv 3)) (fun _ _ _ _ _ => (pe_op op_add (pe_dget2 hu (kFld K (pv 0)) (pv 3) pe_int ⟨rfl, rfl, rfl, rfl⟩) (pe_op op_mul (pv 2) (pe_dget2 hu (kFld K (pv 1)) (pv 3) pe_int ⟨rfl, rfl, rfl, rfl⟩))))))))), ?_⟩
    obtain ⟨dq, td, hq, FA, htd⟩ := id QA
    obtain ⟨dq', td', hq', FB, htd'⟩ := id QB
    obtain ⟨dx, t, pd, hx, ht, hp⟩ := id FA
    obtain ⟨dx', t', pd', hx', ht', hp'⟩ := id FB
    refine ⟨_, rfl, q, CQ, dq, _, _, rfl, hq, TQ.cl, TQ.nF, look_folders _ _, _, rfl, q', CQ, dq', _, _, rfl, hq', TQ.cl, TQ.nF, look_folders _ _, x, dx, x', dx', _, _, rfl, rfl, hx, hx', x, .ref x', .ref C, zs, ch, _, rfl, FA, nm, tF _ _ _ _ hx', .inr ⟨kT, x', zs, ch, rfl, FB, nm, rfl⟩, fun H1 e1 => ⟨_, rfl, _, rfl, ?_⟩⟩
    rw [decide_eq_true rfl, decide_eq_true rfl]
    refine iteF ?_
    have hp1 := e1 _ _ hp
    refine ⟨pd, _, hp1, trivial, fun od => ?_⟩
    have hxp : x ≠ pd := ne_of hx hp (fun z => nomatch z)
    have hqp : q ≠ pd := ne_of hq hp (fun z => nomatch z)
    have hqp' : q' ≠ pd := ne_of hq' hp (fun z => nomatch z)
    have hp3 : upd H1 pd (.frz od (.dT (placesOf (lotsFor ch zs)))) pd = some (.frz od (.dT (placesOf (lotsFor ch zs)))) := upd_same
    refine ⟨_, rfl, q, CQ, dq, _, _, rfl, by rw [upd_ne hqp]; exact e1 _ _ hq, TQ.cl, TQ.nF, look_folders _ _, x, C, dx, _, _, rfl, by rw [upd_ne hxp]; exact e1 _ _ hx, T.cl, T.nP, look_places _ _ _, pd, od, rfl, .inr ⟨_, hp3, fun D2 nD2 => ?_⟩⟩
    have hDp : D2 ≠ pd := (ne_of_none hp3 nD2).symm
    have nD1 : H1 D2 = none := by rw [upd_ne hDp] at nD2; exact nD2
    have lots3 : (lotsFor ch zs).length ≤ 2000 := lots_few lz
    have keep : ∀ {b : Addr} {o : HO} {H' : Hp}, Same (upd H1 pd (.frz od (.dT (placesOf (lotsFor ch zs))))) H' → b ≠ pd → H b = some o → H' b = some o := fun e nb h => e _ _ (by rw [upd_ne nb]; exact e1 _ _ h)
    refine dcT_itw walk_keysT (fun i H' => Same (upd H1 pd (.frz od (.dT (placesOf (lotsFor ch zs))))) H' ∧ H' D2 = some (.dT (tabV (tabL ((lotsFor ch zs).take i) fun l => wt l + sg * wt' l)))) ⟨same_upd nD2, upd_same⟩ (fun i H' _ ⟨e3, _⟩ => e3 _ _ hp3) ?_ ?_
    · rintro i y H3 H4 hi ⟨e3, hd3⟩ ⟨rfl, k, v, qa, hk, rfl, hqa⟩
      obtain ⟨l, hl, rfl⟩ := places_key nz hk
      have ml := List.mem_of_getElem? hl
      have hqs : H4 qa = some (.tup ((l.map Sum.inr : List Key).map kV)) := hqa
      have get : ∀ (wt : List Str → Int), (valV (tabV (tableOf ch zs wt)) (l.map Sum.inr)).getD (.int 0) = .int (wt l) := fun wt => by
        rw [valV_tab, ← getT_table (wt := wt) ml]
        cases getT (tableOf ch zs wt) (l.map Sum.inr) <;> rfl
      have hq4 := keep e3 hqp hq
      have hq4' := keep e3 hqp' hq'
      have tb : ∀ {td : Addr} {kvs : List (List Key × V)}, H td = some (.dT kvs) → H4 td = some (.dT kvs) ∨ ∃ o, H4 td = some (.frz o (.dT kvs)) := fun {td kvs} h => by
        by_cases z : td = pd
        · subst z
          rw [hp] at h
          cases h
          exact .inr ⟨od, e3 _ _ hp3⟩
        · exact .inl (keep e3 z h)
      have gt : ∀ {td : Addr} {kvs : List (List Key × V)}, H td = some (.dT kvs) → DGet H4 td (.ref qa) (valV kvs (l.map Sum.inr)) := fun {td kvs} h => .inr ⟨kvs, _, qa, tb h, rfl, hqs, rfl⟩
      refine ⟨rfl, _, rfl, _, rfl, q, CQ, dq, _, _, rfl, hq4, TQ.cl, TQ.nT, look_table _ _, td, rfl, .inr ⟨_, tb htd⟩, _, rfl, _, gt htd, ?_⟩
      rw [get wt]
      refine ⟨_, rfl, _, rfl, q', CQ, dq', _, _, rfl, hq4', TQ.cl, TQ.nT, look_table _ _, td', rfl, .inr ⟨_, tb htd'⟩, _, rfl, _, gt htd', ?_⟩
      rw [get wt']
      refine ⟨sg, wt' l, rfl, rfl, .inl ⟨g1, g2⟩, wt l, sg * wt' l, rfl, rfl, _, l.map Sum.inr, qa, rfl, hqs, hd3, ?_, Same.grow e3 nD2, ?_⟩
      · rw [tab_len]
        unfold tabL
        rw [List.length_map, List.length_take]
        exact Evl.sz_lt (by omega)
      · have := tab_put (f := fun l => wt l + sg * wt' l) (take_fresh (lots_nodup (ch := ch) nz) hl)
        rw [upd_same, this, take_succ hl]
    · rintro H3 ⟨e3, hd3⟩
      rw [places_length nz, List.take_length] at hd3
      exact ⟨e3 _ _ hp3, qq D2 _ (e1.free nD1) (Same.trans e1 (unlock hp1 e3)) (by rw [upd_ne hDp]; exact hd3)⟩
end
end Bk

namespace Bk
open PySem PySem.Spec PyProof.Rows L2
/-- self + other, self - other: sg tells which -/
def spPlus (C CQ : Addr) (sg : Int) : Sp := fun vs H Q _ => ∃ (q x q' x' : Addr) (zs : List Str) (ch : Bool) (wt wt' : List Str → Int), vs = [.ref q, .ref q'] ∧ QuestAt C CQ H q x zs ch wt ∧ QuestAt C CQ H q' x' zs ch wt' ∧ (∀ z ∈ zs, isNameS z = true) ∧ zs.Nodup ∧ zs.length ≤ mostFor ch ∧
  ∀ y H', H y = none → Same H H' → QuestAt C CQ H' y x zs ch (fun l => wt l + sg * wt' l) → Q (.ref y) H'
def spTimes (C CQ : Addr) : Sp := fun vs H Q _ => ∃ (q x : Addr) (zs : List Str) (ch : Bool) (wt : List Str → Int) (k : Int), vs = [.ref q, .int k] ∧ QuestAt C CQ H q x zs ch wt ∧ zs.Nodup ∧ zs.length ≤ mostFor ch ∧ (∀ l ∈ lotsFor ch zs, CMul (wt l) k) ∧
  ∀ y H', H y = none → Same H H' → QuestAt C CQ H' y x zs ch (fun l => wt l * k) → Q (.ref y) H'
section
variable {P : Program} {w : World} {K : PySem.W.Frag} {mg : Str → Option Value} {base : Heap}
theorem plus_end {C CQ : Addr} {H H1 : Hp} {x D : Addr} {zs : List Str} {ch : Bool} {wt : List Str → Int} {R : Addr → Hp → Prop} (FA : FoldersAt C H x zs ch) (nz : zs.Nodup) (lz : zs.length ≤ mostFor ch) (nD : H D = none) (e1 : Same H H1) (hD : H1 D = some (.dT (tabV (tabL (lotsFor ch zs) wt))))
    (r : ∀ y H', H y = none → Same H H' → QuestAt C CQ H' y x zs ch wt → R y H') : ∀ q dq, H1 q = none → H1 dq = none → dq ≠ q → spQuest K C CQ [.ref q, .ref x, .ref D] (upd (upd H1 dq (.own q)) q (.ins CQ dq [])) (fun v H' => v = .non ∧ R q H') E0 :=
  make_quest (FA.same e1) nz lz hD (far_new FA nD e1) (fun l m => m) (lots_nodup nz) (fun l m => by rw [if_pos m]) fun q H' nq e QA => r q H' (e1.free nq) (Same.trans e1 e) QA
theorem scPlus : FnScope ["self", "other"] ["self", "other"] (defScope (inClass (topS 47) 3)) := ⟨rfl, rfl, rfl, by decide +kernel, rfl, by decide +kernel, by decide +kernel⟩
theorem ok_plus (B : Bi mg) {C CQ fQ f f1 : Addr} {fdQ fd fd1 : FuncData} (TQ : QueT K mg CQ fQ) (GQ : FnOk P w K mg base CX0 4 fQ fdQ ["self", "folders", "weights"] (spQuest K C CQ)) (bQ : Binds K fdQ ["self", "folders", "weights"] [])
    (c_added : Cal P w K mg base CX0 3 "added" f1 fd1 ["one", "other", "sign"] (spAdded C CQ)) (F : Fun K "__add__" "Question.__add__" (inClass (topS 47) 3) f fd) : FnOk P w K mg base CX0 6 f fd ["self", "other"] (spPlus C CQ 1) := by
  refine F.ok scPlus (fun vs H Q E h => ?_) (fun cdv A outer s H vs Q E hr h => ?_)
  · obtain ⟨q, x, q', x', zs, ch, wt, wt', rfl, _⟩ := h
    rfl
  · obtain ⟨q, x, q', x', zs, ch, wt, wt', rfl, QA, QB, nm, nz, lz, qq⟩ := h
    have nd := scPlus.nd
    have hu := hu_of hr
    have hr_added : Room 3 _ := hr.mono (by decide)
    refine ⟨_, (pss_one (ps_ret (pe_make TQ.make GQ hr (by rfl) TQ.g bQ .nil pass0 (pa_cons (pe_fld (pv 0) rfl) (pa_cons (pe_call c_added.ok hr_added (by rfl) c_added.g c_added.kp c_added.b .nil pass0 (pa_cons (pv 0) (pa_cons (pv 1) (pa_cons pe_int pa_nil)))) pa_nil))))), ?_⟩
    obtain ⟨dq, td, hq, FA, htd⟩ := id QA
    exact ⟨_, rfl, q, CQ, dq, _, _, rfl, hq, TQ.cl, TQ.nF, look_folders _ _, _, rfl, _, rfl, q, x, q', x', zs, ch, wt, wt', 1, rfl, QA, QB, nm, nz, lz, by decide, by decide, fun D H1 nD e1 hD => plus_end FA nz lz nD e1 hD qq⟩
theorem scMinus : FnScope ["self", "other"] ["self", "other"] (defScope (inClass (topS 47) 4)) := ⟨rfl, rfl, rfl, by decide +kernel, rfl, by decide +kernel, by decide +kernel⟩
theorem ok_minus (B : Bi mg) {C CQ fQ f f1 : Addr} {fdQ fd fd1 : FuncData} (TQ : QueT K mg CQ fQ) (GQ : FnOk P w K mg base CX0 4 fQ fdQ ["self", "folders", "weights"] (spQuest K C CQ)) (bQ : Binds K fdQ ["self", "folders", "weights"] [])
    (c_added : Cal P w K mg base CX0 3 "added" f1 fd1 ["one", "other", "sign"] (spAdded C CQ)) (F : Fun K "__sub__" "Question.__sub__" (inClass (topS 47) 4) f fd) : FnOk P w K mg base CX0 6 f fd ["self", "other"] (spPlus C CQ (-1)) := by
  refine F.ok scMinus (fun vs H Q E h => ?_) (fun cdv A outer s H vs Q E hr h => ?_)
  · obtain ⟨q, x, q', x', zs, ch, wt, wt', rfl, _⟩ := h
    rfl
  · obtain ⟨q, x, q', x', zs, ch, wt, wt', rfl, QA, QB, nm, nz, lz, qq⟩ := h
    have nd := scMinus.nd
    have hu := hu_of hr
    have hr_added : Room 3 _ := hr.mono (by decide)
    refine ⟨_, (pss_one (ps_ret (pe_make TQ.make GQ hr (by rfl) TQ.g bQ .nil pass0 (pa_cons (pe_fld (pv 0) rfl) (pa_cons (pe_call c_added.ok hr_added (by rfl) c_added.g c_added.kp c_added.b .nil pass0 (pa_cons (pv 0) (pa_cons (pv 1) (pa_cons (pe_un un_neg pe_int) pa_nil)))) pa_nil))))), ?_⟩
    obtain ⟨dq, td, hq, FA, htd⟩ := id QA
    exact ⟨_, rfl, q, CQ, dq, _, _, rfl, hq, TQ.cl, TQ.nF, look_folders _ _, _, rfl, _, rfl, _, rfl, q, x, q', x', zs, ch, wt, wt', -1, rfl, QA, QB, nm, nz, lz, by decide, by decide, fun D H1 nD e1 hD => plus_end FA nz lz nD e1 hD qq⟩
end
end Bk

/-! dict displays whose keys are tuples; == of lists of such dicts -/
namespace Bk
open PySem PySem.Spec PyProof.Rows L2
/-- the pairs of a display whose keys are tuples -/
abbrev PT (H : Hp) : List (V × V) → List (List Key × V) → Prop := Paired fun q kv => ∃ b : Addr, q = (.ref b, kv.2) ∧ H b = some (.tup (kv.1.map kV))
theorem carriesT {P : Program} {w : World} {H : Hp} {h : Heap} (hok : HOk P w H h) : ∀ {ps : List (V × V)} {kvs : List (List Key × V)} {ws : List (Value × Value)}, PT H ps kvs → VV ps ws → ∃ rs, CarriesH (tupleKind (mixKind P w)) h ws rs ∧ KT H kvs rs
  | _, _, _, .nil, r => by cases r; exact ⟨[], True.intro, .nil⟩
  | _, _, _, .cons (a := p) (b := kv) e t, r => by
    obtain ⟨b, rfl, hb⟩ := e
    cases r with
    | @cons _ q _ bs h t2 =>
      obtain ⟨rs, c, k⟩ := carriesT hok t t2
      obtain ⟨u1, u2⟩ := q
      obtain ⟨h1, h2⟩ := h
      have h1 : u1 = Value.ref b := h1
      subst h1
      exact ⟨(kv.1, b, u2) :: rs, ⟨rfl, rfl, key_of hok hb, c⟩, .cons ⟨rfl, hb, h2⟩ k⟩
def tDispT (trs : List (TE × TE)) : TE := fun σ H Q => ∀ p, H p = none → tPairs trs σ (upd H p (.dT [])) fun ps H2 => H2 p = some (.dT []) ∧ ∃ kvs : List (List Key × V), PT H2 ps kvs ∧ kvs.length ≤ 15 ∧ Q (.ref p) (upd H2 p (.dT (mergeT [] kvs)))
theorem pe_dispT {X : Cx} {pos : Pos} {keys : List (Option Expr)} {values : List Expr} {trs : List (TE × TE)} (hu : X.A.units + 1 < cLine) (h : PPs X pos keys values trs) (hall : keys.all (·.isSome) = true) (hl : keys.length = values.length) (h0 : keys ≠ [])
    (h15 : keys.length ≤ 15) : PE X (.Dict keys values pos) (tDispT trs) := by
  refine ⟨fun pins s σ H Q I q => ?_⟩
  have hn := I.hok.fresh (Nat.le_refl s.heap.objs.size)
  have I1 := I.laid (a := s.heap.objs.size) (o := .dT []) (h' := s.heap.push { cls := .type "dict", data := .dict #[] }) (t' := s.toks) (fun _ _ q => Heap.get?_push_of_some _ q) (Nat.le_refl _) (dt_empty s.heap I.big)
  have hp := pairTrees_length keys values X.env pos hall hl
  have hp0 : pairTrees keys values X.env pos ≠ [] := fun he => by
    rw [he] at hp
    exact h0 (List.length_eq_zero_iff.mp hp.symm)
  rw [arm_eval_Dict, zip_pairTrees keys values X.env pos hall hl, dictDisplay_pairs _ hp0 (by omega)]
  refine wpAny_bind (wpAny_standAt (wpAny_bind (wpAny_subDictH (knd := tupleKind (mixKind X.prog X.w)) (Q := fun d s' => wpAny (model X.prog X.w) X.A (pure (Value.ref d)) (EP X pins σ Q) X.xe s') (show X.A.units < cLine from Nat.lt_of_succ_lt hu) (by omega) ?_)))
  refine thn (h.run pins _ σ _ _ I1 (q _ hn)) fun ws s2 ⟨ps, H2, I2, rel, e, kvs, pt, lk, q2⟩ => ?_
  obtain ⟨rs, c, rk⟩ := carriesT I2.hok pt rel
  obtain ⟨z, hd, xs0, r0, dd⟩ := dt_of I2.hok e
  cases r0
  refine ⟨rs, c, dd, fun h' tk dd' hs => wpAny_pure ?_⟩
  have hz : (mergeT [] kvs).length ≤ sizeLine := by
    have h1 := mergeT_len kvs []
    rw [List.length_nil] at h1
    rw [sizeLine_eq]
    omega
  have he : ∃ q, h'.get? s.heap.objs.size = some q := let ⟨q, _, _, hq, _⟩ := dd'; ⟨q, hq⟩
  have nb : ∀ {b : Addr} {ys : List V}, H2 b = some (.tup ys) → (upd H2 s.heap.objs.size (.dT (mergeT [] kvs))) b = some (.tup ys) := fun {b ys} hb => by
    rw [upd_ne (fun z => by rw [z, e] at hb; cases hb)]
    exact hb
  obtain ⟨o, es, ep, h1, h2, h3, h4, _, h5⟩ := dd'
  have new : ObjOk X.prog X.w (upd H2 s.heap.objs.size (.dT (mergeT [] kvs))) h' s.heap.objs.size (.dT (mergeT [] kvs)) :=
    ⟨hz, hd, storedAllH [] rs, (KT.merge _ _ _ _ rk .nil).keeps fun b ys hb => nb hb, o, es, ep, h1, h2, h3, h4, h5⟩
  exact ⟨.ref s.heap.objs.size, _, d_write I2 (by rw [e]; exact True.intro) hs he new, rfl, q2⟩
theorem paired_get {α β : Type} {F : α → β → Prop} : ∀ {l : List α} {m : List β} {i : Nat} {x : α}, Paired F l m → l[i]? = some x → ∃ y, m[i]? = some y ∧ F x y
  | _, _, _, _, .nil, h => by simp at h
  | _, _, 0, _, .cons h _, e => by cases e; exact ⟨_, rfl, h⟩
  | _, _, i + 1, _, .cons _ t, e => by
    obtain ⟨y, h1, h2⟩ := paired_get t (by simpa using e)
    exact ⟨y, by simpa using h1, h2⟩
theorem zip_all {α β : Type} (f : α → β → Bool) (a0 : α) (b0 : β) : ∀ (ks : List α) (ls : List β), ks.length = ls.length → ((List.range ks.length).all fun j => f (ks.getD j a0) (ls.getD j b0)) = (ks.zip ls).all fun p => f p.1 p.2
  | [], [], _ => rfl
  | [], _ :: _, h => nomatch h
  | _ :: _, [], h => nomatch h
  | k :: r, l :: t, h => by
    have ih := zip_all f a0 b0 r t (Nat.succ.inj h)
    rw [List.length_cons, List.range_succ_eq_map, List.all_cons, List.all_map, List.zip_cons_cons, List.all_cons, ← ih]
    rfl
section
variable {X : Cx}
/-- == of two lists of dicts whose keys are tuples, their values whole numbers -/
def rEqLT (K : PySem.W.Frag) : R2 := fun x y H Q => ∃ (l1 l2 : Addr) (as bs : List Addr) (ks ls : List (List (List Key × Int))), x = .ref l1 ∧ y = .ref l2 ∧ SqL K H l1 (as.map V.ref) ∧ SqL K H l2 (bs.map V.ref) ∧ Paired (fun a k => H a = some (.dT (tabV k))) as ks ∧ Paired (fun b k => H b = some (.dT (tabV k))) bs ls ∧
  as.length = bs.length ∧ (∀ (i : Nat) (a b : Addr), as[i]? = some a → bs[i]? = some b → a ≠ b) ∧ Q (.bl ((ks.zip ls).all fun p => sameT p.1 p.2)) H
theorem op_eqLT (hu : X.A.units + 64 < cLine) : OpR X (compareOp .Eq) (rEqLT X.K) := by
  intro pins s σ H x y v u Q I rx ry h
  obtain ⟨l1, l2, as, bs, ks, ls, rfl, rfl, h1, h2, pa, pb, hlen, hne, q⟩ := h
  obtain rfl : v = Value.ref l1 := rx
  obtain rfl : u = Value.ref l2 := ry
  obtain ⟨its, rv, p1, _⟩ := I.list h1
  obtain ⟨its2, rv2, p2, _⟩ := I.list h2
  have ei := refs_at rv
  have ei2 := refs_at rv2
  subst ei ei2
  have hk : as.length = ks.length := Paired.length pa
  have hl : bs.length = ls.length := Paired.length pb
  refine SeqAt.rcP_lists (e := fun j => sameT (ks.getD j []) (ls.getD j [])) p1.isList p2.isList (by simp [hlen]) (by omega) (fun j j1 j2 => ?_) _ _ ?_
  · have j1' : j < as.length := by simpa using j1
    have j2' : j < bs.length := by simpa using j2
    obtain ⟨k, hkj, ha⟩ := paired_get pa (List.getElem?_eq_getElem j1')
    obtain ⟨l, hlj, hb⟩ := paired_get pb (List.getElem?_eq_getElem j2')
    have e1 : ks.getD j [] = k := by rw [List.getD_eq_getElem?_getD, hkj]; rfl
    have e2 : ls.getD j [] = l := by rw [List.getD_eq_getElem?_getD, hlj]; rfl
    have n := hne j _ _ (List.getElem?_eq_getElem j1') (List.getElem?_eq_getElem j2')
    show SeqAt.EqP X.prog X.w X.A.in1 s ((as.map Value.ref).toArray[j]) ((bs.map Value.ref).toArray[j]) (sameT (ks.getD j []) (ls.getD j []))
    rw [e1, e2]
    simp only [List.getElem_toArray, List.getElem_map]
    obtain ⟨_, ya, va, ra, da⟩ := dt_of I.hok ha
    obtain ⟨_, yb, vb, rb, db⟩ := dt_of I.hok hb
    have hl1 : va.length = k.length := by rw [← Paired.length ra]; exact tab_len k
    have hl2 : vb.length = l.length := by rw [← Paired.length rb]; exact tab_len l
    refine SeqAt.eqP_refs n fun E' Q' q' => ?_
    refine PySem.W.bk_eq (A := X.A.in1) (knd := tupleKind (mixKind X.prog X.w)) (show X.A.in1.in1.units < cLine from Nat.lt_of_le_of_lt (Nat.add_le_add_left (by decide : 2 ≤ 64) _) hu) ya yb da db (show X.A.in1.units < cLine from Nat.lt_of_le_of_lt (Nat.add_le_add_left (by decide : 1 ≤ 64) _) hu) (fun _ => hitsT rb ra) ?_
    rw [hl1, hl2]
    exact q'
  · have e : ((List.range (as.map Value.ref).toArray.size).all fun j => sameT (ks.getD j []) (ls.getD j [])) = (ks.zip ls).all fun p => sameT p.1 p.2 := by
      have hz : (as.map Value.ref).toArray.size = ks.length := by simp [hk]
      rw [hz]
      exact zip_all (fun k l => sameT k l) [] [] ks ls (by omega)
    rw [e]
    exact ⟨_, H, I, (show RelV (.bl _) _ from rfl), q⟩
end
section
variable {X : Cx} {T id : String} {name : Str} {o e : Expr} {es : List Expr} {to : TE} {t : TA} {r : V → List V → Hp → VK → Prop} {apos cpos : Pos}
/-- o.m(e, ..) of a builtin's method, K told -/
theorem kBm (K : PySem.W.Frag) (pa : PlainAttrs T) (slot : Slot T name id) (hty : typeOf (.builtin id) = pure (.type "method_descriptor")) (hm : MtR X id r) (ho : PE X o to) (ha : PA X (e :: es) t) (eK : X.K = K := by rfl)
    (hbase : attributeBase o name X.env (eval o X.env) = eval o X.env := by rfl)
    (hfew : ((backTo cpos (starEach (e :: es) X.env)).all (fun x => !x.1) && (backToKw cpos (keywordEach [] X.env)).all (fun x => x.1.isSome) && decide ((e :: es).length + ([] : List Keyword).length + (if ([] : List Keyword).isEmpty then 0 else 1) < 30)) = true := by rfl)
    (hline : (apos.endLine == cpos.line) = true := by rfl) (hs : starEach (e :: es) X.env = (false, eval e X.env) :: starEach es X.env := by rfl) (hplain : (backTo cpos (starEach es X.env)).any (·.1) = false := by rfl) :
    PE X (.Call (.Attribute o name apos) (e :: es) [] cpos) (tBM K T r to t) := eK ▸ pe_bm pa slot hty hm ho ha hbase hfew hline hs hplain
end
end Bk

namespace Bk
open PySem PySem.Spec PyProof.Rows L2
/-- _law_mixed(stream, some): the same things in a drawn order -/
def spMixed (K : PySem.W.Frag) : Sp := fun vs H Q _ => ∃ (st c a : Addr) (n : Nat) (xs : List V), vs = [.ref st, .ref a] ∧ Strm H st c n ∧ n ≤ 900000 ∧ (SqL K H a xs ∨ SqT K H a xs) ∧ xs.length ≤ 1000 ∧
  ∀ D ys H', H D = none → ys.Perm xs → H' D = some (.lst ys) → Strm H' st c (n + xs.length) → Kept st c H H' → Q (.ref D) H'
theorem perm_erase {xs : List V} {i : Nat} {v : V} (h : xs[i]? = some v) : xs.Perm (v :: xs.eraseIdx i) := by
  induction xs generalizing i with
  | nil => simp at h
  | cons x r ih =>
    cases i with
    | zero =>
      cases h
      exact List.Perm.refl _
    | succ i =>
      have h : r[i]? = some v := by simpa using h
      exact ((ih h).cons x).trans (List.Perm.swap _ _ _)
theorem seqIndex_at {n j : Nat} (h : j < n) : seqIndex? (j : Int) n = some j := by
  unfold seqIndex?
  simp
  omega
section
variable {P : Program} {w : World} {K : PySem.W.Frag} {mg : Str → Option Value} {base : Heap}
theorem scMixed : FnScope ["_law_stream", "_law_some", "_law_left", "_law_k"] ["_law_stream", "_law_some"] (defScope (topS 84)) := ⟨rfl, rfl, rfl, by decide +kernel, rfl, by decide +kernel, by decide +kernel⟩
theorem ok_mixed (B : Bi mg) {f f1 : Addr} {fd fd1 : FuncData} (c__law_draw : Cal P w K mg base CX0 1 "_law_draw" f1 fd1 ["_law_stream", "_law_many"] spDraw)
    (F : Fun K "_law_mixed" "_law_mixed" (topS 84) f fd) : FnOk P w K mg base CX0 2 f fd ["_law_stream", "_law_some"] (spMixed K) := by
  refine F.ok scMixed (fun vs H Q E h => ?_) (fun cdv A outer s H vs Q E hr h => ?_)
  · obtain ⟨st, c, a, n, xs, rfl, _⟩ := h
    rfl
  · obtain ⟨st, c, a, n, xs, rfl, S, hn, hS, hl, q⟩ := h
    have nd := scMixed.nd
    have hu := hu_of hr
    have hr__law_draw := hr
    refine ⟨_, (pss_cons (ps_set (i := 2) nd rfl (Or.inr rfl) (pe_callTy (kList K) (by rfl) B.list (by decide +kernel) (pa_cons (pv 1) pa_nil)))
      (pss_one (ps_ret (pe_lc (own := [("_law_k", 3)]) rfl nd (pi_range1 (by rfl) B.range (pa_cons (pe_callB (kLen K) (by rfl) B.len PySem.boot_len (pa_cons (pv 2) pa_nil)) pa_nil)) (blkOk_by (N := ["_law_stream", "_law_some", "_law_left", "_law_k"]) (sc := defScope (topS 84)) (by decide +kernel)) (fun _ _ _ _ _ => (pg_name (i := 3) nd rfl (Or.inl rfl))) (fun _ _ _ _ _ => pts_nil) (fun _ _ _ _ _ => (kBm K PySem.F.plainAttrs_list PySem.F.slot_list_pop PySem.F.type_list_pop mt_popAt (pv 2) (pa_cons (pe_call c__law_draw.ok hr__law_draw (by rfl) c__law_draw.g c__law_draw.kp c__law_draw.b .nil pass0 (pa_cons (pv 0) (pa_cons (pe_callB (kLen K) (by rfl) B.len PySem.boot_len (pa_cons (pv 2) pa_nil)) pa_nil))) pa_nil))))))), ?_⟩
    refine ⟨_, rfl, a, xs, rfl, hS, fun l nl => ?_⟩
    obtain ⟨l1, l2⟩ := S.notfree nl
    have e1 := same_upd (o := HO.lst xs) nl
    have h1 : upd H l (.lst xs) l = some (.lst xs) := upd_same
    generalize upd H l (.lst xs) = H1 at e1 h1 ⊢
    have S1 := S.same e1
    refine ⟨_, rfl, _, _, rfl, .inl ⟨_, SqL.of h1, rfl⟩, (xs.length : Int), rfl, by omega, by omega, fun D nD => ?_⟩
    obtain ⟨D1, D2⟩ := S1.notfree nD
    have nlD : l ≠ D := ne_of_none h1 nD
    have nDH : H D = none := e1.free nD
    refine lc_it walk_range (fun i H' => ∃ ys zs : List V, (ys ++ zs).Perm xs ∧ ys.length = i ∧ H' D = some (.lst ys) ∧ H' l = some (.lst zs) ∧ Strm H' st c (n + i) ∧ ∀ b o, b ≠ st → b ≠ c → b ≠ l → H b = some o → H' b = some o) ?_ (fun _ _ _ _ => trivial) ?_ ?_
    · exact ⟨[], xs, List.Perm.refl _, rfl, upd_same, by rw [upd_ne nlD]; exact h1, S1.same (same_upd nD), fun b o _ _ _ h => same_upd nD _ _ (e1 _ _ h)⟩
    · rintro i y H2 H3 hi ⟨ys, zs, hp, hy, hD, hL, S2, k2⟩ ⟨rfl, rfl⟩
      have hi : i < xs.length := by omega
      have hlen := hp.length_eq
      rw [List.length_append] at hlen
      refine ⟨rfl, yes2 ?_⟩
      have hL' : l ≠ st ∧ l ≠ c := ⟨l1, l2⟩
      refine ⟨_, rfl, .inl ⟨rfl, _, SqL.of hL⟩, _, rfl, _, rfl, _, zs.length, rfl, .inl ⟨_, SqL.of hL, rfl⟩, st, c, n + i, (zs.length : Int), rfl, S2, by omega, by omega, by omega, fun d H4 d0 d1 S4 k4 => ?_⟩
      obtain ⟨j, rfl⟩ : ∃ j : Nat, d = (j : Int) := ⟨d.toNat, by omega⟩
      have hj : j < zs.length := by omega
      obtain ⟨v, hv⟩ : ∃ v, zs[j]? = some v := ⟨_, List.getElem?_eq_getElem hj⟩
      have hL4 := k4 _ _ l1 l2 hL
      refine ⟨l, zs, (j : Int), j, v, rfl, rfl, hL4, by omega, by omega, seqIndex_at hj, hv, ?_⟩
      refine ⟨ys, ?_, Evl.sz_lt (by omega), ys ++ [v], zs.eraseIdx j, ?_, by rw [List.length_append, hy]; rfl, upd_same, ?_, ?_, ?_⟩
      · rw [upd_ne nlD.symm]
        exact k4 _ _ D1 D2 hD
      · rw [List.append_assoc]
        exact ((List.Perm.refl ys).append (perm_erase hv).symm).trans hp
      · rw [upd_ne nlD, upd_same]
      · exact ((S4.upd l1 l2).upd D1 D2).more (by omega)
      · intro b o n1 n2 n3 h
        have nb : b ≠ D := ne_of_none h nDH
        rw [upd_ne nb, upd_ne n3]
        exact k4 _ _ n1 n2 (k2 b o n1 n2 n3 h)
    · rintro H2 ⟨ys, zs, hp, hy, hD, hL, S2, k2⟩
      have hlen := hp.length_eq
      rw [List.length_append] at hlen
      have hz : zs = [] := List.eq_nil_of_length_eq_zero (by omega)
      rw [hz, List.append_nil] at hp
      exact q D ys H2 nDH hp hD (S2.more (by omega)) fun b o n1 n2 h => k2 b o n1 n2 (ne_of_none h nl) h
end
end Bk

namespace Bk
open PySem PySem.Spec PyProof.Rows L2
/-- dict(zip(xs, ys)), xs tuples -/
def tDictZip (K : PySem.W.Frag) (ta : TA) : TE := fun σ H Q => ta σ H fun vs H1 => ∃ (a b : Addr) (ps : List Addr) (ys : List V) (ks : List (List Key)), vs = [.ref a, .ref b] ∧ SqL K H1 a (ps.map V.ref) ∧ SqL K H1 b ys ∧
  Paired (fun p k => H1 p = some (.tup (k.map kV))) ps ks ∧ ks.length = ys.length ∧ ∀ p, H1 p = none → Q (.ref p) (upd H1 p (.dT (mergeT [] (ks.zip ys))))
theorem zipT_of {H : Hp} : ∀ {ps : List Addr} {ks : List (List Key)} {ys : List V} {us : List Value}, Paired (fun p k => H p = some (.tup (k.map kV))) ps ks → Vals ys us → ks.length = ys.length →
    ∃ prs : List (List Key × Addr × Value), KT H (ks.zip ys) prs ∧ prs.length = ps.length ∧ ∀ (j : Nat) (q : List Key × Addr × Value), prs[j]? = some q → ps[j]? = some q.2.1 ∧ us[j]? = some q.2.2
  | _, _, _, _, .nil, .nil, _ => ⟨[], .nil, rfl, fun j q e => by simp at e⟩
  | _, _, _, _, .nil, .cons _ _, e => by simp at e
  | _, _, _, _, .cons _ _, .nil, e => by simp at e
  | _, _, _, _, .cons (a := p) (b := k) h t, .cons (a := y) (b := u) r rr, e => by
    obtain ⟨prs, kt, hl, hp⟩ := zipT_of t rr (by simpa using e)
    refine ⟨(k, p, u) :: prs, .cons ⟨rfl, h, r⟩ kt, by rw [List.length_cons, List.length_cons, hl], fun j q eq => ?_⟩
    cases j with
    | zero =>
      have e' : (k, p, u) = q := Option.some.inj eq
      subst e'
      exact ⟨rfl, rfl⟩
    | succ j =>
      obtain ⟨e1, e2⟩ := hp j q (by simpa using eq)
      exact ⟨by simpa using e1, by simpa using e2⟩
section
variable {X : Cx} {e1 e2 : Expr} {ta : TA} {p p2 pos pos2 : Pos} {K : PySem.W.Frag}
theorem pe_dictZip (hg : Gl X "dict") (hm : X.mg "dict" = none) (hgz : Gl X "zip") (hmz : X.mg "zip" = none) (ha : PA X [e1, e2] ta) (hc : X.calm = true) (hu : X.A.units + 64 < cLine) (eK : X.K = K := by rfl)
    (hs : starEach [e1, e2] X.env = (false, eval e1 X.env) :: starEach [e2] X.env := by rfl) (hpl : (backTo pos2 (starEach [e2] X.env)).any (·.1) = false := by rfl)
    (hs1 : starEach [.Call (.Name "zip" p2) [e1, e2] [] pos2] X.env = (false, eval (.Call (.Name "zip" p2) [e1, e2] [] pos2) X.env) :: starEach [] X.env := by rfl) :
    PE X (.Call (.Name "dict" p) [.Call (.Name "zip" p2) [e1, e2] [] pos2] [] pos) (tDictZip K ta) := by
  subst eK
  refine ⟨fun pins s σ H Q I h => ?_⟩
  refine Call_ (ld_blt I hg hm PyProof.Rows.boot_dict (PyProof.Rows.callWith_type1 ?_ hs1 rfl))
  rw [hs1]
  show wpAny _ _ (spliced ((false, eval (.Call (.Name "zip" p2) [e1, e2] [] pos2) X.env) :: backTo pos (starEach [] X.env))) _ _ s
  refine Calls.spliced_cons ?_
  refine Call_ (ld_blt I hgz hmz PyProof.Rows.boot_zip (PyProof.Rows.callWith_type1 (thn (ha.run pos2 pins s σ H _ I h) fun us s1 ⟨vs, H1, I1, r1, q1⟩ => ?_) hs hpl))
  obtain ⟨a, b, ps, ys, ks, ex, hqx, hqy, hpk, hlen, q⟩ := q1
  subst ex
  cases r1 with
  | cons r rr =>
    cases rr with
    | cons r' rr =>
      cases rr
      cases r
      cases r'
      obtain ⟨its, rv, p1, hz1⟩ := I1.list hqx
      obtain ⟨its2, rv2, p2', hz2⟩ := I1.list hqy
      have ei := refs_at rv
      subst ei
      rw [List.length_map] at hz1
      have la : a < s1.heap.objs.size := p1.lt
      have lb : b < s1.heap.objs.size := p2'.lt
      refine call_zip_2 p1.isList p2'.isList fun h' hz hTI hTO h1 h2 hsz hk => ?_
      have I2 : Inv X pins σ H1 { s1 with heap := h' } := I1.kept (t' := s1.toks) hk
      refine Calls.spliced_nil ?_
      obtain ⟨prs, kt, hl, hpr⟩ := zipT_of (H := H1) hpk rv2 hlen
      have hlk : (ks.zip ys).length = prs.length := Paired.length kt
      have hlp : ps.length = ks.length := Paired.length hpk
      have hl2 : its2.length = ys.length := rv2.length.symm
      have hmin : min (ps.map Value.ref).toArray.size its2.toArray.size = prs.length := by simp; omega
      have old : ∀ c : Addr, c < s1.heap.objs.size → c ∉ [s1.heap.objs.size + 4, s1.heap.objs.size + 3, s1.heap.objs.size, s1.heap.objs.size + 1] := fun c hc z => by
        simp only [List.mem_cons, List.not_mem_nil, or_false] at z
        rcases z with z | z | z | z
        · rw [z] at hc; exact Nat.not_lt.mpr (Nat.le_add_right _ _) hc
        · rw [z] at hc; exact Nat.not_lt.mpr (Nat.le_add_right _ _) hc
        · rw [z] at hc; exact Nat.lt_irrefl _ hc
        · rw [z] at hc; exact Nat.not_lt.mpr (Nat.le_add_right _ _) hc
      refine call_dict_pairsH (knd := tupleKind (mixKind X.prog X.w)) (ps := prs) (PairArg.zip (s1.heap.objs.size + 4) (s1.heap.objs.size + 2) (s1.heap.objs.size + 3) s1.heap.objs.size (s1.heap.objs.size + 1) a b (PySem.W.ktu_apart s1.heap.objs.size a b la lb) (ps.map Value.ref).toArray its2.toArray) (I2.ok.hd hc) ?_
        ⟨hz, hTI, ⟨_, _, hTO⟩, h1, h2, p1.isList.at fun o e => hk _ o e, p2'.isList.at fun o e => hk _ o e⟩ ⟨hmin.symm, fun i key v e => ?_⟩ ?_ (by rw [hmin, hl]; exact hz1) fun h'' tk hd' k => ?_
      · show X.A.in1.in1.units < cLine
        exact Nat.lt_of_le_of_lt (Nat.add_le_add_left (by decide : 2 ≤ 64) _) hu
      · obtain ⟨ea, eb⟩ := e
        have hi : i < prs.length := by
          have := (Array.getElem?_eq_some_iff.mp ea).1
          simp at this
          omega
        obtain ⟨x, hx⟩ : ∃ x, prs[i]? = some x := ⟨_, List.getElem?_eq_getElem hi⟩
        obtain ⟨g1, g2⟩ := hpr i x hx
        have ea : (ps.map Value.ref)[i]? = some key := by simpa using ea
        have eb : its2[i]? = some v := by simpa using eb
        rw [List.getElem?_map, g1] at ea
        rw [g2] at eb
        cases ea
        cases eb
        exact ⟨x.1, x.2.1, hx, rfl⟩
      · intro h2' hk2 x hx
        obtain ⟨o, arr, n, g1, g2, g3, g4⟩ := key_of (P := X.prog) (w := X.w) I1.hok (kt_keys kt x hx)
        have hlt := Heap.lt_size g1
        have hle : s1.heap.objs.size ≤ h'.objs.size := by rw [hsz]; exact Nat.le_add_right _ _
        refine ⟨o, arr, n, hk2 _ _ (Nat.ne_of_lt (Nat.lt_of_lt_of_le hlt hle)) (fun z => old _ hlt z) (hk _ _ g1), g2, g3, g4⟩
      · show EP X pins σ Q (.ref h'.objs.size) { s1 with heap := h'', toks := tk }
        exact dt_made (h' := h'') (tk := tk) I1 kt (by rw [hlk, hl]; exact hz1) (by rw [hsz]; exact Nat.le_add_right _ _) hd' (fun c o e => k c o (fun z => old _ (Heap.lt_size e) z) (hk _ _ e)) q
end
end Bk

namespace Bk
open PySem PySem.Spec PyProof.Rows L2
theorem str_map_inj : ∀ {a b : List Str}, a.map V.str = b.map V.str → a = b
  | [], [], _ => rfl
  | [], _ :: _, h => nomatch h
  | _ :: _, [], h => nomatch h
  | x :: r, y :: t, h => by
    injection h with h1 h2
    injection h1 with h1
    rw [h1, str_map_inj h2]
/-- one of two promises -/
theorem FnOk.or {P : Program} {w : World} {K : PySem.W.Frag} {mg : Str → Option Value} {base : Heap} {CX : CXT} {k : Nat} {f : Addr} {fd : FuncData} {ps : List Str} {s1 s2 : Sp} (h1 : FnOk P w K mg base CX k f fd ps s1) (h2 : FnOk P w K mg base CX k f fd ps s2) :
    FnOk P w K mg base CX k f fd ps (fun vs H Q E => s1 vs H Q E ∨ s2 vs H Q E) :=
  ⟨fun vs H Q E q => q.elim (h1.len vs H Q E) (h2.len vs H Q E), fun A outer s H args us vs Q E hr he hb hv hs => hs.elim (h1.run A outer s H args us vs Q E hr he hb hv) (h2.run A outer s H args us vs Q E hr he hb hv)⟩
/-- Folders(names, ..) of right names -/
theorem make_fold {K : PySem.W.Frag} {C CB : Addr} {H : Hp} {nm : V} {zs : List Str} {ch : Bool} {R : Addr → Hp → Prop} (Th : Thing K H nm (some (zs.map V.str))) (hw : wrongOf (some (zs.map V.str)) (mostFor ch) = none) (r : ∀ x H', H x = none → Same H H' → FoldersAt C H' x zs ch → R x H') :
    ∀ x dx, H x = none → H dx = none → dx ≠ x → spFolders K C CB [.ref x, nm, .bl ch] (upd (upd H dx (.own x)) x (.ins C dx [])) (fun v H' => v = .non ∧ R x H') E0 := by
  rintro x dx nx ndx hne
  have e1 := Same.grow (o := HO.ins C dx []) (Same.grow (o := HO.own x) (Same.refl H) ndx) nx
  refine ⟨x, dx, nm, _, ch, rfl, upd_same, Th.same e1, fun i d H' hi => ?_, fun zs' H' _ ez _ FA bt => ⟨rfl, r x H' nx (fun b u e => bt b u (ne_of_none e nx) (e1 _ _ e)) ?_⟩⟩
  · rw [hw] at hi
    cases hi
  · have : zs = zs' := str_map_inj (Option.some.inj ez)
    rw [this]
    exact FA
section
variable {st c : Addr} {n : Nat} {H H' : Hp}
theorem Strm.far {b : Addr} {o : HO} (S : Strm H st c n) (h : H b = some o) (ho : ∀ l, o ≠ .lst l) : b ≠ st ∧ b ≠ c := by
  obtain ⟨ne, cells, a, k, m, h1, h2, h3⟩ := S
  exact ⟨fun e => by subst e; rw [h] at h2; injection h2 with h2; exact ho _ h2, fun e => by subst e; rw [h] at h1; injection h1 with h1; exact ho _ h1⟩
theorem Strm.hold {b : Addr} {o : HO} (S : Strm H st c n) (k : Kept st c H H') (h : H b = some o) (ho : ∀ l, o ≠ .lst l) : H' b = some o :=
  let ⟨n1, n2⟩ := S.far h ho
  k b o n1 n2 h
theorem FoldersAt.kept {C x : Addr} {zs : List Str} {ch : Bool} (h : FoldersAt C H x zs ch) (S : Strm H st c n) (k : Kept st c H H') : FoldersAt C H' x zs ch := by
  obtain ⟨dx, t, pd, h1, h2, h3⟩ := h
  exact ⟨dx, t, pd, S.hold k h1 (fun _ z => nomatch z), S.hold k h2 (fun _ z => nomatch z), S.hold k h3 (fun _ z => nomatch z)⟩
theorem QuestAt.kept {CF CQ q x : Addr} {zs : List Str} {ch : Bool} {wt : List Str → Int} (h : QuestAt CF CQ H q x zs ch wt) (S : Strm H st c n) (k : Kept st c H H') : QuestAt CF CQ H' q x zs ch wt := by
  obtain ⟨dq, td, h1, h2, h3⟩ := h
  exact ⟨dq, td, S.hold k h1 (fun _ z => nomatch z), h2.kept S k, S.hold k h3 (fun _ z => nomatch z)⟩
theorem Ats.kept {α : Type} {g : α → List V} {ws : List V} {xs : List α} (a : Ats H g ws xs) (S : Strm H st c n) (k : Kept st c H H') : Ats H' g ws xs := ⟨a.1, fun i v x h1 h2 => by
  obtain ⟨b, e1, e2⟩ := a.2 i v x h1 h2
  exact ⟨b, e1, S.hold k e2 (fun _ z => nomatch z)⟩⟩
end
theorem far_names {K : PySem.W.Frag} {H : Hp} {st c : Addr} {zs : List Str} (hn : ∀ z ∈ zs, isNameS z = true) : ∀ y ∈ zs.map V.str, Far K H st c y := fun y m => by
  obtain ⟨z, mz, rfl⟩ := List.mem_map.mp m
  have hz := hn z mz
  unfold isNameS at hz
  simp only [Bool.and_eq_true, decide_eq_true_eq] at hz
  exact Far.str (by omega)
/-- a house as the laws draw it: names, whether a chain, the folders, the lots -/
structure HouseAt (C : Addr) (H : Hp) (st c nl x D : Addr) (zs : List Str) (ch : Bool) (ws : List V) : Prop where
  n1 : nl ≠ st
  n2 : nl ≠ c
  d1 : D ≠ st
  d2 : D ≠ c
  dn : D ≠ nl
  nm : H nl = some (.lst (zs.map V.str))
  fo : FoldersAt C H x zs ch
  ld : H D = some (.lst ws)
  at_ : Ats H (fun l : List Str => l.map V.str) ws (lotsFor ch zs)
  pos : 0 < zs.length
  le : zs.length ≤ mostFor ch
  nd : zs.Nodup
  ok : ∀ z ∈ zs, isNameS z = true
theorem HouseAt.same {C : Addr} {H H' : Hp} {st c nl x D : Addr} {zs : List Str} {ch : Bool} {ws : List V} (h : HouseAt C H st c nl x D zs ch ws) (e : Same H H') : HouseAt C H' st c nl x D zs ch ws :=
  ⟨h.n1, h.n2, h.d1, h.d2, h.dn, e _ _ h.nm, h.fo.same e, e _ _ h.ld, h.at_.same e, h.pos, h.le, h.nd, h.ok⟩
theorem HouseAt.kept {C : Addr} {H H' : Hp} {st c nl x D : Addr} {n : Nat} {zs : List Str} {ch : Bool} {ws : List V} (h : HouseAt C H st c nl x D zs ch ws) (S : Strm H st c n) (k : Kept st c H H') : HouseAt C H' st c nl x D zs ch ws :=
  ⟨h.n1, h.n2, h.d1, h.d2, h.dn, k _ _ h.n1 h.n2 h.nm, h.fo.kept S k, k _ _ h.d1 h.d2 h.ld, h.at_.kept S k, h.pos, h.le, h.nd, h.ok⟩
/-- _law_b_house(stream, most) -/
def spHouse (K : PySem.W.Frag) (C : Addr) : Sp := fun vs H Q _ => ∃ (st c : Addr) (n most : Nat), vs = [.ref st, .int (most : Int)] ∧ Strm H st c n ∧ n ≤ 700000 ∧ 1 ≤ most ∧ most ≤ 5 ∧
  ∀ (p nl x D : Addr) (zs : List Str) (ch : Bool) (ws : List V) (H' : Hp), H p = none → H nl = none → H x = none → H D = none → zs.length ≤ most → H' p = some (.tup [.ref nl, .bl ch, .ref x, .ref D]) → HouseAt C H' st c nl x D zs ch ws → Strm H' st c (n + 203) → Kept st c H H' → Q (.ref p) H'
theorem kDictPT {X : Cx} (K : PySem.W.Frag) (hc : X.calm = true) (hu : X.A.units + 64 < cLine) (e : X.K = K := by rfl) : CallR X (.type "dict") (rDictPT K) := e ▸ call_dictPT hc hu
/-- _law_frozen: texts, numbers and the like stay; a list or a tuple of texts becomes a tuple; an empty dict an empty one -/
def spFrz (K : PySem.W.Frag) : Nat → Sp
  | 0 => fun _ _ _ _ => False
  | n + 1 => fun vs H Q _ => ∃ y, vs = [y] ∧ ((∃ k, TyX K H y (.type k) ∧ kitB k "dict" = some false ∧ kitB k "list" = some false ∧ kitB k "tuple" = some false ∧ ∀ H', Same H H' → Q y H') ∨
      (∃ (a : Addr) (ks : List Str), y = .ref a ∧ 1 ≤ n ∧ (H a = some (.lst (ks.map V.str)) ∨ H a = some (.tup (ks.map V.str))) ∧ ks.length ≤ 1000 ∧ ∀ p H', H p = none → Same H H' → H' p = some (.tup (ks.map V.str)) → Q (.ref p) H') ∨
      (∃ a : Addr, y = .ref a ∧ H a = some (.dK []) ∧ ∀ p H', H p = none → Same H H' → H' p = some (.dT []) → Q (.ref p) H'))
/-- [G(lot) for lot in lots] -/
theorem map_ats {K : PySem.W.Frag} {i : Nat} {a : Addr} {ws : List V} {ls : List (List Str)} {g : TG} {te : TE} {vs : List Nat} {σ : L2.St} {H : Hp} {Q : VK} (G : List Str → V) (hv : σ[i]? = some (some (.ref a))) (hS : SqL K H a ws) (at0 : Ats H (fun l : List Str => l.map V.str) ws ls) (hl : ls.length ≤ 100000)
    (hs : ∀ l q H' (R : VK), l ∈ ls → Same H H' → H' q = some (.tup (l.map V.str)) → (∀ H2, Same H' H2 → R (G l) H2) → g (.ref q) (wipe σ vs) H' fun σ2 H2 => wipe σ2 vs = wipe σ vs ∧ te σ2 H2 R)
    (hd : ∀ D H', H D = none → Same H H' → H' D = some (.lst (ls.map G)) → Q (.ref D) H') : tLc (iList K (tVar i)) g tYes te vs σ H Q := by
  refine ⟨_, hv, a, rfl, ⟨ws, hS⟩, fun D nD => lc_it walk_list (Upto H D ls G) (.zero nD) (fun j H' _ u => u.sm.seq hS) ?_ ?_⟩
  · rintro j x H' H2 hj u ⟨rfl, hx⟩
    obtain ⟨l, hlj⟩ : ∃ l, ls[j]? = some l := ⟨_, List.getElem?_eq_getElem (by rw [← at0.1]; exact hj)⟩
    obtain ⟨q, rfl, hq⟩ := at0.2 j x l hx hlj
    exact hs l q H2 (fun y H4 => ∃ acc, H4 D = some (.lst acc) ∧ acc.length < sizeLine ∧ Upto H D ls G (j + 1) (upd H4 D (.lst (acc ++ [y])))) (List.mem_of_getElem? hlj) u.sm (u.sm _ _ hq) fun H3 e3 => u.next nD hlj e3 hl
  · intro H' u
    exact hd D H' nD u.sm (u.all at0.1)
theorem str_ne {a b : Str} (h : ¬ a = b) : decide (V.str a = V.str b) = false := decide_eq_false fun e => h (by injection e)
theorem str_eq (a : Str) : decide (V.str a = V.str a) = true := decide_eq_true rfl
theorem mem_map_any (ks l : List Str) : ((l.map V.str).map fun v => V.bl (inV v (ks.map V.str))) = (l.map fun k => decide (k ∈ ks)).map V.bl := by
  rw [List.map_map, List.map_map]
  refine List.map_congr_left fun k _ => ?_
  show V.bl (inV (.str k) (ks.map V.str)) = V.bl (decide (k ∈ ks))
  rw [inV_strs]
def W6 : Nat → Str
  | 0 => Str.ofString "refers"
  | 1 => Str.ofString "freed"
  | 2 => Str.ofString "shared"
  | 3 => Str.ofString "just"
  | 4 => Str.ofString "sent"
  | _ => Str.ofString "whole"
/-- the law's own words for the same -/
def lawCnt : Nat → List Str → List Str → Bool
  | 0 => fun ks l => l.any fun k => decide (k ∈ ks)
  | 1 => fun ks l => l.all fun k => decide (k ∈ ks)
  | 2 => fun ks l => ks.all fun k => decide (k ∈ l)
  | 3 => fun ks l => decide (l.length = ks.length) && ks.all fun k => decide (k ∈ l)
  | 4 => fun ks l => decide (ks.getD 1 Str.empty ∈ l) && !decide (ks.getD 0 Str.empty ∈ l)
  | _ => fun _ _ => true
def spCounted (K : PySem.W.Frag) : Sp := fun vs H Q _ => ∃ (j : Nat) (a D : Addr) (ks : List Str) (ws : List V) (ls : List (List Str)), vs = [.str (W6 j), .ref a, .ref D] ∧ j < 6 ∧ H a = some (.lst (ks.map V.str)) ∧ ks.length ≤ 1000 ∧ (j = 4 → ks.length = 2) ∧ H D = some (.lst ws) ∧ Ats H (fun l : List Str => l.map V.str) ws ls ∧ ls.length ≤ 2000 ∧ (∀ l ∈ ls, l.length ≤ 1000) ∧
  ∀ R H', H R = none → Same H H' → H' R = some (.lst (ls.map fun l => V.int (if lawCnt j ks l then 1 else 0))) → Q (.ref R) H'
end Bk

namespace Bk
open PySem PySem.Spec PyProof.Rows L2
/-! ### comprehensions over zip(x, y): each thing told by a relation -/
/-- us tell ls one by one -/
def Told {α : Type} (Rel : Hp → V → α → Prop) (H : Hp) (us : List V) (ls : List α) : Prop := us.length = ls.length ∧ ∀ (k : Nat) (u : V) (l : α), us[k]? = some u → ls[k]? = some l → Rel H u l
structure Stays {α : Type} (Rel : Hp → V → α → Prop) : Prop where
  sm : ∀ (H1 H2 : Hp) (u : V) (l : α), Same H1 H2 → Rel H1 u l → Rel H2 u l
  up : ∀ (H1 : Hp) (D : Addr) (as bs : List V) (u : V) (l : α), H1 D = some (.lst as) → Rel H1 u l → Rel (upd H1 D (.lst bs)) u l
theorem told_snoc {α : Type} {Rel : Hp → V → α → Prop} (st : Stays Rel) {H2 : Hp} {D : Addr} {us : List V} {ls : List α} {i : Nat} {l : α} {y : V} (hD : H2 D = some (.lst us)) (hu : us.length = i) (hl : ls[i]? = some l) (t : ∀ (k : Nat) (u : V) (m : α), us[k]? = some u → ls[k]? = some m → Rel H2 u m) (r : Rel H2 y l) :
    ∀ (k : Nat) (u : V) (m : α), (us ++ [y])[k]? = some u → ls[k]? = some m → Rel (upd H2 D (.lst (us ++ [y]))) u m := fun k u m h1 h2 => by
  refine st.up _ _ us _ _ _ hD ?_
  by_cases c : k < us.length
  · rw [List.getElem?_append_left c] at h1
    exact t k u m h1 h2
  · have hk := (List.getElem?_eq_some_iff.mp h1).1
    rw [List.length_append] at hk
    have hk : k < us.length + 1 := hk
    have e : k = us.length := by omega
    subst e
    rw [List.getElem?_append_right (Nat.le_refl _), Nat.sub_self] at h1
    cases h1
    rw [hu] at h2
    rw [hl] at h2
    cases h2
    exact r
theorem zip_rel {α : Type} {K : PySem.W.Frag} {i j : Nat} {a b : Addr} {xs ys : List V} {ls : List α} {g : TG} {te : TE} {vs : List Nat} {σ : L2.St} {H : Hp} {Q : VK} {Rel : Hp → V → α → Prop} (st : Stays Rel) (hv1 : σ[i]? = some (some (.ref a))) (hv2 : σ[j]? = some (some (.ref b)))
    (hS : (SqL K H a xs ∧ SqL K H b ys) ∨ (SqT K H a xs ∧ SqT K H b ys)) (lx : xs.length = ls.length) (ly : ys.length = ls.length) (hl : ls.length ≤ 100000)
    (hs : ∀ (k : Nat) (l : α) (x y : V) (T : Addr) (H2 : Hp) (R : VK), ls[k]? = some l → xs[k]? = some x → ys[k]? = some y → Same H H2 → H2 T = some (.tup [x, y]) → (∀ u H3, Same H2 H3 → Rel H3 u l → R u H3) → g (.ref T) (wipe σ vs) H2 fun σ2 H3 => wipe σ2 vs = wipe σ vs ∧ te σ2 H3 R)
    (hd : ∀ D us H', H D = none → Same H H' → H' D = some (.lst us) → Told Rel H' us ls → Q (.ref D) H') : tLc (RZ.iZipA K (tCons (tVar i) (tCons (tVar j) tNil))) g tYes te vs σ H Q := by
  refine lcZ hv1 hv2 hS (by omega) fun D nD => ⟨fun k H' => ∃ us : List V, us.length = k ∧ Same H H' ∧ H' D = some (.lst us) ∧ ∀ (i : Nat) (u : V) (m : α), us[i]? = some u → ls[i]? = some m → Rel H' u m, ?_, ?_, ?_, ?_⟩
  · exact ⟨[], rfl, same_upd nD, upd_same, fun i u m h => by simp at h⟩
  · rintro k H' ⟨us, _, e, _, _⟩
    exact e
  · rintro k v H' H2 hk ⟨us, hu, e, hD, t⟩ ⟨T, x, y, rfl, nT, rfl, hx, hy⟩
    have hkl : k < ls.length := by omega
    have e1 := same_upd (o := HO.tup [x, y]) nT
    refine hs k ls[k] x y T _ (fun y H5 => ∃ acc, H5 D = some (.lst acc) ∧ acc.length < sizeLine ∧ ∃ us : List V, us.length = k + 1 ∧ Same H (upd H5 D (.lst (acc ++ [y]))) ∧ upd H5 D (.lst (acc ++ [y])) D = some (.lst us) ∧ ∀ (i : Nat) (u : V) (m : α), us[i]? = some u → ls[i]? = some m → Rel (upd H5 D (.lst (acc ++ [y]))) u m) (List.getElem?_eq_getElem hkl) hx hy (Same.trans e e1) upd_same fun u H3 e3 r => ?_
    have e13 := Same.trans e1 e3
    exact ⟨us, e13 _ _ hD, Evl.sz_lt (by omega), us ++ [u], by rw [List.length_append, hu]; rfl, Same.grow (Same.trans e e13) nD, upd_same, told_snoc st (e13 _ _ hD) hu (List.getElem?_eq_getElem hkl) (fun k u m h1 h2 => st.sm _ _ _ _ e13 (t k u m h1 h2)) r⟩
  · rintro H' ⟨us, hu, e, hD, t⟩
    exact hd D us H' nD e hD ⟨by omega, t⟩
theorem stays_eq {α : Type} (G : α → V) : Stays fun (_ : Hp) (u : V) (l : α) => u = G l := ⟨fun _ _ _ _ _ h => h, fun _ _ _ _ _ _ _ h => h⟩
theorem told_eq {α : Type} {G : α → V} {H : Hp} {us : List V} {ls : List α} (t : Told (fun (_ : Hp) (u : V) (l : α) => u = G l) H us ls) : us = ls.map G := by
  refine List.ext_getElem? fun k => ?_
  rw [List.getElem?_map]
  cases h1 : us[k]? with
  | none =>
    have h2 : ls[k]? = none := by
      rw [List.getElem?_eq_none_iff] at h1 ⊢
      rw [← t.1]
      exact h1
    rw [h2]
    rfl
  | some u =>
    have hk := (List.getElem?_eq_some_iff.mp h1).1
    rw [t.1] at hk
    rw [List.getElem?_eq_getElem hk]
    rw [t.2 k u ls[k] h1 (List.getElem?_eq_getElem hk)]
    rfl
/-- [.. for x, y in zip(a, b)] where each is a number told by what stands there -/
theorem zip_map {α : Type} {K : PySem.W.Frag} {i j : Nat} {a b : Addr} {xs ys : List V} {ls : List α} {g : TG} {te : TE} {vs : List Nat} {σ : L2.St} {H : Hp} {Q : VK} (G : α → V) (hv1 : σ[i]? = some (some (.ref a))) (hv2 : σ[j]? = some (some (.ref b)))
    (hS : (SqL K H a xs ∧ SqL K H b ys) ∨ (SqT K H a xs ∧ SqT K H b ys)) (lx : xs.length = ls.length) (ly : ys.length = ls.length) (hl : ls.length ≤ 100000)
    (hs : ∀ (k : Nat) (l : α) (x y : V) (T : Addr) (H2 : Hp) (R : VK), ls[k]? = some l → xs[k]? = some x → ys[k]? = some y → Same H H2 → H2 T = some (.tup [x, y]) → (∀ H3, Same H2 H3 → R (G l) H3) → g (.ref T) (wipe σ vs) H2 fun σ2 H3 => wipe σ2 vs = wipe σ vs ∧ te σ2 H3 R)
    (hd : ∀ D H', H D = none → Same H H' → H' D = some (.lst (ls.map G)) → Q (.ref D) H') : tLc (RZ.iZipA K (tCons (tVar i) (tCons (tVar j) tNil))) g tYes te vs σ H Q :=
  zip_rel (stays_eq G) hv1 hv2 hS lx ly hl (fun k l x y T H2 R h1 h2 h3 e hT r => hs k l x y T H2 R h1 h2 h3 e hT fun H3 e3 => r _ H3 e3 rfl) fun D us H' nD e hD t => hd D H' nD e (by rw [hD, told_eq t])
/-- a pair of a lot's tuple and a number -/
def PairAt (H : Hp) (u : V) (e : List Str × Int) : Prop := ∃ p b : Addr, u = .ref p ∧ H p = some (.tup [.ref b, .int e.2]) ∧ H b = some (.tup (e.1.map V.str))
theorem stays_pair : Stays PairAt := ⟨fun H1 H2 u l e => by
  rintro ⟨p, b, rfl, h1, h2⟩
  exact ⟨p, b, rfl, e _ _ h1, e _ _ h2⟩, fun H1 D as bs u l hD => by
  rintro ⟨p, b, rfl, h1, h2⟩
  exact ⟨p, b, rfl, by rw [upd_ne (ne_of h1 hD (fun z => nomatch z))]; exact h1, by rw [upd_ne (ne_of h2 hD (fun z => nomatch z))]; exact h2⟩⟩
/-- what dict(list of such pairs) asks for -/
theorem told_pairs {H : Hp} : ∀ {es : List (List Str × Int)} {us : List V}, Told PairAt H us es → ∃ ps : List Addr, us = ps.map V.ref ∧ Paired (fun p kv => ∃ b, H p = some (.tup [.ref b, kv.2]) ∧ H b = some (.tup (kv.1.map kV))) ps (es.map fun e => ((e.1.map Sum.inr : List Key), V.int e.2))
  | [], [], _ => ⟨[], rfl, .nil⟩
  | [], _ :: _, t => by cases t.1
  | _ :: _, [], t => by cases t.1
  | e :: r, u :: us, t => by
    obtain ⟨p, b, rfl, h1, h2⟩ := t.2 0 u e rfl rfl
    obtain ⟨ps, rfl, hp⟩ := told_pairs (es := r) (us := us) ⟨Nat.succ.inj t.1, fun k u l a b => t.2 (k + 1) u l a b⟩
    exact ⟨p :: ps, rfl, .cons ⟨b, h1, by rw [str_key]; exact h2⟩ hp⟩
end Bk

namespace Bk
open PySem PySem.Spec PyProof.Rows L2
/-! ### comprehensions over a list, a test, each thing told by a relation -/
theorem Told.nil {α : Type} {Rel : Hp → V → α → Prop} {H : Hp} : Told Rel H [] [] := ⟨rfl, fun k u l h => by simp at h⟩
theorem Told.same {α : Type} {Rel : Hp → V → α → Prop} (st : Stays Rel) {H H' : Hp} {us : List V} {ls : List α} (t : Told Rel H us ls) (e : Same H H') : Told Rel H' us ls := ⟨t.1, fun k u l h1 h2 => st.sm _ _ _ _ e (t.2 k u l h1 h2)⟩
theorem Told.up {α : Type} {Rel : Hp → V → α → Prop} (st : Stays Rel) {H : Hp} {D : Addr} {as bs : List V} {us : List V} {ls : List α} (t : Told Rel H us ls) (h : H D = some (.lst as)) : Told Rel (upd H D (.lst bs)) us ls := ⟨t.1, fun k u l h1 h2 => st.up _ _ _ _ _ _ h (t.2 k u l h1 h2)⟩
theorem Told.snoc {α : Type} {Rel : Hp → V → α → Prop} {H : Hp} {us : List V} {ls : List α} {u : V} {l : α} (t : Told Rel H us ls) (r : Rel H u l) : Told Rel H (us ++ [u]) (ls ++ [l]) := by
  refine ⟨by rw [List.length_append, List.length_append, t.1]; rfl, fun k v m h1 h2 => ?_⟩
  by_cases c : k < us.length
  · rw [List.getElem?_append_left c] at h1
    rw [List.getElem?_append_left (by rw [← t.1]; exact c)] at h2
    exact t.2 k v m h1 h2
  · have hk := (List.getElem?_eq_some_iff.mp h1).1
    rw [List.length_append] at hk
    have hk : k < us.length + 1 := hk
    have e : k = us.length := by omega
    subst e
    rw [List.getElem?_append_right (Nat.le_refl _), Nat.sub_self] at h1
    rw [t.1, List.getElem?_append_right (Nat.le_refl _), Nat.sub_self] at h2
    cases h1
    cases h2
    exact r
theorem list_rel {α : Type} {K : PySem.W.Frag} {i : Nat} {a : Addr} {xs : List V} {ls : List α} {g : TG} {tt : TT} {te : TE} {vs : List Nat} {σ : L2.St} {H : Hp} {Q : VK} {Rel : Hp → V → α → Prop} (p : α → Bool) (st : Stays Rel) (hv : σ[i]? = some (some (.ref a))) (hS : SqL K H a xs) (lx : xs.length = ls.length) (hl : ls.length ≤ 100000)
    (hs : ∀ (k : Nat) (l : α) (x : V) (H2 : Hp) (R : VK) (N : Hp → Prop), ls[k]? = some l → xs[k]? = some x → Same H H2 → (∀ u H3, p l = true → Same H2 H3 → Rel H3 u l → R u H3) → (∀ H3, p l = false → Same H2 H3 → N H3) → g x (wipe σ vs) H2 fun σ2 H3 => wipe σ2 vs = wipe σ vs ∧ tt σ2 H3 fun b H4 => if b = true then te σ2 H4 R else N H4)
    (hd : ∀ D us H', H D = none → Same H H' → H' D = some (.lst us) → Told Rel H' us (ls.filter p) → Q (.ref D) H') : tLc (iList K (tVar i)) g tt te vs σ H Q := by
  refine ⟨_, hv, a, rfl, ⟨xs, hS⟩, fun D nD => lc_it walk_list (fun k H' => ∃ us : List V, Same H H' ∧ H' D = some (.lst us) ∧ us.length ≤ k ∧ Told Rel H' us ((ls.take k).filter p)) ?_ (fun k H' _ ⟨_, e, _, _, _⟩ => e.seq hS) ?_ ?_⟩
  · exact ⟨[], same_upd nD, upd_same, Nat.le_refl _, .nil⟩
  · rintro k x H' H2 hk ⟨us, e, hD, hu, t⟩ ⟨rfl, hx⟩
    have hkl : k < ls.length := by omega
    have hlk : ls[k]? = some ls[k] := List.getElem?_eq_getElem hkl
    refine hs k ls[k] x H2 (fun y H5 => ∃ acc, H5 D = some (.lst acc) ∧ acc.length < sizeLine ∧ ∃ us : List V, Same H (upd H5 D (.lst (acc ++ [y]))) ∧ upd H5 D (.lst (acc ++ [y])) D = some (.lst us) ∧ us.length ≤ k + 1 ∧ Told Rel (upd H5 D (.lst (acc ++ [y]))) us ((ls.take (k + 1)).filter p)) (fun H5 => ∃ us : List V, Same H H5 ∧ H5 D = some (.lst us) ∧ us.length ≤ k + 1 ∧ Told Rel H5 us ((ls.take (k + 1)).filter p)) hlk hx e (fun u H3 c e3 r => ?_) fun H3 c e3 => ?_
    · refine ⟨us, e3 _ _ hD, Evl.sz_lt (by omega), us ++ [u], Same.grow (Same.trans e e3) nD, upd_same, by rw [List.length_append]; exact Nat.succ_le_succ hu, ?_⟩
      rw [take_succ hlk, List.filter_append, List.filter_cons_of_pos c, List.filter_nil]
      exact ((t.same st e3).snoc r).up st (e3 _ _ hD)
    · refine ⟨us, Same.trans e e3, e3 _ _ hD, by omega, ?_⟩
      rw [take_succ hlk, List.filter_append, List.filter_cons_of_neg (by rw [c]; exact Bool.false_ne_true), List.filter_nil, List.append_nil]
      exact t.same st e3
  · rintro H' ⟨us, e, hD, _, t⟩
    rw [lx, List.take_length] at t
    exact hd D us H' nD e hD t
theorem list_map {α : Type} {K : PySem.W.Frag} {i : Nat} {a : Addr} {xs : List V} {ls : List α} {g : TG} {te : TE} {vs : List Nat} {σ : L2.St} {H : Hp} {Q : VK} (G : α → V) (hv : σ[i]? = some (some (.ref a))) (hS : SqL K H a xs) (lx : xs.length = ls.length) (hl : ls.length ≤ 100000)
    (hs : ∀ (k : Nat) (l : α) (x : V) (H2 : Hp) (R : VK), ls[k]? = some l → xs[k]? = some x → Same H H2 → (∀ H3, Same H2 H3 → R (G l) H3) → g x (wipe σ vs) H2 fun σ2 H3 => wipe σ2 vs = wipe σ vs ∧ te σ2 H3 R)
    (hd : ∀ D H', H D = none → Same H H' → H' D = some (.lst (ls.map G)) → Q (.ref D) H') : tLc (iList K (tVar i)) g tYes te vs σ H Q := by
  refine list_rel (fun _ => true) (stays_eq G) hv hS lx hl (fun k l x H2 R N h1 h2 e hR _ => ?_) fun D us H' nD e hD t => ?_
  · exact hs k l x H2 R h1 h2 e fun H3 e3 => hR _ H3 rfl e3 rfl
  · rw [List.filter_eq_self.mpr fun _ _ => rfl] at t
    exact hd D H' nD e (by rw [hD, told_eq t])
/-- a tuple of the names of a lot -/
def LotAt (H : Hp) (u : V) (l : List Str) : Prop := ∃ b : Addr, u = .ref b ∧ H b = some (.tup (l.map V.str))
theorem stays_lot : Stays LotAt := ⟨fun H1 H2 u l e => by
  rintro ⟨b, rfl, h⟩
  exact ⟨b, rfl, e _ _ h⟩, fun H1 D as bs u l hD => by
  rintro ⟨b, rfl, h⟩
  exact ⟨b, rfl, by rw [upd_ne (ne_of h hD (fun z => nomatch z))]; exact h⟩⟩
theorem told_lots {H : Hp} {us : List V} {ls : List (List Str)} (t : Told LotAt H us ls) : Ats H (fun l : List Str => l.map V.str) us ls := t
theorem tab_get {H : Hp} {t q : Addr} {ms : List (List Str)} {n : List Str → Int} {l : List Str} (ht : H t = some (.dT (tabV (tabL ms n)))) (hq : H q = some (.tup (l.map V.str))) : DGet H t (.ref q) (if l ∈ ms then some (.int (n l)) else none) := by
  have g : valV (tabV (tabL ms n)) (l.map Sum.inr) = if l ∈ ms then some (.int (n l)) else none := by
    rw [valV_tab, getT_tab]
    by_cases c : l ∈ ms
    · rw [if_pos c, if_pos c]; rfl
    · rw [if_neg c, if_neg c]; rfl
  exact .inr ⟨_, l.map Sum.inr, q, .inl ht, rfl, by rw [str_key]; exact hq, g.symm⟩
theorem isD_tab {H : Hp} {t : Addr} {ks : List (List Key × V)} (h : H t = some (.dT ks)) : IsD H t := .inr ⟨_, .inl h⟩
end Bk

/-! e[i] = v where e is an instance whose class says __setitem__ -/
namespace Bk
open PySem PySem.Spec PyProof.Rows L2
section
variable {X : Cx} {CX : CXT} {n : Nat} {C f : Addr} {fd : FuncData} {ps : List Str} {sp : Sp} {E : XK}
def sOwn (C : Addr) (sp : Sp) (E : XK) : TSet := fun o i v H Q => ∃ (a dx : Addr) (fs : List (Str × V)), o = .ref a ∧ H a = some (.ins C dx fs) ∧ sp [.ref a, i, v] H (fun _ H' => Q H') E
theorem set_own (F : FnOk X.prog X.w X.K X.mg X.base CX n f fd ps sp) (hb : Binds X.K fd ps []) (hx : Passes CX X E) (hr : Room n X.A) (m : Own X.K C "__setitem__" f) (nq : PySem.W.noSeq X.K C = true) : PSet X (sOwn C sp E) := by
  intro pins s σ H o i v ov iv u Q I ro ri rv h
  obtain ⟨a, dx, fs, rfl, ha, hs⟩ := h
  cases ro
  obtain ⟨mA, J, _⟩ := ins_get I.hok ha
  obtain ⟨od, J, _⟩ := J.look
  obtain ⟨_, hF⟩ := I.fr
  refine PySem.W.ksp_setItem hF I.ok.mod.kin J nq m.at_ m.fn (wpAny_mono (own_run (vs := [.ref a, i, v]) F hb hx ⟨hr, rfl⟩ I (.cons rfl (.cons ri (.cons rv .nil))) hs) (fun w s' hv => ?_) fun _ _ z => z)
  obtain ⟨z, H', I', _, q⟩ := hv
  exact ⟨H', I', q⟩
end
end Bk

/-! walks over an instance whose class says __iter__ as a new iterator over a list -/
namespace Bk
open PySem PySem.Spec PyProof.Rows L2 ItX
/-- a def whose promise knows how many objects there are when it is called -/
structure FnS (P : Program) (w : World) (K : PySem.W.Frag) (mg : Str → Option Value) (base : Heap) (k : Nat) (f : Addr) (fd : FuncData) (ps : List Str) (sp : Nat → Sp) : Prop where
  len : ∀ n vs H Q E, sp n vs H Q E → vs.length = ps.length
  run : ∀ (A : Around) (outer : List Env) (s : Shared) (H : Hp) (args : Args) (us : List Value) (vs : List V) (Q : VK) (E : XK), Room k A → Env0 P w K mg base A outer s H → BindsTo s fd args (ps.zip us) → Vals vs us → sp s.heap.objs.size vs H Q E →
    codeAny (model P w) A (.call (.ref f) args) (CR CX0 outer P w H s Q E) s
section
variable {P : Program} {w : World} {K : PySem.W.Frag} {mg : Str → Option Value} {base : Heap}
theorem Fun.okS {x qual : Str} {st : Stmt} {f : Addr} {fd : FuncData} {N ps : List Str} {k : Nat} {sp : Nat → Sp} (F : Fun K x qual st f fd) (S : FnScope N ps (defScope st)) (len : ∀ n vs H Q E, sp n vs H Q E → vs.length = ps.length)
    (hbody : ∀ (cdv : Value) (A : Around) (outer : List Env) (s : Shared) (H : Hp) (vs : List V) (Q : VK) (E : XK), Room k (A.deeper (envOfC qual (defScope st) s.heap.objs.size f cdv)) → sp s.heap.objs.size vs H Q E →
      ∃ t, PSs (cxOf CX0 P w K mg base N qual (defScope st) f cdv A outer s H E).nox (defBody st) t ∧ t { nx := fun _ H' => Q .non H', rt := Q } (start N vs) H) : FnS P w K mg base (k + 1) f fd ps sp := by
  obtain ⟨oc, od, kV, doc, pm, an, cdv, ct, osl, rfl, lk, hcd⟩ := F.ex
  refine ⟨len, fun A outer s H args us vs Q E hr e0 hb r hsp => ?_⟩
  have hl := len _ _ _ _ _ hsp
  have up : ∀ b o, base.get? b = some o → s.heap.get? b = some o := fun b o e => (e0.bs b o e).1
  have hk : ∀ y ∈ ps.zip us, (defScope st).names.lookup y.1 = some .local ∨ ((defScope st).names.lookup y.1 = some .cell ∧ ((cellsFrom (s.heap.objs.size + 1) (defScope st).names []).lookup y.1).isSome = true) := by
    rintro ⟨n, v⟩ hy
    rcases S.par n (List.of_mem_zip hy).1 with q | q
    · exact .inl q
    · exact .inr ⟨q, PySem.W.cellsFrom_some _ _ _ (.inl q)⟩
  refine codeAny_call_function hr.depth ((e0.mod.kin.keeps up) _ _ lk) rfl S.co S.gen rfl (PySem.W.codeRec_of (e0.mod.kin.keeps up) hcd) (hb _ _ _ _ (wpAny_newFunctionEnv_cells S.kind hk fun env he s1 x => ?_))
  subst he
  refine ⟨(e0.mod.nolimit.keeps up).keeps x.toInCall.keep, codeAny_func ?_⟩
  obtain ⟨t, ht, hq⟩ := hbody cdv A outer s H vs Q E (hr.deeper _) hsp
  have I : Inv (cxOf CX0 P w K mg base N qual (defScope st) f cdv A outer s H E) [] (start N vs) H s1 := inv_start S hr.hd e0 hl r x
  refine wpAny_mono (ht.nox.run [] s1 (start N vs) H _ I hq) (fun fl s' hs => ?_) fun e s' hs => hs
  cases fl with
  | ret u =>
    obtain ⟨v, σ', H', J, rv, q⟩ := hs
    exact ⟨v, H', J.os, J.bare, J.base, J.hok, rv, q⟩
  | next =>
    obtain ⟨σ', H', J, q⟩ := hs
    exact ⟨V.non, H', J.os, J.bare, J.base, J.hok, rfl, q⟩
  | brk => exact (show False from hs.choose_spec.choose_spec.2).elim
  | cont => exact (show False from hs.choose_spec.choose_spec.2).elim
end
section
variable {X : Cx} {n : Nat} {C f : Addr} {fd : FuncData} {ps : List Str} {sp : Nat → Sp} {tg e : Expr} {te : TE}
/-- the instance's own __iter__ says an iterator over the list at l, which is then forgotten -/
def iOwn (K : PySem.W.Frag) (C : Addr) (sp : Nat → Sp) (te : TE) : TI := fun σ H R => te σ H fun x H1 => ∃ (a dx : Addr) (fs : List (Str × V)), x = .ref a ∧ H1 a = some (.ins C dx fs) ∧
  ∀ m, sp m [.ref a] H1 (fun v H2 => ∃ it l, v = .ref it ∧ H2 it = some (ItO l it 0) ∧ m ≤ it ∧ R (ItlF K l 0) (dropH H2 it)) E0
theorem pi_own (F : FnS X.prog X.w X.K X.mg X.base n f fd ps sp) (hb : Binds X.K fd ps []) (hr : Room n X.A) (m : Own X.K C "__iter__" f) (he : PE X e te) : PI X tg e (iOwn X.K C sp te) := by
  refine ⟨fun pins s σ H R I h => ?_⟩
  refine thn (he.run pins s σ H _ I h) fun u s1 ⟨x, H1, I1, r1, q1⟩ => ?_
  obtain ⟨a, dx, fs, rfl, ha, hs⟩ := q1
  cases r1
  obtain ⟨mA, J, _⟩ := ins_get I1.hok ha
  obtain ⟨od, J, _⟩ := J.look
  obtain ⟨_, hF⟩ := I1.fr
  refine PySem.W.owit_iter hF I1.ok.mod.kin J m.at_ m.fn ?_
  have e0 : Env0 X.prog X.w X.K X.mg X.base X.A X.stack s1 H1 := I1.env0
  have hsp := hs s1.heap.objs.size
  have hl := F.len _ _ _ _ _ hsp
  have r2 : Vals [V.ref a] [Value.ref a] := .cons rfl .nil
  refine wpAny_call (codeAny_mono (F.run X.A X.stack s1 H1 ⟨[.ref a], []⟩ [.ref a] [.ref a] _ E0 hr e0 (by
    have := hb s1 [.ref a] I1.kIn (by simpa using hl)
    simpa using this) r2 hsp) fun r s' hq => ?_)
  cases r with
  | error er => exact (show False from hq).elim
  | ok fl =>
    cases fl with
    | ret v =>
      obtain ⟨z, H2, I2, rv, it, l, rfl, hi, hm, q⟩ := I1.after hq
      cases rv
      have eo := itO_get I2 hi
      have st : s'.heap.IsListIter it l (0 + 0) := ⟨_, eo, rfl, rfl⟩
      have LT : PySem.W.Looks (model X.prog X.w) s'.heap (typeOf (.ref it)) (.type "list_iterator") := (PySem.W.Looks.ld (part := none) eo).andThen .now
      have Li : PySem.W.Looks (model X.prog X.w) s'.heap (specialOf (.ref it) (Str.ofString "__next__")) (some (.builtin "list_iterator.__next__")) := LT.andThen (PySem.W.Looks.of_pure PySem.slot_listiter_next.lookup)
      have hi' := hi
      unfold ItO at hi'
      refine Li.here ?_
      refine ⟨it, [it], _, _, dropH H2 it, rfl, inv_drop I2 hi', turn_listF l it 0, st, fun b hb => ?_, q⟩
      have e : b = it := by simpa using hb
      rw [e]
      exact inv_fp I2 hi (Nat.le_trans I1.sz hm)
    | next => exact False.elim hq
    | brk => exact False.elim hq
    | cont => exact False.elim hq
end
theorem walk_listF {K : PySem.W.Frag} {a : Addr} {xs : List V} : Walk (ItlF K a 0) xs.length (fun H => SqL K H a xs) (YAt xs) := by
  have e : ItlF K a 0 = Itl K a := by
    unfold ItlF
    simp only [Nat.zero_add]
  rw [e]
  exact walk_list
end Bk

/-! books: questions and their ends -/
namespace Bk
open PySem PySem.Spec PyProof.Rows L2
/-- questions about the same folders, in a list -/
def QtsAt (C CQ : Addr) (H : Hp) (zs : List Str) (ch : Bool) (us : List V) (wts : List (List Str → Int)) : Prop := us.length = wts.length ∧ ∀ (i : Nat) (u : V) (wt : List Str → Int), us[i]? = some u → wts[i]? = some wt → ∃ q x, u = .ref q ∧ QuestAt C CQ H q x zs ch wt
theorem QtsAt.same {C CQ : Addr} {H H' : Hp} {zs : List Str} {ch : Bool} {us : List V} {wts : List (List Str → Int)} (h : QtsAt C CQ H zs ch us wts) (e : Same H H') : QtsAt C CQ H' zs ch us wts := ⟨h.1, fun i u wt h1 h2 => let ⟨q, x, a, b⟩ := h.2 i u wt h1 h2; ⟨q, x, a, b.same e⟩⟩
/-- whether two questions are the same -/
def eqQ (zs : List Str) (ch : Bool) (wt : List Str → Int) (zs' : List Str) (ch' : Bool) (wt' : List Str → Int) : Bool := decide (zs = zs') && decide (ch = ch') && sameT (tableOf ch zs wt) (tableOf ch' zs' wt')
def atV : Option Nat → V
  | none => .non
  | some i => .int (i : Int)
/-- lo and hi are ends -/
def EndOk (lo hi : V) : Prop := (lo = .non ∧ ∃ j, hi = .int j) ∨ (hi = .non ∧ ∃ i, lo = .int i) ∨ ∃ i j, lo = .int i ∧ hi = .int j ∧ i ≤ j
/-- a pair of ends -/
def EndAt (H : Hp) (u : V) (p : V × V) : Prop := ∃ T, u = .ref T ∧ H T = some (.tup [p.1, p.2])
theorem stays_end : Stays EndAt := ⟨fun H1 H2 u l e ⟨T, h1, h2⟩ => ⟨T, h1, e _ _ h2⟩, fun H1 D as bs u l hD ⟨T, h1, h2⟩ => ⟨T, h1, by rw [upd_ne (ne_of h2 hD (fun z => nomatch z))]; exact h2⟩⟩
/-- what is told as ends: a whole number, or a pair in a list or a tuple -/
def EndsIn (K : PySem.W.Frag) (H : Hp) (v lo hi : V) : Prop := (∃ n, v = .int n ∧ lo = .int n ∧ hi = .int n) ∨ ∃ a, v = .ref a ∧ (SqL K H a [lo, hi] ∨ SqT K H a [lo, hi]) ∧ EndOk lo hi
def bookF (x lq le : Addr) : List (Str × V) := [("folders", .ref x), ("questions", .ref lq), ("ends", .ref le)]
theorem look_bf (x lq le : Addr) : (bookF x lq le).lookup ("folders" : Str) = some (.ref x) := by
  unfold bookF
  rw [List.lookup_cons, beq_self_eq_true]
theorem look_bq (x lq le : Addr) : (bookF x lq le).lookup ("questions" : Str) = some (.ref lq) := by
  unfold bookF
  have h1 : (("questions" : Str) == ("folders" : Str)) = false := by decide +kernel
  rw [List.lookup_cons, h1]
  show List.lookup ("questions" : Str) [(("questions" : Str), V.ref lq), ("ends", .ref le)] = _
  rw [List.lookup_cons, beq_self_eq_true]
theorem look_be (x lq le : Addr) : (bookF x lq le).lookup ("ends" : Str) = some (.ref le) := by
  unfold bookF
  have h1 : (("ends" : Str) == ("folders" : Str)) = false := by decide +kernel
  have h2 : (("ends" : Str) == ("questions" : Str)) = false := by decide +kernel
  rw [List.lookup_cons, h1]
  show List.lookup ("ends" : Str) [(("questions" : Str), V.ref lq), ("ends", .ref le)] = _
  rw [List.lookup_cons, h2]
  show List.lookup ("ends" : Str) [(("ends" : Str), V.ref le)] = _
  rw [List.lookup_cons, beq_self_eq_true]
/-- a book's lists -/
structure ListsAt (C CQ : Addr) (H : Hp) (lq le : Addr) (zs : List Str) (ch : Bool) (wts : List (List Str → Int)) (ps : List (V × V)) : Prop where
  ex : ∃ qs es, H lq = some (.lst qs) ∧ H le = some (.lst es) ∧ QtsAt C CQ H zs ch qs wts ∧ Told EndAt H es ps
  len : wts.length = ps.length
/-- a book -/
def BookAt (C CQ CB : Addr) (H : Hp) (b x : Addr) (zs : List Str) (ch : Bool) (wts : List (List Str → Int)) (ps : List (V × V)) : Prop := ∃ db lq le, H b = some (.ins CB db (bookF x lq le)) ∧ FoldersAt C H x zs ch ∧ ListsAt C CQ H lq le zs ch wts ps
theorem ListsAt.same {C CQ lq le : Addr} {H H' : Hp} {zs : List Str} {ch : Bool} {wts : List (List Str → Int)} {ps : List (V × V)} (h : ListsAt C CQ H lq le zs ch wts ps) (e : Same H H') : ListsAt C CQ H' lq le zs ch wts ps := by
  obtain ⟨⟨qs, es, a1, a2, a3, a4⟩, l⟩ := h
  exact ⟨⟨qs, es, e _ _ a1, e _ _ a2, a3.same e, a4.same stays_end e⟩, l⟩
theorem BookAt.same {C CQ CB b x : Addr} {H H' : Hp} {zs : List Str} {ch : Bool} {wts : List (List Str → Int)} {ps : List (V × V)} (h : BookAt C CQ CB H b x zs ch wts ps) (e : Same H H') : BookAt C CQ CB H' b x zs ch wts ps := by
  obtain ⟨db, lq, le, a1, a2, a3⟩ := h
  exact ⟨db, lq, le, e _ _ a1, a2.same e, a3.same e⟩
/-- what the top has written of Book -/
structure BooT (K : PySem.W.Frag) (mg : Str → Option Value) (C fI : Addr) : Prop where
  g : mg "Book" = some (.ref C)
  cl : Cls K C
  nF : NoAttr K C "folders"
  nQ : NoAttr K C "questions"
  nE : NoAttr K C "ends"
  make : Mk K C fI
/-- what place_in says: the first that is the same -/
def placeQ (zs : List Str) (ch : Bool) (wts : List (List Str → Int)) (zs' : List Str) (ch' : Bool) (wt' : List Str → Int) : Option Nat := wts.findIdx? fun w => eqQ zs ch w zs' ch' wt'
theorem place_none {zs zs' : List Str} {ch ch' : Bool} {wts : List (List Str → Int)} {wt' : List Str → Int} (h : ∀ w ∈ wts, eqQ zs ch w zs' ch' wt' = false) : placeQ zs ch wts zs' ch' wt' = none := by
  unfold placeQ
  rw [List.findIdx?_eq_none_iff]
  exact h
theorem place_some {zs zs' : List Str} {ch ch' : Bool} {wts : List (List Str → Int)} {w wt' : List Str → Int} {i : Nat} (hw : wts[i]? = some w) (h : eqQ zs ch w zs' ch' wt' = true) (n : ∀ j u, j < i → wts[j]? = some u → eqQ zs ch u zs' ch' wt' = false) : placeQ zs ch wts zs' ch' wt' = some i := by
  unfold placeQ
  rw [List.findIdx?_eq_some_iff_getElem]
  obtain ⟨hi, e⟩ := List.getElem?_eq_some_iff.mp hw
  refine ⟨hi, by rw [e]; exact h, fun j hj => ?_⟩
  rw [n j _ hj (List.getElem?_eq_getElem (by omega))]
  exact Bool.false_ne_true
end Bk

namespace Bk
open PySem PySem.Spec PyProof.Rows L2
/-- a comprehension over zip(x, y) with a test -/
theorem zip_filt {α : Type} {K : PySem.W.Frag} {i j : Nat} {a b : Addr} {xs ys : List V} {ls : List α} {g : TG} {tt : TT} {te : TE} {vs : List Nat} {σ : L2.St} {H : Hp} {Q : VK} {Rel : Hp → V → α → Prop} (p : α → Bool) (st : Stays Rel) (hv1 : σ[i]? = some (some (.ref a))) (hv2 : σ[j]? = some (some (.ref b)))
    (hS : (SqL K H a xs ∧ SqL K H b ys) ∨ (SqT K H a xs ∧ SqT K H b ys)) (lx : xs.length = ls.length) (ly : ys.length = ls.length) (hl : ls.length ≤ 100000)
    (hs : ∀ (k : Nat) (l : α) (x y : V) (T : Addr) (H2 : Hp) (R : VK) (N : Hp → Prop), ls[k]? = some l → xs[k]? = some x → ys[k]? = some y → Same H H2 → H2 T = some (.tup [x, y]) → (∀ u H3, p l = true → Same H2 H3 → Rel H3 u l → R u H3) → (∀ H3, p l = false → Same H2 H3 → N H3) → g (.ref T) (wipe σ vs) H2 fun σ2 H3 => wipe σ2 vs = wipe σ vs ∧ tt σ2 H3 fun b H4 => if b = true then te σ2 H4 R else N H4)
    (hd : ∀ D us H', H D = none → Same H H' → H' D = some (.lst us) → Told Rel H' us (ls.filter p) → Q (.ref D) H') : tLc (RZ.iZipA K (tCons (tVar i) (tCons (tVar j) tNil))) g tt te vs σ H Q := by
  refine lcZ hv1 hv2 hS (by omega) fun D nD => ⟨fun k H' => ∃ us : List V, Same H H' ∧ H' D = some (.lst us) ∧ us.length ≤ k ∧ Told Rel H' us ((ls.take k).filter p), ?_, ?_, ?_, ?_⟩
  · exact ⟨[], same_upd nD, upd_same, Nat.le_refl _, .nil⟩
  · rintro k H' ⟨us, e, _⟩
    exact e
  · rintro k v H' H2 hk ⟨us, e, hD, hu, t⟩ ⟨T, x, y, rfl, nT, rfl, hx, hy⟩
    have hkl : k < ls.length := by omega
    have hlk : ls[k]? = some ls[k] := List.getElem?_eq_getElem hkl
    have e1 := same_upd (o := HO.tup [x, y]) nT
    refine hs k ls[k] x y T _ (fun y H5 => ∃ acc, H5 D = some (.lst acc) ∧ acc.length < sizeLine ∧ ∃ us : List V, Same H (upd H5 D (.lst (acc ++ [y]))) ∧ upd H5 D (.lst (acc ++ [y])) D = some (.lst us) ∧ us.length ≤ k + 1 ∧ Told Rel (upd H5 D (.lst (acc ++ [y]))) us ((ls.take (k + 1)).filter p)) (fun H5 => ∃ us : List V, Same H H5 ∧ H5 D = some (.lst us) ∧ us.length ≤ k + 1 ∧ Told Rel H5 us ((ls.take (k + 1)).filter p)) hlk hx hy (Same.trans e e1) upd_same (fun u H3 c e3 r => ?_) fun H3 c e3 => ?_
    · have e13 := Same.trans e1 e3
      refine ⟨us, e13 _ _ hD, Evl.sz_lt (by omega), us ++ [u], Same.grow (Same.trans e e13) nD, upd_same, by rw [List.length_append]; exact Nat.succ_le_succ hu, ?_⟩
      rw [take_succ hlk, List.filter_append, List.filter_cons_of_pos c, List.filter_nil]
      exact ((t.same st e13).snoc r).up st (e13 _ _ hD)
    · have e13 := Same.trans e1 e3
      refine ⟨us, Same.trans e e13, e13 _ _ hD, by omega, ?_⟩
      rw [take_succ hlk, List.filter_append, List.filter_cons_of_neg (by rw [c]; exact Bool.false_ne_true), List.filter_nil, List.append_nil]
      exact t.same st e13
  · rintro H' ⟨us, e, hD, _, t⟩
    rw [lx, List.take_length] at t
    exact hd D us H' nD e hD t
/-! pairs of a lot and a number as data -/
def dPairs (es : List (List Str × Int)) : PyData := .list (es.map fun e => .tuple [.tuple (e.1.map PyData.str), .int e.2])
theorem dp_pairs {K : PySem.W.Frag} {H : Hp} : ∀ {es : List (List Str × Int)} {us : List V}, Told PairAt H us es → DpAll K H us (es.map fun e => .tuple [.tuple (e.1.map PyData.str), .int e.2])
  | [], [], _ => .nil
  | [], _ :: _, t => by cases t.1
  | _ :: _, [], t => by cases t.1
  | e :: r, u :: us, t => by
    obtain ⟨p, b, rfl, h1, h2⟩ := t.2 0 u e rfl rfl
    exact .cons (.tup (SqT.of h1) (.cons (.tup (SqT.of h2) (dp_strs e.1)) (.cons (.int _) .nil))) (dp_pairs ⟨Nat.succ.inj t.1, fun k u l a b => t.2 (k + 1) u l a b⟩)
theorem depth_pairsA : ∀ es : List (List Str × Int), PyData.depthAll (es.map fun e => PyData.tuple [.tuple (e.1.map PyData.str), .int e.2]) ≤ 2
  | [] => by simp [PyData.depthAll]
  | e :: r => by
    have := depth_pairsA r
    have h := depth_strs e.1
    simp [PyData.depthAll, PyData.depth, h]
    omega
theorem depth_pairs (es : List (List Str × Int)) : (dPairs es).depth ≤ 3 := by
  have := depth_pairsA es
  simp [dPairs, PyData.depth]
  omega
theorem wide_pairsA {m : Nat} : ∀ es : List (List Str × Int), (∀ e ∈ es, e.1.length ≤ m) → wideAll (es.map fun e => PyData.tuple [.tuple (e.1.map PyData.str), .int e.2]) ≤ m + 2
  | [], _ => by simp [wideAll]
  | e :: r, h => by
    have := wide_pairsA r fun x hx => h x (List.mem_cons_of_mem _ hx)
    have h1 := wide_strs e.1
    have h2 := h e List.mem_cons_self
    simp [wideAll, wide, h1]
    omega
theorem wide_pairs {es : List (List Str × Int)} (h1 : es.length ≤ 2000) (h2 : ∀ e ∈ es, e.1.length ≤ 100) : wide (dPairs es) ≤ 90000 := by
  have := wide_pairsA es h2
  simp [dPairs, wide]
  omega
end Bk

namespace Bk
open PySem PySem.Spec PyProof.Rows L2
/-! fractions in lowest terms: pairs of whole numbers -/
/-- both parts are below 2 ^ n -/
def FrB (n : Nat) (q : Rat) : Prop := q.num.natAbs < 2 ^ n ∧ q.den < 2 ^ n
def pairQ (q : Rat) : List V := [.int q.num, .int (q.den : Int)]
theorem mk_num {t : Int} {b : Nat} (hb : 0 < b) : (mkRat t b).num = t / ((Nat.gcd t.natAbs b : Nat) : Int) := by
  rw [Rat.num_mkRat, if_neg (by omega), Nat.gcd_comm]
theorem mk_den {t : Int} {b : Nat} (hb : 0 < b) : ((mkRat t b).den : Int) = (b : Int) / ((Nat.gcd t.natAbs b : Nat) : Int) := by
  rw [Rat.den_mkRat, if_neg (by omega), Nat.gcd_comm]
  exact Int.natCast_ediv _ _
theorem FrB.mk {n : Nat} {t : Int} {b : Nat} (ht : t.natAbs < 2 ^ n) (hb : 0 < b) (hb2 : b < 2 ^ n) : FrB n (mkRat t b) := by
  refine ⟨?_, ?_⟩
  · rw [mk_num hb]
    exact Nat.lt_of_le_of_lt (Int.natAbs_ediv_le_natAbs _ _) ht
  · rw [Rat.den_mkRat, if_neg (by omega)]
    exact Nat.lt_of_le_of_lt (Nat.div_le_self _ _) hb2
theorem FrB.more {n m : Nat} {q : Rat} (h : FrB n q) (hl : n ≤ m) : FrB m q := ⟨Nat.lt_of_lt_of_le h.1 (Nat.pow_le_pow_right (by decide) hl), Nat.lt_of_lt_of_le h.2 (Nat.pow_le_pow_right (by decide) hl)⟩
theorem mk_add (p q : Rat) : mkRat (p.num * (q.den : Int) + q.num * (p.den : Int)) (p.den * q.den) = p + q := by
  rw [Rat.add_def, Rat.normalize_eq_mkRat]
theorem mk_mul (p q : Rat) : mkRat (p.num * q.num) (p.den * q.den) = p * q := by
  rw [Rat.mul_def, Rat.normalize_eq_mkRat]
theorem num_int (k : Int) : ((k : Rat)).num = k := rfl
theorem den_int (k : Int) : ((k : Rat)).den = 1 := rfl
theorem mk_mulI (p : Rat) (k : Int) : mkRat (p.num * k) p.den = p * (k : Rat) := by
  have := mk_mul p (k : Rat)
  rw [num_int, den_int, Nat.mul_one] at this
  exact this
theorem FrB.add {m n : Nat} {p q : Rat} (hp : FrB m p) (hq : FrB n q) : FrB (m + n + 1) (p + q) := by
  rw [← mk_add]
  have h1 : (p.num * (q.den : Int)).natAbs < 2 ^ (m + n) := wide_lt hp.1 (by rw [Int.natAbs_natCast]; exact hq.2)
  have h2 : (q.num * (p.den : Int)).natAbs < 2 ^ (n + m) := wide_lt hq.1 (by rw [Int.natAbs_natCast]; exact hp.2)
  rw [Nat.add_comm n m] at h2
  have h3 : p.den * q.den < 2 ^ (m + n) := by
    rw [Nat.pow_add]
    exact Nat.mul_lt_mul'' hp.2 hq.2
  have h4 : 2 ^ (m + n + 1) = 2 ^ (m + n) * 2 := Nat.pow_succ ..
  have h5 := Int.natAbs_add_le (p.num * (q.den : Int)) (q.num * (p.den : Int))
  exact .mk (by omega) (Nat.mul_pos p.den_pos q.den_pos) (by omega)
theorem FrB.mulI {m j : Nat} {p : Rat} {k : Int} (hp : FrB m p) (hk : k.natAbs < 2 ^ j) : FrB (m + j) (p * (k : Rat)) := by
  rw [← mk_mulI]
  refine .mk (wide_lt hp.1 hk) p.den_pos (Nat.lt_of_lt_of_le hp.2 (Nat.pow_le_pow_right (by decide) (by omega)))
theorem FrB.mul {m n : Nat} {p q : Rat} (hp : FrB m p) (hq : FrB n q) : FrB (m + n) (p * q) := by
  rw [← mk_mul]
  refine .mk (wide_lt hp.1 hq.1) (Nat.mul_pos p.den_pos q.den_pos) ?_
  rw [Nat.pow_add]
  exact Nat.mul_lt_mul'' hp.2 hq.2
theorem FrB.pos {n : Nat} {q : Rat} (h : FrB n q) : 0 < n := by
  have := q.den_pos
  have h2 := h.2
  cases n with
  | zero => rw [Nat.pow_zero] at h2; omega
  | succ n => omega
/-- a value that tells a fraction -/
def FrV (K : PySem.W.Frag) (H : Hp) (v : V) (q : Rat) : Prop := ∃ a : Addr, v = .ref a ∧ SqT K H a (pairQ q)
theorem FrV.same {K : PySem.W.Frag} {H H' : Hp} {v : V} {q : Rat} (h : FrV K H v q) (e : Same H H') : FrV K H' v q := by
  obtain ⟨a, h1, h2⟩ := h
  exact ⟨a, h1, Same.sqt e h2⟩
theorem if_no {c : Bool} {a b : Prop} (h : c = false) (q : b) : if c = true then a else b := by
  subst h
  exact q
theorem if_so {c : Bool} {a b : Prop} (h : c = true) (q : a) : if c = true then a else b := by
  subst h
  exact q
/-- either of two readings of several targets -/
theorem pg_or {X : Cx} {tg : Expr} {g1 g2 : TG} (h1 : PG X tg g1) (h2 : PG X tg g2) : PG X tg (fun v σ H R => g1 v σ H R ∨ g2 v σ H R) := ⟨fun pins s σ H v u Q I r h => h.elim (h1.run pins s σ H v u Q I r) (h2.run pins s σ H v u Q I r)⟩
theorem kTgA {X : Cx} (K : PySem.W.Frag) (n : Nat) {es : List Expr} {k : Nat} {t : TGs} {pos : Pos} (hc : X.calm = true) (h : PGs X es t) (e : X.K = K := by rfl) (hn : (assignEach es X.env).length = n := by rfl) (hst : (assignEach es X.env).findIdx? (·.1) = none := by rfl) :
    PG X (.Tuple es k pos) (fun v σ H R => gTup K n t v σ H R ∨ gLst K n t v σ H R) := pg_or (kTg K n hc h e hn hst) (e ▸ pg_lst hc h hn hst)
/-- the sum of fractions, as it is reckoned -/
def sumQ : List Rat → Rat := fun qs => qs.foldl (fun a b => a + b) 0
end Bk

namespace Bk
open PySem PySem.Spec PyProof.Rows L2
end Bk

namespace Bk
open PySem PySem.Spec PyProof.Rows L2
theorem exAll_at {K : PySem.W.Frag} {cs : List Addr} (h : exAll K cs = true) (i j : Nat) (hj : j < cs.length) (hi : i < j) : PySem.W.exmOne K (.ref (cs.getD j 0)) (.ref (cs.getD i 0)) = some false := by
  unfold exAll at h
  have h1 := List.all_eq_true.mp h j (List.mem_range.mpr hj)
  exact of_decide_eq_true (List.all_eq_true.mp h1 i (List.mem_range.mpr hi))
end Bk

/-! the values of a dict whose keys are tuples, walked -/
namespace Bk
open PySem PySem.Spec PyProof.Rows L2
def Itvt (d : Addr) (o : Obj) (kvs : List (List Key × V)) : It :=
  ⟨fun i H => H d = some (.frz o (.dT kvs)) ∧ i < kvs.length, fun i H x H' => H' = H ∧ ∃ k, kvs[i]? = some (k, x), fun i H => H d = some (.frz o (.dT kvs)) ∧ kvs.length ≤ i⟩
section
variable {P : Program} {w : World} {K : PySem.W.Frag} {d : Addr} {o : Obj} {es : Array DictEntry} {ep : Nat}
theorem turn_valsT {tg : Expr} {kvs : List (List Key × V)} (it : Addr) (hod : o.data = .dict es ep) : Turn P w K tg (Itvt d o kvs) [it] it (fun i h => h.IsValIter it d i kvs.length ep) where
  mem := by simp
  obj := fun i h st b hb => by
    have e : b = it := by simpa using hb
    subst e
    obtain ⟨oi, e, c, dd⟩ := st
    exact ⟨oi, e, fun v z => by rw [dd] at z; cases z⟩
  keep := fun i h h' st k => st.at fun oi e => k it (by simp) oi e
  item := by
    intro X hP hw hK hc i pins s σ H E I hf st hg
    subst hP hw hK
    obtain ⟨hd, hi⟩ := hg
    obtain ⟨f0, f1, f2, f3, f4, f5⟩ := hf it (by simp)
    obtain ⟨hs, hgd, hx, es', ep', hdt, hsz, ent⟩ := frzTV I hd
    obtain ⟨rfl, rfl⟩ := dict_ep hod hdt
    obtain ⟨⟨k, v⟩, hkv⟩ : ∃ p, kvs[i]? = some p := ⟨kvs[i], List.getElem?_eq_getElem hi⟩
    obtain ⟨en, q, hen, hkey, hq, hval⟩ := ent i k v hkv
    have hi' : i < es'.size := by omega
    have hen' : es'[i] = en := by
      have e2 := Array.getElem?_eq_getElem hi'
      rw [hen] at e2
      exact (Option.some.inj e2).symm
    rw [← hsz] at st
    refine wpAny_pyNext_values_item_raw st ⟨o, hgd, hx, hdt⟩ hi' fun h' st' sb => ?_
    have I1 : Inv X pins σ H { s with heap := h' } := I.turned (t' := s.toks) (fun b ob hb e => (sb.2 b hb).trans e) f0 f1 f3 f4 f5
    obtain ⟨oi, e, c, dd⟩ := id st'
    rw [hen']
    refine ⟨_, rfl, go_of (s := { s with heap := h' }) e c dd (by decide) ⟨v, H, I1, hval, ⟨rfl, k, hkv⟩, ?_, fun b hb => (hf b hb).1⟩⟩
    show h'.IsValIter it d (i + 1) kvs.length _
    rw [← hsz]
    exact st'
  done := by
    intro X hP hw hK hc i pins s σ H E I hf st hg
    subst hP hw hK
    obtain ⟨hd, hi⟩ := hg
    obtain ⟨f0, f1, f2, f3, f4, f5⟩ := hf it (by simp)
    obtain ⟨hs, hgd, hx, es', ep', hdt, hsz, ent⟩ := frzTV I hd
    obtain ⟨rfl, rfl⟩ := dict_ep hod hdt
    rw [← hsz] at st
    exact wpAny_pyNext_values_end_raw (I.ok.hd hc) st ⟨o, hgd, hx, hdt⟩ (by omega) fun h' eb => ⟨rfl, I.turned (t' := s.toks) (fun b ob hb e => eb b ob hb e) f0 f1 f3 f4 f5⟩
  self := fun A i s Q E st h => wpAny_pyIter_valiter st h
end
/-- d.values(), d locked -/
def iValsT (td : TE) : TI := fun σ H R => td σ H fun x H1 => ∃ d o kvs, x = .ref d ∧ H1 d = some (.frz o (.dT kvs)) ∧ R (Itvt d o kvs) H1
section
variable {X : Cx} {tg e : Expr} {td : TE} {apos cpos : Pos}
theorem pi_valsT (he : PE X e td) (hbase : attributeBase e "values" X.env (eval e X.env) = eval e X.env := by rfl) (hline : (apos.endLine == cpos.line) = true := by rfl) :
    PI X tg (.Call (.Attribute e "values" apos) [] [] cpos) (iValsT td) := by
  refine ⟨fun pins s σ H R I h => ?_⟩
  refine wpAny_Call_method (T := "dict") (id := "dict.values") hbase rfl hline F.plainAttrs_dict F.slot_dict_values F.type_dict_values (thn (he.run pins s σ H _ I h) fun u s1 ⟨x, H1, I1, rx, d, o, kvs, ex, hd, q⟩ => ?_)
  subst ex
  obtain rfl : u = Value.ref d := rx
  obtain ⟨hs, hgd, hx, es, ep, hdt, hsz, ent⟩ := frzTV I1 hd
  have hm : s1.heap.DictRaw d es ep := ⟨o, hgd, hx, hdt⟩
  refine ⟨hm.typeIs, fun a e => by cases e; exact ⟨o, hgd, hx.2.1⟩, ?_⟩
  have I2 : Inv X pins σ H1 { s1 with heap := s1.heap.push { cls := .type "dict_values", data := .fields #[.ref d] } } := I1.kept (t' := s1.toks) fun b ob q => Heap.get?_push_of_some _ q
  have fin : wpAny (model X.prog X.w) X.A (pyIter (.ref s1.heap.objs.size)) (PIE X pins σ tg R) X.xe { s1 with heap := s1.heap.push { cls := .type "dict_values", data := .fields #[.ref d] } } := by
    refine wpAny_pyIter_values_raw (d := d) ⟨_, Heap.get?_push_size _ rfl, rfl, rfl⟩ (hm.at fun ob q => Heap.get?_push_of_some _ q) (pi_one (tk := s1.toks) I2 _ (turn_valsT _ hdt) ⟨_, Heap.get?_push_size _ rfl, rfl, ?_⟩ q)
    rw [← hsz] <;> rfl
  show wpAny _ _ (callWith cpos (.builtin "dict.values") [.ref d] [] []) _ X.xe s1
  exact method_meetsIn F.slot_dict_values F.entry_dict_values rfl (PySem.evalArgs_none ⟨rfl, hm.typeIs, F.args_dict_values_1 _, _, meets_dict_values_raw d hs, ⟨⟨es, ep, hm⟩, fin⟩⟩)
end
theorem walk_valsT {d : Addr} {o : Obj} {kvs : List (List Key × V)} : Walk (Itvt d o kvs) kvs.length (fun H => H d = some (.frz o (.dT kvs))) (fun i H x H' => H' = H ∧ ∃ k, kvs[i]? = some (k, x)) :=
  ⟨fun _ _ hi q => ⟨q, hi⟩, fun _ q => ⟨q, Nat.le_refl _⟩, fun _ _ _ _ _ _ y => y⟩
end Bk

namespace Bk
open PySem PySem.Spec PyProof.Rows L2
/-- what the top has written of Store -/
structure StoT (K : PySem.W.Frag) (mg : Str → Option Value) (C fI : Addr) : Prop where
  g : mg "Store" = some (.ref C)
  cl : Cls K C
  nF : NoAttr K C "folders"
  nT : NoAttr K C "table"
  make : Mk K C fI
/-! fractions as data -/
def dQ (q : Rat) : PyData := .tuple [.int q.num, .int (q.den : Int)]
theorem dp_q {K : PySem.W.Frag} {H : Hp} {v : V} {q : Rat} (h : FrV K H v q) : Dp K H v (dQ q) := by
  obtain ⟨a, rfl, h⟩ := h
  exact .tup h (.cons (.int _) (.cons (.int _) .nil))
theorem lay_q (q : Rat) : (dQ q).canLay0 = true := by simp [dQ, PyData.canLay0, PyData.canLayAll0]
theorem depth_q (q : Rat) : (dQ q).depth = 1 := by simp [dQ, PyData.depth, PyData.depthAll]
theorem shaped_q (q : Rat) : SeqAt.shaped (dQ q) = true := by
  unfold SeqAt.shaped
  rw [lay_q, depth_q]
  rfl
theorem rat_parts {p q : Rat} : p.num = q.num ∧ (p.den : Int) = (q.den : Int) ↔ p = q := by
  constructor
  · rintro ⟨h1, h2⟩
    exact Rat.ext h1 (by omega)
  · rintro rfl
    exact ⟨rfl, rfl⟩
theorem eqv_q (p q : Rat) : PyData.eqv (dQ p) (dQ q) = decide (p = q) := by
  have h := @rat_parts p q
  have e : PyData.eqv (dQ p) (dQ q) = (decide (p.num = q.num) && decide ((p.den : Int) = (q.den : Int))) := by
    unfold dQ
    simp only [PyData.eqv, PyData.eqvAll, Bool.and_true]
    congr 1 <;> first | rfl | exact (decide_eq_decide.mpr Iff.rfl)
  rw [e, ← Bool.decide_and]
  exact decide_eq_decide.mpr h
/-! tables of fractions -/
def FrTab (K : PySem.W.Frag) (H : Hp) (ks : List (List Key × V)) (qs : List (List Key × Rat)) : Prop := Paired (fun p q => p.1 = q.1 ∧ FrV K H p.2 q.2) ks qs
section
variable {K : PySem.W.Frag} {H H' : Hp} {ks : List (List Key × V)} {qs : List (List Key × Rat)}
theorem FrTab.same (h : FrTab K H ks qs) (e : Same H H') : FrTab K H' ks qs := Paired.mono (fun _ _ ⟨a, b⟩ => ⟨a, b.same e⟩) h
theorem FrTab.snoc {k : List Key} {v : V} {q : Rat} (h : FrTab K H ks qs) (r : FrV K H v q) : FrTab K H (ks ++ [(k, v)]) (qs ++ [(k, q)]) := Paired.snoc h ⟨rfl, r⟩
theorem FrTab.len (h : FrTab K H ks qs) : ks.length = qs.length := Paired.length h
theorem FrTab.keys (h : FrTab K H ks qs) : ks.map (·.1) = qs.map (·.1) := by
  unfold FrTab at h
  induction h with
  | nil => rfl
  | cons a t ih => rw [List.map_cons, List.map_cons, ih, a.1]
theorem FrTab.idx (h : FrTab K H ks qs) : ∀ {i : Nat} {k : List Key} {v : V}, ks[i]? = some (k, v) → ∃ q, qs[i]? = some (k, q) ∧ FrV K H v q := by
  unfold FrTab at h
  induction h with
  | nil => intro i k v e; simp at e
  | @cons a b l1 l2 hd t ih =>
    intro i k v e
    cases i with
    | zero =>
      rw [List.getElem?_cons_zero] at e ⊢
      cases e
      obtain ⟨b1, b2⟩ := b
      obtain ⟨h1, h2⟩ := hd
      have h1 : k = b1 := h1
      subst h1
      exact ⟨b2, rfl, h2⟩
    | succ i =>
      rw [List.getElem?_cons_succ] at e ⊢
      exact ih e
theorem FrV.chg {v : V} {q : Rat} {d : Addr} {w u : HO} (h : FrV K H v q) (hd : H d = some w) (n1 : ∀ xs, w ≠ .tup xs) (n2 : ∀ o xs, w ≠ .frz o (.tup xs)) : FrV K (upd H d u) v q := by
  obtain ⟨a, rfl, (h | ⟨o, h⟩) | h⟩ := h
  · exact ⟨a, rfl, .inl (.inl (by rw [upd_ne (ne_of h hd (fun z => n1 _ z.symm))]; exact h))⟩
  · exact ⟨a, rfl, .inl (.inr ⟨o, by rw [upd_ne (ne_of h hd (fun z => n2 _ _ z.symm))]; exact h⟩)⟩
  · exact ⟨a, rfl, .inr h⟩
theorem FrTab.chg {d : Addr} {w u : HO} (h : FrTab K H ks qs) (hd : H d = some w) (n1 : ∀ xs, w ≠ .tup xs) (n2 : ∀ o xs, w ≠ .frz o (.tup xs)) : FrTab K (upd H d u) ks qs := Paired.mono (fun _ _ ⟨a, b⟩ => ⟨a, b.chg hd n1 n2⟩) h
theorem FrTab.put {d : Addr} {tb : List (List Key × V)} {u : HO} (h : FrTab K H ks qs) (hd : H d = some (.dT tb)) : FrTab K (upd H d u) ks qs := h.chg hd (fun _ z => nomatch z) (fun _ _ z => nomatch z)
theorem FrTab.ins {d C e : Addr} {fs : List (Str × V)} {u : HO} (h : FrTab K H ks qs) (hd : H d = some (.ins C e fs)) : FrTab K (upd H d u) ks qs := h.chg hd (fun _ z => nomatch z) (fun _ _ z => nomatch z)
theorem FrTab.unl {d : Addr} {o : Obj} {tb : List (List Key × V)} {u : HO} (h : FrTab K H ks qs) (hd : H d = some (.frz o (.dT tb))) : FrTab K (upd H d u) ks qs := h.chg hd (fun _ z => nomatch z) (fun _ _ z => nomatch z)
def getQ (ks : List (List Key × Rat)) (k : List Key) : Option Rat := (ks.find? fun p => decide (p.1 = k)).map (·.2)
theorem getQ_pos {p : List Key × Rat} {r : List (List Key × Rat)} {k : List Key} (e : p.1 = k) : getQ (p :: r) k = some p.2 := by simp [getQ, List.find?_cons, e]
theorem getQ_neg {p : List Key × Rat} {r : List (List Key × Rat)} {k : List Key} (e : ¬ p.1 = k) : getQ (p :: r) k = getQ r k := by simp [getQ, List.find?_cons, e]
/-- the value at a key, or none on both sides -/
theorem FrTab.at (h : FrTab K H ks qs) (k : List Key) : (valV ks k = none ∧ getQ qs k = none) ∨ ∃ v q, valV ks k = some v ∧ getQ qs k = some q ∧ FrV K H v q := by
  unfold FrTab at h
  induction h with
  | nil => exact .inl ⟨rfl, rfl⟩
  | @cons a b l1 l2 hd t ih =>
    obtain ⟨h1, h2⟩ := hd
    by_cases z : a.1 = k
    · exact .inr ⟨a.2, b.2, valV_pos z, getQ_pos (h1 ▸ z), h2⟩
    · rw [valV_neg z, getQ_neg (fun y => z (h1.trans y))]
      exact ih
/-- whether two tables of fractions are equal -/
def sameQ (ks ls : List (List Key × Rat)) : Bool := ks.length == ls.length && ks.all fun p => decide (getQ ls p.1 = some p.2)
end
section
variable {X : Cx} {pins : List (Addr × Obj)} {σ : L2.St} {H : Hp} {s : Shared}
theorem fr_eq {A : Around} (hu : A.units + 1 < cLine) (I : Inv X pins σ H s) {v w : V} {p q : Rat} (hv : FrV X.K H v p) (hw : FrV X.K H w q) {x y : Value} (rx : RelV v x) (ry : RelV w y) : SeqAt.EqAt A s x y (decide (p = q)) := by
  obtain ⟨as, r1⟩ := Dp.reads I _ _ _ (dp_q hv) rx
  obtain ⟨bs, r2⟩ := Dp.reads I _ _ _ (dp_q hw) ry
  rw [← eqv_q]
  refine SeqAt.eqAt_reads _ _ A s x y as bs r1 r2 (lay_q p) (lay_q q) ?_
  rw [depth_q, depth_q]
  exact hu
theorem hitsQ {A : Around} (hu : A.units + 1 < cLine) (I : Inv X pins σ H s) {kb : List (List Key × V)} {ls : List (List Key × Rat)} {vb : List (List Key × Addr × Value)} (rb : KT H kb vb) (fb : FrTab X.K H kb ls) {ka : List (List Key × V)} : ∀ {qs : List (List Key × Rat)} {va : List (List Key × Addr × Value)}, KT H ka va → FrTab X.K H ka qs →
    PySem.W.BkHits A s vb va (qs.all fun p => decide (getQ ls p.1 = some p.2)) := by
  induction ka with
  | nil =>
    intro qs va ra fa
    cases ra
    cases fa
    exact .nil
  | cons p r ih =>
    intro qs va ra fa
    cases ra with
    | @cons _ q _ vs h t =>
      cases fa with
      | @cons _ f _ fs g u =>
        obtain ⟨h1, _, h3⟩ := h
        obtain ⟨g1, g2⟩ := g
        obtain ⟨k, c, v⟩ := q
        have h1 : p.1 = k := h1
        subst h1
        have rr := rb.val p.1
        rw [List.all_cons, ← g1]
        rcases fb.at p.1 with ⟨n1, n2⟩ | ⟨w, j, n1, n2, n3⟩
        · rw [n1] at rr
          rw [n2, show decide ((none : Option Rat) = some f.2) = false from decide_eq_false (fun z => nomatch z), Bool.false_and]
          refine .miss fun z hz => ?_
          cases e2 : atKey vb p.1 with
          | none => exact atKey_none e2 z hz
          | some w => rw [e2] at rr; exact rr
        · rw [n1] at rr
          cases e2 : atKey vb p.1 with
          | none => rw [e2] at rr; exact absurd rr (fun z => z)
          | some y =>
            rw [e2] at rr
            have hm := atKey_mem e2
            have ee := fr_eq hu I g2 n3 h3 (show RelV w y.2 from rr)
            have ed : decide (getQ ls p.1 = some f.2) = decide (f.2 = j) := by
              rw [n2]
              exact decide_eq_decide.mpr ⟨fun z => (Option.some.inj z).symm, fun z => by rw [z]⟩
            rw [ed]
            exact .hit hm ee (ih t u)
/-- table == table, the values fractions -/
def rEqQ (K : PySem.W.Frag) (neg : Bool) : R2 := fun x y H Q => ∃ a b ka kb ks ls, x = .ref a ∧ y = .ref b ∧ H a = some (.dT ka) ∧ H b = some (.dT kb) ∧ FrTab K H ka ks ∧ FrTab K H kb ls ∧ Q (.bl (if neg then !sameQ ks ls else sameQ ks ls)) H
theorem op_eqQ (K : PySem.W.Frag) (hu : X.A.units + 64 < cLine) (e : X.K = K := by rfl) : OpR X (compareOp .Eq) (rEqQ K false) := by
  subst e
  intro pins s σ H x y v u Q I rx ry h
  obtain ⟨a, b, ka, kb, ks, ls, rfl, rfl, ea, eb, fa, fb, q⟩ := h
  obtain rfl : v = Value.ref a := rx
  obtain rfl : u = Value.ref b := ry
  obtain ⟨_, ya, va, ra, da⟩ := dt_of I.hok ea
  obtain ⟨_, yb, vb, rb, db⟩ := dt_of I.hok eb
  have hu1 : X.A.units + 1 < cLine := by omega
  have hl1 : va.length = ks.length := by rw [← Paired.length ra]; exact fa.len
  have hl2 : vb.length = ls.length := by rw [← Paired.length rb]; exact fb.len
  refine PySem.W.bk_eq (knd := tupleKind (mixKind X.prog X.w)) (tupleKind_room_in1 hu1) ya yb da db (Nat.lt_of_succ_lt hu1) (fun _ => hitsQ (A := X.A.in1) (by show X.A.units + 1 + 1 < cLine; omega) I rb fb ra fa) ?_
  rw [hl1, hl2]
  exact ⟨_, H, I, (show RelV (.bl _) _ from rfl), q⟩
end
/-! ### stores as objects -/
def tabQ (ls : List (List Str)) (sz : List Str → Rat) : List (List Key × Rat) := (ls.filter fun l => decide (sz l ≠ 0)).map fun l => (l.map Sum.inr, sz l)
def StoreAt (K : PySem.W.Frag) (CF CS : Addr) (H : Hp) (s x : Addr) (zs : List Str) (ch : Bool) (sz : List Str → Rat) : Prop := ∃ ds td tb, H s = some (.ins CS ds (questF x td)) ∧ FoldersAt CF H x zs ch ∧ H td = some (.dT tb) ∧ FrTab K H tb (tabQ (lotsFor ch zs) sz)
theorem StoreAt.same {K : PySem.W.Frag} {CF CS s x : Addr} {H H' : Hp} {zs : List Str} {ch : Bool} {sz : List Str → Rat} (h : StoreAt K CF CS H s x zs ch sz) (e : Same H H') : StoreAt K CF CS H' s x zs ch sz := by
  obtain ⟨ds, td, tb, h1, h2, h3, h4⟩ := h
  exact ⟨ds, td, tb, e _ _ h1, h2.same e, e _ _ h3, h4.same e⟩
theorem stays_fr {K : PySem.W.Frag} : Stays (FrV K) := ⟨fun H1 H2 u l e h => h.same e, fun H1 D as bs u l hD => by
  rintro ⟨a, rfl, (h | ⟨o, h⟩) | h⟩
  · exact ⟨a, rfl, .inl (.inl (by rw [upd_ne (ne_of h hD (fun z => nomatch z))]; exact h))⟩
  · exact ⟨a, rfl, .inl (.inr ⟨o, by rw [upd_ne (ne_of h hD (fun z => nomatch z))]; exact h⟩)⟩
  · exact ⟨a, rfl, .inr h⟩⟩
theorem tabQ_idx {ls : List (List Str)} {sz : List Str → Rat} {i : Nat} {k : List Key} {q : Rat} (h : (tabQ ls sz)[i]? = some (k, q)) : ∃ l, (ls.filter fun l => decide (sz l ≠ 0))[i]? = some l ∧ k = l.map Sum.inr ∧ q = sz l := by
  unfold tabQ at h
  rw [List.getElem?_map] at h
  obtain ⟨l, h1, h2⟩ := Option.map_eq_some_iff.mp h
  cases h2
  exact ⟨l, h1, rfl, rfl⟩
theorem tabQ_len (ls : List (List Str)) (sz : List Str → Rat) : (tabQ ls sz).length = (ls.filter fun l => decide (sz l ≠ 0)).length := List.length_map ..
theorem tabQ_keys (ls : List (List Str)) (sz : List Str → Rat) : (tabQ ls sz).map (·.1) = (ls.filter fun l => decide (sz l ≠ 0)).map fun l => (l.map Sum.inr : List Key) := by
  unfold tabQ
  rw [List.map_map]
  rfl
theorem keys_nodup {ls : List (List Str)} (nd : ls.Nodup) : (ls.map fun l => (l.map Sum.inr : List Key)).Nodup := by
  rw [List.nodup_iff_pairwise_ne, List.pairwise_map]
  exact (List.nodup_iff_pairwise_ne.mp nd).imp fun h z => h (inr_inj z)
theorem getQ_tab (sz : List Str → Rat) (l : List Str) : ∀ ls : List (List Str), getQ (tabQ ls sz) (l.map Sum.inr) = if l ∈ ls ∧ sz l ≠ 0 then some (sz l) else none
  | [] => by simp [tabQ, getQ]
  | x :: r => by
    have ih := getQ_tab sz l r
    unfold tabQ at ih ⊢
    by_cases h : sz x = 0
    · rw [List.filter_cons_of_neg (by simp [h]), ih]
      by_cases e : l = x
      · subst e
        rw [if_neg (fun z => z.2 h), if_neg (fun z => z.2 h)]
      · by_cases m : l ∈ r ∧ sz l ≠ 0
        · rw [if_pos m, if_pos ⟨List.mem_cons_of_mem _ m.1, m.2⟩]
        · rw [if_neg m, if_neg (fun z => (List.mem_cons.mp z.1).elim e fun y => m ⟨y, z.2⟩)]
    · rw [List.filter_cons_of_pos (p := fun l => decide (sz l ≠ 0)) (decide_eq_true h), List.map_cons]
      by_cases e : x = l
      · subst e
        rw [getQ_pos rfl, if_pos ⟨List.mem_cons_self, h⟩]
      · rw [getQ_neg (fun z => e (inr_inj z)), ih]
        by_cases m : l ∈ r ∧ sz l ≠ 0
        · rw [if_pos m, if_pos ⟨List.mem_cons_of_mem _ m.1, m.2⟩]
        · rw [if_neg m, if_neg (fun z => (List.mem_cons.mp z.1).elim (fun y => e y.symm) fun y => m ⟨y, z.2⟩)]
/-- the value that stands at the i-th key is what the dict holds there -/
theorem valV_once {kvs : List (List Key × V)} (nd : (kvs.map (·.1)).Nodup) {i : Nat} {k : List Key} {v : V} (h : kvs[i]? = some (k, v)) : valV kvs k = some v := by
  induction kvs generalizing i with
  | nil => simp at h
  | cons p r ih =>
    rw [List.map_cons, List.nodup_cons] at nd
    cases i with
    | zero =>
      rw [List.getElem?_cons_zero] at h
      cases h
      exact valV_pos rfl
    | succ i =>
      rw [List.getElem?_cons_succ] at h
      have m : k ∈ r.map (·.1) := List.mem_map.mpr ⟨(k, v), List.mem_of_getElem? h, rfl⟩
      rw [valV_neg (fun z => nd.1 (z ▸ m))]
      exact ih nd.2 h
theorem putK_mem {kvs : List (List Key × V)} {k : List Key} {v : V} {p : List Key × V} (h : p ∈ putK kvs k v) : p ∈ kvs ∨ p.2 = v := by
  unfold putK at h
  by_cases c : (kvs.any fun kv => decide (kv.1 = k)) = true
  · rw [if_pos c] at h
    obtain ⟨e, he, rfl⟩ := List.mem_map.mp h
    by_cases z : e.1 = k
    · rw [if_pos z]; exact .inr rfl
    · rw [if_neg z]; exact .inl he
  · rw [if_neg c] at h
    exact (List.mem_append.mp h).imp id fun z => by rw [List.mem_singleton.mp z]
theorem places_int {ls : List (List Str)} {p : List Key × V} (h : p ∈ placesOf ls) : ∃ i, p.2 = V.int i := by
  unfold placesOf at h
  have all : ∀ (xs : List (List Str × Nat)) (acc : List (List Key × V)), (∀ p ∈ acc, ∃ i, p.2 = V.int i) → ∀ p ∈ xs.foldl (fun acc (p : List Str × Nat) => putK acc (p.1.map Sum.inr) (V.int (p.2 : Int))) acc, ∃ i, p.2 = V.int i := by
    intro xs
    induction xs with
    | nil => intro acc ha p hp; exact ha p hp
    | cons x r ih =>
      intro acc ha p hp
      exact ih _ (fun p hp => (putK_mem hp).elim (ha p) fun e => ⟨_, e⟩) p hp
  exact all _ [] (fun p m => nomatch m) p h
/-- a question stays, though a table of references is locked -/
theorem QuestAt.off {CF CQ q x : Addr} {H H' : Hp} {d : Addr} {tb : List (List Key × V)} {k : List Key} {a : Addr} {zs : List Str} {ch : Bool} {wt : List Str → Int} (h : QuestAt CF CQ H q x zs ch wt) (hd : H d = some (.dT tb)) (hm : (k, V.ref a) ∈ tb) (e : ∀ b o, b ≠ d → H b = some o → H' b = some o) : QuestAt CF CQ H' q x zs ch wt := by
  obtain ⟨dq, td, h1, ⟨dx, t, pd, h2, h3, h4⟩, h5⟩ := h
  refine ⟨dq, td, e _ _ (ne_of h1 hd (fun z => nomatch z)) h1, ⟨dx, t, pd, e _ _ (ne_of h2 hd (fun z => nomatch z)) h2, e _ _ (ne_of h3 hd (fun z => nomatch z)) h3, e _ _ (fun z => ?_) h4⟩, e _ _ (fun z => ?_) h5⟩
  · subst z
    rw [h4] at hd
    cases hd
    obtain ⟨i, z⟩ := places_int hm
    cases z
  · subst z
    rw [h5] at hd
    cases hd
    obtain ⟨kv, _, z⟩ := List.mem_map.mp hm
    cases z
/-- the answer of a store to a question -/
def ansQ (ls : List (List Str)) (sz : List Str → Rat) (wt : List Str → Int) : Rat := sumQ (ls.map fun l => sz l * ((wt l : Int) : Rat))
theorem ansQ_some (ls : List (List Str)) (sz : List Str → Rat) (wt : List Str → Int) : ansQ (ls.filter fun l => decide (sz l ≠ 0)) sz wt = ansQ ls sz wt := by
  unfold ansQ sumQ
  have all : ∀ (ls : List (List Str)) (a : Rat), ((ls.filter fun l => decide (sz l ≠ 0)).map fun l => sz l * ((wt l : Int) : Rat)).foldl (fun a b => a + b) a = (ls.map fun l => sz l * ((wt l : Int) : Rat)).foldl (fun a b => a + b) a := by
    intro ls
    induction ls with
    | nil => intro a; rfl
    | cons l r ih =>
      intro a
      by_cases z : sz l = 0
      · rw [List.filter_cons_of_neg (by simp [z]), ih a, List.map_cons, List.foldl_cons, z, Rat.zero_mul, Rat.add_zero]
      · rw [List.filter_cons_of_pos (p := fun l => decide (sz l ≠ 0)) (decide_eq_true z), List.map_cons, List.map_cons, List.foldl_cons, List.foldl_cons, ih]
  exact all ls 0
end Bk

namespace Bk
open PySem PySem.Spec PyProof.Rows L2
/-! ### what stays while the stream moves; pairs of a lot and a thing; dicts of them -/
section
variable {K : PySem.W.Frag} {H H' : Hp} {st c : Addr} {n : Nat}
theorem FrV.kept {v : V} {q : Rat} (h : FrV K H v q) (S : Strm H st c n) (k : Kept st c H H') : FrV K H' v q := by
  obtain ⟨a, rfl, (h | ⟨o, h⟩) | h⟩ := h
  · exact ⟨a, rfl, .inl (.inl (S.hold k h (fun _ z => nomatch z)))⟩
  · exact ⟨a, rfl, .inl (.inr ⟨o, S.hold k h (fun _ z => nomatch z)⟩)⟩
  · exact ⟨a, rfl, .inr h⟩
theorem FrTab.kept {ks : List (List Key × V)} {qs : List (List Key × Rat)} (h : FrTab K H ks qs) (S : Strm H st c n) (k : Kept st c H H') : FrTab K H' ks qs := Paired.mono (fun _ _ ⟨a, b⟩ => ⟨a, b.kept S k⟩) h
theorem StoreAt.kept {CF CS s x : Addr} {zs : List Str} {ch : Bool} {sz : List Str → Rat} (h : StoreAt K CF CS H s x zs ch sz) (S : Strm H st c n) (k : Kept st c H H') : StoreAt K CF CS H' s x zs ch sz := by
  obtain ⟨ds, td, tb, h1, h2, h3, h4⟩ := h
  exact ⟨ds, td, tb, S.hold k h1 (fun _ z => nomatch z), h2.kept S k, S.hold k h3 (fun _ z => nomatch z), h4.kept S k⟩
theorem Told.imp {α : Type} {Rel : Hp → V → α → Prop} {us : List V} {ls : List α} (t : Told Rel H us ls) (h : ∀ u l, Rel H u l → Rel H' u l) : Told Rel H' us ls := ⟨t.1, fun k u l h1 h2 => h u l (t.2 k u l h1 h2)⟩
theorem told_fr {us : List V} {qs : List Rat} (t : Told (FrV K) H us qs) (S : Strm H st c n) (k : Kept st c H H') : Told (FrV K) H' us qs := t.imp fun _ _ h => h.kept S k
end
theorem paired_of {α : Type} {Rel : Hp → V → α → Prop} {H : Hp} : ∀ {us : List V} {ls : List α}, Told Rel H us ls → Paired (Rel H) us ls
  | [], [], _ => .nil
  | [], _ :: _, t => by cases t.1
  | _ :: _, [], t => by cases t.1
  | u :: r, l :: s, t => .cons (t.2 0 u l rfl rfl) (paired_of ⟨Nat.succ.inj t.1, fun k u l a b => t.2 (k + 1) u l a b⟩)
theorem told_of {α : Type} {Rel : Hp → V → α → Prop} {H : Hp} {us : List V} {ls : List α} (p : Paired (Rel H) us ls) : Told Rel H us ls := by
  induction p with
  | nil => exact .nil
  | @cons a b l1 l2 h t ih =>
    refine ⟨by rw [List.length_cons, List.length_cons, ih.1], fun k u l h1 h2 => ?_⟩
    cases k with
    | zero =>
      cases h1
      cases h2
      exact h
    | succ k => exact ih.2 k u l h1 h2
theorem paired_perm {α β : Type} {F : α → β → Prop} {l1 l1' : List α} (h : l1'.Perm l1) : ∀ {l2 : List β}, Paired F l1 l2 → ∃ l2', l2'.Perm l2 ∧ Paired F l1' l2' := by
  induction h with
  | nil => intro l2 p; exact ⟨l2, .refl _, p⟩
  | cons x _ ih =>
    intro l2 p
    cases p with
    | cons a t =>
      obtain ⟨l, h1, h2⟩ := ih t
      exact ⟨_, h1.cons _, .cons a h2⟩
  | swap x y l =>
    intro l2 p
    cases p with
    | cons a t =>
      cases t with
      | cons b t => exact ⟨_, .swap _ _ _, .cons b (.cons a t)⟩
  | trans _ _ ih1 ih2 =>
    intro l2 p
    obtain ⟨l, h1, h2⟩ := ih2 p
    obtain ⟨m, g1, g2⟩ := ih1 h2
    exact ⟨m, g1.trans h1, g2⟩
theorem told_perm {α : Type} {Rel : Hp → V → α → Prop} {H : Hp} {us ys : List V} {ls : List α} (t : Told Rel H us ls) (h : ys.Perm us) : ∃ ls', ls'.Perm ls ∧ Told Rel H ys ls' := by
  obtain ⟨l, h1, h2⟩ := paired_perm h (paired_of t)
  exact ⟨l, h1, told_of h2⟩
/-- a pair of a lot's tuple and a thing -/
def PairV (H : Hp) (u : V) (e : List Str × V) : Prop := ∃ p b : Addr, u = .ref p ∧ H p = some (.tup [.ref b, e.2]) ∧ H b = some (.tup (e.1.map V.str))
theorem stays_pairV : Stays PairV := ⟨fun H1 H2 u l e => by
  rintro ⟨p, b, rfl, h1, h2⟩
  exact ⟨p, b, rfl, e _ _ h1, e _ _ h2⟩, fun H1 D as bs u l hD => by
  rintro ⟨p, b, rfl, h1, h2⟩
  exact ⟨p, b, rfl, by rw [upd_ne (ne_of h1 hD (fun z => nomatch z))]; exact h1, by rw [upd_ne (ne_of h2 hD (fun z => nomatch z))]; exact h2⟩⟩
theorem PairV.kept {H H' : Hp} {st c : Addr} {n : Nat} {u : V} {e : List Str × V} (h : PairV H u e) (S : Strm H st c n) (k : Kept st c H H') : PairV H' u e := by
  obtain ⟨p, b, rfl, h1, h2⟩ := h
  exact ⟨p, b, rfl, S.hold k h1 (fun _ z => nomatch z), S.hold k h2 (fun _ z => nomatch z)⟩
theorem told_pairsV {H : Hp} : ∀ {es : List (List Str × V)} {us : List V}, Told PairV H us es → ∃ ps : List Addr, us = ps.map V.ref ∧ Paired (fun p kv => ∃ b, H p = some (.tup [.ref b, kv.2]) ∧ H b = some (.tup (kv.1.map kV))) ps (es.map fun e => ((e.1.map Sum.inr : List Key), e.2))
  | [], [], _ => ⟨[], rfl, .nil⟩
  | [], _ :: _, t => by cases t.1
  | _ :: _, [], t => by cases t.1
  | e :: r, u :: us, t => by
    obtain ⟨p, b, rfl, h1, h2⟩ := t.2 0 u e rfl rfl
    obtain ⟨ps, rfl, hp⟩ := told_pairsV (es := r) (us := us) ⟨Nat.succ.inj t.1, fun k u l a b => t.2 (k + 1) u l a b⟩
    exact ⟨p :: ps, rfl, .cons ⟨b, h1, by rw [str_key]; exact h2⟩ hp⟩
theorem merge_fresh : ∀ (kvs done : List (List Key × V)), ((done ++ kvs).map (·.1)).Nodup → mergeT done kvs = done ++ kvs
  | [], done, _ => by rw [List.append_nil]; rfl
  | p :: r, done, h => by
    have h2 : (((done ++ [p]) ++ r).map (·.1)).Nodup := by rw [List.append_assoc]; exact h
    have hl : p.1 ∉ done.map (·.1) := fun m => by
      rw [List.map_append, List.nodup_append] at h
      exact h.2.2 _ m _ List.mem_cons_self rfl
    have e := merge_fresh r _ h2
    rw [List.append_assoc] at e
    show mergeT (putK done p.1 p.2) r = _
    rw [putK_fresh hl]
    exact e
theorem ex_fun {α : Type} (z : α) : ∀ {ls : List (List Str)} {ns : List α}, ls.Nodup → ns.length = ls.length → ∃ f : List Str → α, ls.map f = ns ∧ ∀ l, f l = z ∨ f l ∈ ns
  | [], [], _, _ => ⟨fun _ => z, rfl, fun _ => .inl rfl⟩
  | [], _ :: _, _, h => nomatch h
  | _ :: _, [], _, h => nomatch h
  | l :: r, n :: t, nd, h => by
    obtain ⟨h1, h2⟩ := List.nodup_cons.mp nd
    obtain ⟨f, hf, hb⟩ := ex_fun z (ls := r) (ns := t) h2 (Nat.succ.inj h)
    refine ⟨fun m => if m = l then n else f m, ?_, fun m => ?_⟩
    · rw [List.map_cons, if_pos rfl, ← hf]
      congr 1
      exact List.map_congr_left fun m hm => if_neg fun (y : m = l) => h1 (y ▸ hm)
    · show (if m = l then n else f m) = z ∨ (if m = l then n else f m) ∈ n :: t
      by_cases c : m = l
      · rw [if_pos c]
        exact .inr List.mem_cons_self
      · rw [if_neg c]
        exact (hb m).imp id fun y => List.mem_cons_of_mem _ y
/-- a comprehension over zip of two lists, whatever its tests do to others -/
theorem lcZL {K : PySem.W.Frag} {i j : Nat} {a b : Addr} {xs ys : List V} {g : TG} {tt : TT} {te : TE} {vs : List Nat} {σ : L2.St} {H : Hp} {Q : VK} (hv1 : σ[i]? = some (some (.ref a))) (hv2 : σ[j]? = some (some (.ref b)))
    (h1 : SqL K H a xs) (h2 : SqL K H b ys) (hl : xs.length = ys.length)
    (h : ∀ D, H D = none → ∃ Pv : Nat → Hp → Prop, Pv 0 (upd H D (.lst [])) ∧ (∀ k H', Pv k H' → SqL K H' a xs ∧ SqL K H' b ys) ∧
      (∀ k v H' H2, k < xs.length → Pv k H' → YPair (fun i => xs[i]?) (fun i => ys[i]?) k H' v H2 → g v (wipe σ vs) H2 fun σ2 H3 => wipe σ2 vs = wipe σ vs ∧ tt σ2 H3 fun b H4 =>
        if b = true then te σ2 H4 fun y H5 => ∃ acc, H5 D = some (.lst acc) ∧ acc.length < sizeLine ∧ Pv (k + 1) (upd H5 D (.lst (acc ++ [y]))) else Pv (k + 1) H4) ∧
      ∀ H', Pv xs.length H' → Q (.ref D) H') : tLc (RZ.iZipA K (tCons (tVar i) (tCons (tVar j) tNil))) g tt te vs σ H Q := by
  have hm : xs.length = min xs.length ys.length := by omega
  refine ⟨_, hv1, _, hv2, a, b, xs, ys, rfl, .inl ⟨h1, h2, fun D nD => ?_⟩⟩
  obtain ⟨Pv, p0, ps, pt, pd⟩ := h D nD
  exact lc_it (walk_zip hm) Pv p0 (fun k H' _ p => ps k H' p) pt pd
theorem lots_144 {ch : Bool} {zs : List Str} (h : zs.length ≤ mostFor ch) : (lotsFor ch zs).length ≤ 144 := by
  cases ch with
  | true =>
    have h : zs.length ≤ 12 := h
    have := flatMap_len (f := longRows zs) (m := 12) (l := List.range zs.length) fun x _ => by rw [longRows_len]; omega
    rw [List.length_range] at this
    show (chainLots zs).length ≤ 144
    unfold chainLots
    omega
  | false =>
    have h : zs.length ≤ 5 := h
    have := rows_few zs.length (by omega)
    show (lotsOf zs).length ≤ 144
    unfold lotsOf
    rw [List.length_map]
    omega
theorem rows_16 : ∀ n, n < 5 → (lotRows n).length ≤ 16 := by decide +kernel
theorem lots_16 {ch : Bool} {zs : List Str} (h : zs.length ≤ 4) : (lotsFor ch zs).length ≤ 16 := by
  cases ch with
  | true =>
    have := flatMap_len (f := longRows zs) (m := 4) (l := List.range zs.length) fun x _ => by rw [longRows_len]; omega
    rw [List.length_range] at this
    show (chainLots zs).length ≤ 16
    unfold chainLots
    omega
  | false =>
    have := rows_16 zs.length (by omega)
    show (lotsOf zs).length ≤ 16
    unfold lotsOf
    rw [List.length_map]
    omega
theorem pairB_ok {K : PySem.W.Frag} {a : Addr} (h : pairB K a = true) (H : Hp) : SqT K H a (pairQ 0) := by
  unfold pairB at h
  split at h
  · rename_i c dd its n sl e
    obtain ⟨h1, h2⟩ := Bool.and_eq_true_iff.mp h
    have h1 := of_decide_eq_true h1
    subst h1
    split at h2
    · rename_i i t j u e2
      obtain ⟨h3, h4⟩ := Bool.and_eq_true_iff.mp h2
      have h3 := of_decide_eq_true h3
      have h4 := of_decide_eq_true h4
      subst h3 h4
      have hl : its.size = 2 := by
        have := congrArg List.length e2
        simpa using this
      refine .inr ⟨_, its, n, e, rfl, rfl, by rw [hl, sizeLine_eq]; omega, ?_⟩
      rw [e2]
      exact .cons ⟨_, rfl⟩ (.cons ⟨_, rfl⟩ .nil)
    · cases h2
  · cases h
end Bk

/-! a lambda without parameters handed to a def that calls it where errors are caught, their context told -/
namespace Bk
open PySem PySem.Spec PyProof.Rows L2 LamX
/-- the lambda's context: errors leave it with their context told -/
def lamN (X : Cx) (A : Around) (outer : List Env) (s : Shared) (H : Hp) (E : XK) (scope : Scope) (f c' : Addr) : Cx :=
  (lamCx X A outer s H E0 scope f c').tr [] fun e s' => wpAny (model X.prog X.w) (A.deeper (lamEnv X scope s.heap.objs.size f c')) (leaving (lamEnv X scope s.heap.objs.size f c') e)
    (fun _ t => L2N.CX X.prog X.w outer H s E e t) (fun u t => L2N.CX X.prog X.w outer H s E u t) s'
section
variable {X : Cx} {pins : List (Addr × Obj)} {σ : L2.St} {H : Hp} {s : Shared}
/-- the call of the parameter that holds the lambda -/
theorem act_n {Z : Cx} {f c' : Addr} {pm ctv : Value} {params : Arguments} {body : Expr} {scope : Scope} {k i : Nat} {a : Str} {E : L2.St → XK} {tb : XK → TE} {p1 p2 : Pos} {N' : List Str} {x' : Str} {sg : Scope} {g : Addr} {cdg : Value} {pn : List (Addr × Obj)} {xe : Value → Shared → Prop}
    (hZ : Z = (cxOf CX0 X.prog X.w X.K X.mg X.base N' x' sg g cdg X.A X.stack s H E0).tr pn xe)
    (I : Inv X pins σ H s) (L : LamS X.env.scope scope) (hf : s.heap.get? f = some (PySem.W.kla_obj "<lambda>" (X.env.qual ++ "<lambda>") params body scope (cloFrom X.env.cells scope.names []) pm c' ctv)) (hfn : H f = none) (hfr : f ∉ frs X.stack)
    (hbind : bindArgs (PySem.W.kla_fn "<lambda>" (X.env.qual ++ "<lambda>") params body scope (cloFrom X.env.cells scope.names []) pm (.ref c') ctv) ⟨[], []⟩ = pure [])
    (hx : ∀ τ, PassesAt (L2N.CX X.prog X.w) Z τ (E τ)) (hr : Room (k + 1) (X.A.deeper (envOfC x' sg s.heap.objs.size g cdg)))
    (hbody : ∀ (A : Around) (outer : List Env) (s : Shared) (H : Hp) (E : XK), Room k (A.deeper (lamEnv X scope s.heap.objs.size f c')) → PE (lamN X A outer s H E scope f c') body (tb E))
    (hN : N'[i]? = some a) (hv : Vis sg a) (hd : (a == ("__debug__" : Str)) = false) (hcd : (a == ("__classdict__" : Str)) = false) :
    PE Z (.Call (.Name a p1) [] [] p2) (fun σZ HZ Q => σZ[i]? = some (some (.ref f)) ∧ HZ c' = some (CodeO c' (X.env.qual ++ "<lambda>")) ∧ tb (E σZ) σ HZ Q) := by
  subst hZ
  constructor
  rintro pinsZ sZ σZ HZ Q IZ ⟨hs, hc, ht⟩
  refine wpAny_Call_Name_kw (thn ((pe_var (pos := p1) (i := i) hN hv hd hcd).run pinsZ sZ σZ HZ (fun v H1 => v = .ref f ∧ H1 = HZ) IZ ⟨.ref f, hs, rfl, rfl⟩) ?_)
  rintro u t ⟨v, H1, I1, r1, ev, eH⟩
  subst ev
  rw [eH] at I1
  obtain rfl : u = Value.ref f := r1
  have at1 : t.heap.get? f = some (PySem.W.kla_obj "<lambda>" (X.env.qual ++ "<lambda>") params body scope (cloFrom X.env.cells scope.names []) pm c' ctv) :=
    I1.base.keep f _ hf hfn hfr (fun z => nomatch (show f ∈ ([] : List Addr) from z))
  refine PySem.W.callWith_F0 ⟨_, _, _, _, at1⟩ ?_
  have un : Un (frs X.stack) [] H HZ s.heap t.heap := I1.base
  obtain ⟨⟨oc, vs, tt, hoc, hdc, hvc⟩, _, _⟩ := I1.hok c' _ hc
  have code : codeAny (model X.prog X.w) (X.A.deeper (envOfC x' sg s.heap.objs.size g cdg)) (.call (.ref f) ⟨[], []⟩) (CR (L2N.CX X.prog X.w) (envOfC x' sg s.heap.objs.size g cdg :: X.stack) X.prog X.w HZ t Q (E σZ)) t := by
    refine PySem.W.kla_callFunE hr.depth at1 rfl L.co L.gen rfl ⟨c', oc, vs, tt, rfl, hoc, hdc, hvc⟩ ?_
    rw [hbind]
    refine wpAny_pure (wpAny_newFunctionEnv (fun y hy => (L.own y hy).2) (fun y hy => absurd hy (by simp)) (fun h₁ hns hsb => ⟨I1.nolimit.fresh _ hsb, ?_⟩) L.kind)
    show codeAny _ _ (.expr body (lamEnv X scope t.heap.objs.size f c')) _ _
    have kp : ∀ b o, t.heap.get? b = some o → h₁.get? b = some o := fun b o e => hsb.extBut b o (Nat.ne_of_lt (Heap.lt_size e)) (Heap.get?_push_of_some _ e)
    have J0 := lam_start2 (f := f) (c' := c') (E := E0) (tk := t.toks + ([] : List (Str × Value)).length) I L I1.env0 hr.hd un hns kp
    have J : Inv (lamN X (X.A.deeper (envOfC x' sg s.heap.objs.size g cdg)) (envOfC x' sg s.heap.objs.size g cdg :: X.stack) t HZ (E σZ) scope f c') [] σ HZ { t with heap := h₁, toks := t.toks + ([] : List (Str × Value)).length } := J0.toTry _
    refine PySem.W.kla_codeExpr (wpAny_mono ((hbody _ _ t HZ (E σZ) (hr.deeper _)).run [] _ _ HZ Q J ht) ?_ fun e s' hq => hq)
    rintro v s' ⟨w', H', J', rv, q⟩
    exact ⟨w', H', J'.os, J'.bare, J'.base, J'.hok, rv, q⟩
  refine wpAny_call (codeAny_mono code fun r s' hq => ?_)
  match r, hq with
  | .error e, hq => exact hx σZ pinsZ HZ t e s' I1 hq
  | .ok (.ret u), hq => exact I1.after hq
  | .ok .next, hq => exact hq.elim
  | .ok .brk, hq => exact hq.elim
  | .ok .cont, hq => exact hq.elim
end
/-- what the def that got the lambda at its first place makes of it -/
def GivesN (X : Cx) (N' : List Str) (x : Str) (sg : Scope) (g : Addr) (cdg : Value) (bg : List Stmt) (a q : Str) (k : Nat) (TT : (XK → Hp → VK → Prop) → Hp → VK → Prop) : Prop :=
  ∀ (f c' : Addr) (s : Shared) (H : Hp) (Q : VK) (tl : XK → Hp → VK → Prop), Room (k + 1) (X.A.deeper (envOfC x sg s.heap.objs.size g cdg)) →
    (∀ (W : WX) (pn : List (Addr × Obj)) (xe : Value → Shared → Prop) (p1 p2 : Pos), L2N.Takes ((cxOf CX0 X.prog X.w X.K X.mg X.base N' x sg g cdg X.A X.stack s H E0).tr pn xe) W →
      PE ((cxOf CX0 X.prog X.w X.K X.mg X.base N' x sg g cdg X.A X.stack s H E0).tr pn xe) (.Call (.Name a p1) [] [] p2) (fun σZ HZ Q => σZ[0]? = some (some (.ref f)) ∧ HZ c' = some (CodeO c' q) ∧ tl (WE W σZ) HZ Q)) →
    H c' = some (CodeO c' q) → TT tl H Q →
    ∃ t, PSs (cxOf CX0 X.prog X.w X.K X.mg X.base N' x sg g cdg X.A X.stack s H E0).nox bg t ∧ t { nx := fun _ H' => Q .non H', rt := Q } (L2.start N' [.ref f]) H
section
variable {X : Cx}
/-- x(lambda: body) -/
theorem pe_giveN {T : List (Addr × Str)} {TT : (XK → Hp → VK → Prop) → Hp → VK → Prop} {x a : Str} {g c P0 : Addr} {k : Nat} {st : Stmt} {fd : FuncData} {N' : List Str}
    {params : Arguments} {body : Expr} {scope : Scope} {t : XK → TE} {p lpos pos : Pos} (F : Fun X.K x x st g fd) (hg : Gl X x) (hm : X.mg x = some (.ref g)) (hb : Binds X.K fd [a] []) (Sg : FnScope N' [a] (defScope st)) (hN : N'[0]? = some a) (hva : Vis (defScope st) a)
    (hG : ∀ cdv, GivesN X N' x (defScope st) g cdv (defBody st) a (X.env.qual ++ "<lambda>") k TT)
    (TB : TabB X.base X.mg c P0) (hcode : X.env.code = .ref c) (hmT : (P0, X.env.qual ++ "<lambda>") ∈ T) (hu : ∀ p ∈ T, p.1 = P0 → p.2 = X.env.qual ++ "<lambda>") (hr : Room (k + 2) X.A) (L : LamS X.env.scope scope) (hdef : defaultsOf params X.env = ([], []))
    (hbind : ∀ (q : Str) (cl : List (Str × Addr)) (pm cv ctv : Value), bindArgs (PySem.W.kla_fn "<lambda>" q params body scope cl pm cv ctv) ⟨[], []⟩ = pure [])
    (hbody : ∀ (A : Around) (outer : List Env) (s : Shared) (H : Hp) (E : XK) (f c' : Addr), Room k (A.deeper (lamEnv X scope s.heap.objs.size f c')) → PE (lamN X A outer s H E scope f c') body (t E))
    (hdb : (x == ("__debug__" : Str)) = false := by decide) (hd : (a == ("__debug__" : Str)) = false := by decide) (hcd : (a == ("__classdict__" : Str)) = false := by decide) :
    PE X (.Call (.Name x p) [.Lambda params body scope lpos] [] pos) (tLam T TT t) := by
  constructor
  rintro pins s σ H Q I ⟨hT, h⟩
  have kp := F.kp
  obtain ⟨_, _, _, _, _, _, cdv, _, _, rfl, lk, hcg⟩ := F.ex
  refine wpAny_Call_Name_kw (ld_glob I hg hm ?_ hdb)
  refine PySem.W.callWith_K (h₀ := X.base) I.ok.mod.kin kp ?_ (by rfl) (by rfl)
  show wpAny _ _ (spliced ((false, eval (.Lambda params body scope lpos) X.env) :: backTo pos (starEach [] X.env))) _ _ s
  refine Calls.spliced_cons (lam_make2 I TB hcode hmT hu hT hdef (L.has I.ok) ?_)
  intro f c' pm' ctv H1 s' I1 eN T1 hf hfn hfr hco
  refine Calls.spliced_nil ⟨I1.kIn, ?_⟩
  have code : codeAny (model X.prog X.w) X.A (.call (.ref g) ⟨[.ref f], []⟩) (CR CX0 X.stack X.prog X.w H1 s' Q E0) s' := by
    refine run_ofS (N := N') (ps := [a]) (us := [.ref f]) (vs := [.ref f]) lk hcg Sg hr I1.env0 (hb s' [.ref f] I1.kIn rfl) (.cons rfl .nil) rfl fun hr' => ?_
    obtain ⟨t', ht', hq'⟩ := hG cdv f c' s' H1 Q (fun E H' Q' => t E σ H' Q') hr' (fun W pn xe p1 p2 tk => act_n (i := 0) (E := fun τ => WE W τ) (tb := t) rfl I1 L hf hfn hfr (hbind _ _ _ _ _) (fun τ => L2N.passAt tk τ) hr' (fun A outer s H E hr2 => hbody A outer s H E f c' hr2) hN hva hd hcd) hco (h H1 eN T1)
    exact ⟨t', ht'.nox, hq'⟩
  refine wpAny_call (codeAny_mono code fun r s2 hq => ?_)
  match r, hq with
  | .error e, hq => exact (show False from hq).elim
  | .ok (.ret u), hq => exact I1.after hq
  | .ok .next, hq => exact hq.elim
  | .ok .brk, hq => exact hq.elim
  | .ok .cont, hq => exact hq.elim
end
end Bk

/-! try: .. / except A: .. / except B as n: .. , the errors' context told; each error is of A or of B -/
namespace Bk
open PySem PySem.Spec PyProof.Rows L2
/-- what such a try asks of an error that reaches it -/
def wTwo (K : PySem.W.Frag) (c1 c2 : Value) (i : Nat) (t1 t2 : Addr → Value → Option Addr → TS) (D : Ends) : WX := fun cls d σ H =>
  (PySem.W.exmOne K cls c1 = some true ∧ ∀ a, H a = none → t1 a cls d D σ H) ∨
  (PySem.W.exmOne K cls c1 = some false ∧ PySem.W.exmOne K cls c2 = some true ∧ ∀ a, H a = none →
    t2 a cls d { nx := fun τ G => D.nx (τ.set i none) G, rt := D.rt, bk := fun τ G => D.bk (τ.set i none) G, ct := fun τ G => D.ct (τ.set i none) G } (σ.set i (some (.ref a))) H)
section
variable {X : Cx} {body s1 s2 : List Stmt} {b1 b2 : Stmt} {x1 x2 n : Str} {c1 c2 : Value} {i : Nat} {p1 p2 q1 q2 pos : Pos} {tb : WX → TS} {t1 t2 : Addr → Value → Option Addr → TS}
theorem ps_try_two (hst : X.stack = X.env :: X.outer) (hfm : X.env.frame = some X.env.locals) (hN : X.N.Nodup) (hi : X.N[i]? = some n) (hln : X.env.kindOf n = some .local) (hc1 : Names X x1 c1) (hc2 : Names X x2 c2)
    (hb : ∀ (W : WX) (pn : List (Addr × Obj)) (xe : Value → Shared → Prop), L2N.Takes (X.tr pn xe) W → PassesOwn (model X.prog X.w) X.A X.env xe → PSs (X.tr pn xe) body (tb W))
    (h1 : ∀ (a : Addr) (oe : Obj) (cls : Value) (d : Option Addr) (pn : List (Addr × Obj)), L2N.Zn cls d oe → (∃ vs, oe.data = .fields vs) → PSs (X.suite a ((a, oe) :: pn)) (b1 :: s1) (t1 a cls d))
    (h2 : ∀ (a : Addr) (oe : Obj) (cls : Value) (d : Option Addr) (pn : List (Addr × Obj)), L2N.Zn cls d oe → (∃ vs, oe.data = .fields vs) → PSs (X.suite a ((a, oe) :: pn)) (b2 :: s2) (t2 a cls d)) :
    PS X (.Try body [.ExceptHandler (some (.Name x1 p1)) none (b1 :: s1) q1, .ExceptHandler (some (.Name x2 p2)) (some n) (b2 :: s2) q2] [] [] pos) (fun D σ H => tb (wTwo X.K c1 c2 i t1 t2 D) D σ H) := by
  constructor
  intro pins s σ H D I h
  have ok := I.ok
  have frm : X.A.frames = some (X.env :: X.outer) := by rw [ok.frames, hst]
  have loc : Loc X.env.scope n := .inl hln
  refine wpAny_Try_except ?_
  have run := (hb (wTwo X.K c1 c2 i t1 t2 D) (X.pn ++ pins) (fun e z => wpAny (model X.prog X.w) X.A (noteFrame e X.env) (fun _ z => wpAny (model X.prog X.w) X.A (setFlight e none)
    (fun _ z => wpAny (model X.prog X.w) X.A (handleBy e X.env [.ExceptHandler (some (.Name x1 p1)) none (b1 :: s1) q1, .ExceptHandler (some (.Name x2 p2)) (some n) (b2 :: s2) q2]) (SP X pins D) X.xe z) X.xe z) X.xe z) ?_ PassesOwn.looking).run [] s σ H D (I.toTry _) h
  · refine wpAny_mono run (fun f z hz => ?_) fun e z hz => hz
    match f, hz with
    | .next, ⟨τ, G, J, k⟩ => exact wpAny_execs_nil ⟨τ, G, J.ofTry ok, k⟩
    | .brk, ⟨τ, G, J, k⟩ => exact ⟨τ, G, J.ofTry ok, k⟩
    | .cont, ⟨τ, G, J, k⟩ => exact ⟨τ, G, J.ofTry ok, k⟩
    | .ret u, ⟨v, τ, G, J, r, k⟩ => exact ⟨v, τ, G, J.ofTry ok, r, k⟩
  rintro u z ⟨a, B, sI, pins', τ, G, cls, d, rfl, J0, nb, up, sky, na, os, ag, hw⟩
  have J := J0.ofTry ok
  show wpAny (model X.prog X.w) X.A (noteFrame (.ref a) X.env) _ _ _
  refine L2N.Sky.land L2N.Zn.steady frm hfm (hst ▸ sky) fun g fl ug => ?_
  have J1 : Inv X pins τ G { z with heap := g } := J.landed nb fl.1 (up.trans ug) os ag
  obtain ⟨oe, vs, hoe, hzn, hdt⟩ := fl.there
  have away : a ∉ frs (X.env :: X.outer) := fun hm => by
    obtain ⟨_, o', e', hnf⟩ := fl.2.2.1.mem hm
    rw [hoe] at e'
    cases e'
    exact hnf _ hdt
  have nL : a ≠ X.env.locals := fun k => away (List.mem_filterMap.mpr ⟨X.env, List.mem_cons_self, by rw [hfm, k]⟩)
  have nF : a ∉ X.fs := fun hm => by
    obtain ⟨w0, m0, k0⟩ := List.mem_filterMap.mp hm
    exact away (List.mem_filterMap.mpr ⟨w0, List.mem_cons_of_mem _ m0, k0⟩)
  have S1 := J1.suite hoe hdt na nL nF
  have ty : PySem.W.Looks (model X.prog X.w) g (typeOf (.ref a)) cls := fun A Q E s k q => wpAny_typeOf_ref (k _ _ hoe) (hzn.1.symm ▸ q)
  -- the name of a clause
  have nam : ∀ {x : Str} {c : Value} {p : Pos} (_ : Names X x c) {Q E : Value → Shared → Prop}, Q c { z with heap := g } → wpAny (model X.prog X.w) (X.A.mark (some (.ref a))) (eval (.Name x p) X.env) Q E { z with heap := g } := fun {x c p} hc {Q E} k => by
    obtain ⟨g0, db, hm | ⟨hm, hv, hnn⟩⟩ := hc
    · exact ld_glob (X := X.suite a ((a, oe) :: (X.pn ++ pins))) S1 g0 hm k db
    · exact ld_blt (X := X.suite a ((a, oe) :: (X.pn ++ pins))) S1 g0 hm hv k hnn db
  refine wpAny_handleBy_cons (codeAny_handlers_test ?_) (by intro k; cases k)
  rcases hw with ⟨m1, hq⟩ | ⟨m1, m2, hq⟩
  · have M1 := PySem.W.exm_one (M := model X.prog X.w) J1.kIn ty m1
    refine nam hc1 (M1.here ?_)
    refine codeAny_handlers_suite ?_
    refine HandSPX.lands_againZ fl fun g2 fl2 ug2 => ?_
    have J2 : Inv X pins τ G { z with heap := g2 } := J.landed nb fl2.1 ((up.trans ug).trans ug2) os ag
    obtain ⟨oe2, vs2, hoe2, hzn2, hdt2⟩ := fl2.there
    refine wpAny_mono ((h1 a oe2 cls d (X.pn ++ pins) hzn2 ⟨_, hdt2⟩).run [] _ _ G _ (J2.suite hoe2 hdt2 na nL nF) (hq a na)) (fun f t ht => ?_) (fun _ _ k => k.elim)
    match f, ht with
    | .next, ⟨τ2, G2, S2, k⟩ => exact ⟨_, _, S2.unsuite ok, k⟩
    | .brk, ⟨τ2, G2, S2, k⟩ => exact ⟨_, _, S2.unsuite ok, k⟩
    | .cont, ⟨τ2, G2, S2, k⟩ => exact ⟨_, _, S2.unsuite ok, k⟩
    | .ret u, ⟨v2, τ2, G2, S2, r2, k⟩ => exact ⟨_, _, _, S2.unsuite ok, r2, k⟩
  · have M1 := PySem.W.exm_one (M := model X.prog X.w) J1.kIn ty m1
    have M2 := PySem.W.exm_one (M := model X.prog X.w) J1.kIn ty m2
    refine nam hc1 (M1.here ?_)
    show wpAny _ X.A (handleBy (.ref a) X.env [.ExceptHandler (some (.Name x2 p2)) (some n) (b2 :: s2) q2]) _ _ _
    refine wpAny_handleBy_cons (codeAny_handlers_test ?_) (by intro k; cases k)
    refine nam hc2 (M2.here ?_)
    refine codeAny_handlers_suite_as ?_
    refine HandSPX.lands_againZ fl fun g2 fl2 ug2 => ?_
    have J2 : Inv X pins τ G { z with heap := g2 } := J.landed nb fl2.1 ((up.trans ug).trans ug2) os ag
    obtain ⟨oe2, vs2, hoe2, hzn2, hdt2⟩ := fl2.there
    have S2 := J2.suite hoe2 hdt2 na nL nF
    refine store_ok (X := X.suite a ((a, oe2) :: (X.pn ++ pins))) (v := .ref a) S2 hN hi loc rfl (fun t T2 => ?_) (.inr hln)
    refine wpAny_mono ((h2 a oe2 cls d (X.pn ++ pins) hzn2 ⟨_, hdt2⟩).run [] t _ G _ T2 (hq a na)) (fun f t ht => ?_) (fun _ _ k => k.elim)
    have ends : ∀ {τ2 : L2.St} {G2 : Hp} {Q : Shared → Prop}, Inv (X.suite a ((a, oe2) :: (X.pn ++ pins))) [] τ2 G2 t → (∀ t3, Inv X pins (τ2.set i none) G2 t3 → Q t3) → wpAny (model X.prog X.w) X.A (do bindName X.env n .none; unbindBehindTheSuite X.env n q2) (fun _ t3 => Q t3) X.xe t :=
      fun T3 k => gone_ok (T3.unsuite ok) hN hi hln k
    match f, ht with
    | .next, ⟨τ2, G2, T3, k⟩ => exact ends T3 fun t3 J3 => ⟨_, _, J3, k⟩
    | .brk, ⟨τ2, G2, T3, k⟩ => exact ends T3 fun t3 J3 => ⟨_, _, J3, k⟩
    | .cont, ⟨τ2, G2, T3, k⟩ => exact ends T3 fun t3 J3 => ⟨_, _, J3, k⟩
    | .ret u, ⟨v2, τ2, G2, T3, r2, k⟩ => exact ends T3 fun t3 J3 => ⟨_, _, _, J3, r2, k⟩
end
end Bk

/-! try: .. / except A as n: .. / except B: .. , the errors' context told; each error is of A or of B -/
namespace Bk
open PySem PySem.Spec PyProof.Rows L2
/-- what such a try asks of an error that reaches it -/
def wOwn (K : PySem.W.Frag) (c1 c2 : Value) (i : Nat) (t1 t2 : Addr → Value → Option Addr → TS) (D : Ends) : WX := fun cls d σ H =>
  (PySem.W.exmOne K cls c1 = some true ∧ ∀ a, H a = none →
    t1 a cls d { nx := fun τ G => D.nx (τ.set i none) G, rt := D.rt, bk := fun τ G => D.bk (τ.set i none) G, ct := fun τ G => D.ct (τ.set i none) G } (σ.set i (some (.ref a))) H) ∨
  (PySem.W.exmOne K cls c1 = some false ∧ PySem.W.exmOne K cls c2 = some true ∧ ∀ a, H a = none → t2 a cls d D σ H)
section
variable {X : Cx} {body s1 s2 : List Stmt} {b1 b2 : Stmt} {x1 x2 n : Str} {c1 c2 : Value} {i : Nat} {p1 p2 q1 q2 pos : Pos} {tb : WX → TS} {t1 t2 : Addr → Value → Option Addr → TS}
theorem ps_try_own (hst : X.stack = X.env :: X.outer) (hfm : X.env.frame = some X.env.locals) (hN : X.N.Nodup) (hi : X.N[i]? = some n) (hln : X.env.kindOf n = some .local) (hc1 : Names X x1 c1) (hc2 : Names X x2 c2)
    (hb : ∀ (W : WX) (pn : List (Addr × Obj)) (xe : Value → Shared → Prop), L2N.Takes (X.tr pn xe) W → PassesOwn (model X.prog X.w) X.A X.env xe → PSs (X.tr pn xe) body (tb W))
    (h1 : ∀ (a : Addr) (oe : Obj) (cls : Value) (d : Option Addr) (pn : List (Addr × Obj)), L2N.Zn cls d oe → (∃ vs, oe.data = .fields vs) → PSs (X.suite a ((a, oe) :: pn)) (b1 :: s1) (t1 a cls d))
    (h2 : ∀ (a : Addr) (oe : Obj) (cls : Value) (d : Option Addr) (pn : List (Addr × Obj)), L2N.Zn cls d oe → (∃ vs, oe.data = .fields vs) → PSs (X.suite a ((a, oe) :: pn)) (b2 :: s2) (t2 a cls d)) :
    PS X (.Try body [.ExceptHandler (some (.Name x1 p1)) (some n) (b1 :: s1) q1, .ExceptHandler (some (.Name x2 p2)) none (b2 :: s2) q2] [] [] pos) (fun D σ H => tb (wOwn X.K c1 c2 i t1 t2 D) D σ H) := by
  constructor
  intro pins s σ H D I h
  have ok := I.ok
  have frm : X.A.frames = some (X.env :: X.outer) := by rw [ok.frames, hst]
  have loc : Loc X.env.scope n := .inl hln
  refine wpAny_Try_except ?_
  have run := (hb (wOwn X.K c1 c2 i t1 t2 D) (X.pn ++ pins) (fun e z => wpAny (model X.prog X.w) X.A (noteFrame e X.env) (fun _ z => wpAny (model X.prog X.w) X.A (setFlight e none)
    (fun _ z => wpAny (model X.prog X.w) X.A (handleBy e X.env [.ExceptHandler (some (.Name x1 p1)) (some n) (b1 :: s1) q1, .ExceptHandler (some (.Name x2 p2)) none (b2 :: s2) q2]) (SP X pins D) X.xe z) X.xe z) X.xe z) ?_ PassesOwn.looking).run [] s σ H D (I.toTry _) h
  · refine wpAny_mono run (fun f z hz => ?_) fun e z hz => hz
    match f, hz with
    | .next, ⟨τ, G, J, k⟩ => exact wpAny_execs_nil ⟨τ, G, J.ofTry ok, k⟩
    | .brk, ⟨τ, G, J, k⟩ => exact ⟨τ, G, J.ofTry ok, k⟩
    | .cont, ⟨τ, G, J, k⟩ => exact ⟨τ, G, J.ofTry ok, k⟩
    | .ret u, ⟨v, τ, G, J, r, k⟩ => exact ⟨v, τ, G, J.ofTry ok, r, k⟩
  rintro u z ⟨a, B, sI, pins', τ, G, cls, d, rfl, J0, nb, up, sky, na, os, ag, hw⟩
  have J := J0.ofTry ok
  show wpAny (model X.prog X.w) X.A (noteFrame (.ref a) X.env) _ _ _
  refine L2N.Sky.land L2N.Zn.steady frm hfm (hst ▸ sky) fun g fl ug => ?_
  have J1 : Inv X pins τ G { z with heap := g } := J.landed nb fl.1 (up.trans ug) os ag
  obtain ⟨oe, vs, hoe, hzn, hdt⟩ := fl.there
  have away : a ∉ frs (X.env :: X.outer) := fun hm => by
    obtain ⟨_, o', e', hnf⟩ := fl.2.2.1.mem hm
    rw [hoe] at e'
    cases e'
    exact hnf _ hdt
  have nL : a ≠ X.env.locals := fun k => away (List.mem_filterMap.mpr ⟨X.env, List.mem_cons_self, by rw [hfm, k]⟩)
  have nF : a ∉ X.fs := fun hm => by
    obtain ⟨w0, m0, k0⟩ := List.mem_filterMap.mp hm
    exact away (List.mem_filterMap.mpr ⟨w0, List.mem_cons_of_mem _ m0, k0⟩)
  have S1 := J1.suite hoe hdt na nL nF
  have ty : PySem.W.Looks (model X.prog X.w) g (typeOf (.ref a)) cls := fun A Q E s k q => wpAny_typeOf_ref (k _ _ hoe) (hzn.1.symm ▸ q)
  -- the name of a clause
  have nam : ∀ {x : Str} {c : Value} {p : Pos} (_ : Names X x c) {Q E : Value → Shared → Prop}, Q c { z with heap := g } → wpAny (model X.prog X.w) (X.A.mark (some (.ref a))) (eval (.Name x p) X.env) Q E { z with heap := g } := fun {x c p} hc {Q E} k => by
    obtain ⟨g0, db, hm | ⟨hm, hv, hnn⟩⟩ := hc
    · exact ld_glob (X := X.suite a ((a, oe) :: (X.pn ++ pins))) S1 g0 hm k db
    · exact ld_blt (X := X.suite a ((a, oe) :: (X.pn ++ pins))) S1 g0 hm hv k hnn db
  refine wpAny_handleBy_cons (codeAny_handlers_test ?_) (by intro k; cases k)
  rcases hw with ⟨m1, hq⟩ | ⟨m1, m2, hq⟩
  · have M1 := PySem.W.exm_one (M := model X.prog X.w) J1.kIn ty m1
    refine nam hc1 (M1.here ?_)
    refine codeAny_handlers_suite_as ?_
    refine HandSPX.lands_againZ fl fun g2 fl2 ug2 => ?_
    have J2 : Inv X pins τ G { z with heap := g2 } := J.landed nb fl2.1 ((up.trans ug).trans ug2) os ag
    obtain ⟨oe2, vs2, hoe2, hzn2, hdt2⟩ := fl2.there
    have S2 := J2.suite hoe2 hdt2 na nL nF
    refine store_ok (X := X.suite a ((a, oe2) :: (X.pn ++ pins))) (v := .ref a) S2 hN hi loc rfl (fun t T2 => ?_) (.inr hln)
    refine wpAny_mono ((h1 a oe2 cls d (X.pn ++ pins) hzn2 ⟨_, hdt2⟩).run [] t _ G _ T2 (hq a na)) (fun f t ht => ?_) (fun _ _ k => k.elim)
    have ends : ∀ {τ2 : L2.St} {G2 : Hp} {Q : Shared → Prop}, Inv (X.suite a ((a, oe2) :: (X.pn ++ pins))) [] τ2 G2 t → (∀ t3, Inv X pins (τ2.set i none) G2 t3 → Q t3) → wpAny (model X.prog X.w) X.A (do bindName X.env n .none; unbindBehindTheSuite X.env n q1) (fun _ t3 => Q t3) X.xe t :=
      fun T3 k => gone_ok (T3.unsuite ok) hN hi hln k
    match f, ht with
    | .next, ⟨τ2, G2, T3, k⟩ => exact ends T3 fun t3 J3 => ⟨_, _, J3, k⟩
    | .brk, ⟨τ2, G2, T3, k⟩ => exact ends T3 fun t3 J3 => ⟨_, _, J3, k⟩
    | .cont, ⟨τ2, G2, T3, k⟩ => exact ends T3 fun t3 J3 => ⟨_, _, J3, k⟩
    | .ret u, ⟨v2, τ2, G2, T3, r2, k⟩ => exact ends T3 fun t3 J3 => ⟨_, _, _, J3, r2, k⟩
  · have M1 := PySem.W.exm_one (M := model X.prog X.w) J1.kIn ty m1
    have M2 := PySem.W.exm_one (M := model X.prog X.w) J1.kIn ty m2
    refine nam hc1 (M1.here ?_)
    show wpAny _ X.A (handleBy (.ref a) X.env [.ExceptHandler (some (.Name x2 p2)) none (b2 :: s2) q2]) _ _ _
    refine wpAny_handleBy_cons (codeAny_handlers_test ?_) (by intro k; cases k)
    refine nam hc2 (M2.here ?_)
    refine codeAny_handlers_suite ?_
    refine HandSPX.lands_againZ fl fun g2 fl2 ug2 => ?_
    have J2 : Inv X pins τ G { z with heap := g2 } := J.landed nb fl2.1 ((up.trans ug).trans ug2) os ag
    obtain ⟨oe2, vs2, hoe2, hzn2, hdt2⟩ := fl2.there
    refine wpAny_mono ((h2 a oe2 cls d (X.pn ++ pins) hzn2 ⟨_, hdt2⟩).run [] _ _ G _ (J2.suite hoe2 hdt2 na nL nF) (hq a na)) (fun f t ht => ?_) (fun _ _ k => k.elim)
    match f, ht with
    | .next, ⟨τ2, G2, S2, k⟩ => exact ⟨_, _, S2.unsuite ok, k⟩
    | .brk, ⟨τ2, G2, S2, k⟩ => exact ⟨_, _, S2.unsuite ok, k⟩
    | .cont, ⟨τ2, G2, S2, k⟩ => exact ⟨_, _, S2.unsuite ok, k⟩
    | .ret u, ⟨v2, τ2, G2, S2, r2, k⟩ => exact ⟨_, _, _, S2.unsuite ok, r2, k⟩
end
end Bk

/-! e[i] where e is an instance whose class says __getitem__; try with any list of clauses, named or bare -/
namespace Bk
open PySem PySem.Spec PyProof.Rows L2
section
variable {X : Cx} {CX : CXT} {n : Nat} {C f : Addr} {fd : FuncData} {ps : List Str} {sp : Sp} {E : XK} {o i : Expr} {pos : Pos} {to ti : TE}
def tGetOwn (C : Addr) (sp : Sp) (E : XK) (to ti : TE) : TE := fun σ H Q => to σ H fun x H1 => ti σ H1 fun y H2 => ∃ (a dx : Addr) (fs : List (Str × V)), x = .ref a ∧ H2 a = some (.ins C dx fs) ∧ sp [.ref a, y] H2 Q E
theorem pe_getOwn (F : FnOk X.prog X.w X.K X.mg X.base CX n f fd ps sp) (hb : Binds X.K fd ps []) (hx : Passes CX X E) (hr : Room (n + 1) X.A) (m : Own X.K C "__getitem__" f) (fi : PySem.W.fnIn X.K f = true) (ho : PE X o to) (hi : PE X i ti)
    (hsl : ∀ (a : Addr) (y : Value), subscripted i true (.ref a) y = runValue (.builtin "lifetime.subscript" ⟨[.ref a, y], []⟩) := by intro _ _; rfl) : PE X (.Subscript o i pos) (tGetOwn C sp E to ti) := by
  refine ⟨fun pins s σ H Q I h => ?_⟩
  refine Subscript_ (wpAny_mono (ho.run pins s σ H _ I h) (fun u s1 h1 => ?_) fun _ _ z => z)
  obtain ⟨x, H1, I1, rx, q1⟩ := h1
  refine wpAny_mono (hi.run pins s1 σ H1 _ I1 q1) (fun v s2 h2 => ?_) fun _ _ z => z
  obtain ⟨y, H2, I2, ry, a, dx, fs, rfl, ha, hs⟩ := h2
  obtain rfl : u = Value.ref a := rx
  have sb : Sub X (n + 1) X.A := ⟨hr, rfl⟩
  obtain ⟨mA, J, _⟩ := ins_get I2.hok ha
  obtain ⟨od, J, _⟩ := J.look
  obtain ⟨_, hF⟩ := I2.fr
  exact PySem.W.sub_K hF I2.ok.mod.kin J m.at_ fi m.fn (own_run (vs := [.ref a, y]) F hb hx sb.in1 I2 (.cons rfl (.cons ry .nil)) hs) (hsl a v)
end
/-- what such a try asks of an error that reaches it -/
def wList (K : PySem.W.Frag) (D : Ends) : List (Value × Option Nat × (Addr → Value → Option Addr → TS)) → WX
  | [] => fun _ _ _ _ => False
  | (c, oi, ts) :: r => fun cls d σ H =>
    (PySem.W.exmOne K cls c = some true ∧ ∀ a, H a = none → match oi with
      | none => ts a cls d D σ H
      | some i => ts a cls d { nx := fun τ G => D.nx (τ.set i none) G, rt := D.rt, bk := fun τ G => D.bk (τ.set i none) G, ct := fun τ G => D.ct (τ.set i none) G } (σ.set i (some (.ref a))) H) ∨
    (PySem.W.exmOne K cls c = some false ∧ wList K D r cls d σ H)
inductive HdsN (X : Cx) : List ExceptHandler → List (Value × Option Nat × (Addr → Value → Option Addr → TS)) → Prop
  | nil : HdsN X [] []
  | bare {x : Str} {c : Value} {np pos' : Pos} {b₀ : Stmt} {suite : List Stmt} {ts : Addr → Value → Option Addr → TS} {hds : List ExceptHandler} {l : List (Value × Option Nat × (Addr → Value → Option Addr → TS))} (hc : Names X x c)
      (hs : ∀ (a : Addr) (oe : Obj) (cls : Value) (d : Option Addr) (pn : List (Addr × Obj)), L2N.Zn cls d oe → (∃ vs, oe.data = .fields vs) → PSs (X.suite a ((a, oe) :: pn)) (b₀ :: suite) (ts a cls d)) (r : HdsN X hds l) :
      HdsN X (.ExceptHandler (some (.Name x np)) none (b₀ :: suite) pos' :: hds) ((c, none, ts) :: l)
  | named {x n : Str} {c : Value} {i : Nat} {np pos' : Pos} {b₀ : Stmt} {suite : List Stmt} {ts : Addr → Value → Option Addr → TS} {hds : List ExceptHandler} {l : List (Value × Option Nat × (Addr → Value → Option Addr → TS))} (hi : X.N[i]? = some n) (hln : X.env.kindOf n = some .local) (hc : Names X x c)
      (hs : ∀ (a : Addr) (oe : Obj) (cls : Value) (d : Option Addr) (pn : List (Addr × Obj)), L2N.Zn cls d oe → (∃ vs, oe.data = .fields vs) → PSs (X.suite a ((a, oe) :: pn)) (b₀ :: suite) (ts a cls d)) (r : HdsN X hds l) :
      HdsN X (.ExceptHandler (some (.Name x np)) (some n) (b₀ :: suite) pos' :: hds) ((c, some i, ts) :: l)
section
variable {X : Cx} {body : List Stmt} {h₀ : ExceptHandler} {hds : List ExceptHandler} {pos : Pos} {tb : WX → TS} {l : List (Value × Option Nat × (Addr → Value → Option Addr → TS))}
theorem ps_try_list (hst : X.stack = X.env :: X.outer) (hfm : X.env.frame = some X.env.locals) (hN : X.N.Nodup)
    (hb : ∀ (W : WX) (pn : List (Addr × Obj)) (xe : Value → Shared → Prop), L2N.Takes (X.tr pn xe) W → PassesOwn (model X.prog X.w) X.A X.env xe → PSs (X.tr pn xe) body (tb W))
    (hh : HdsN X (h₀ :: hds) l) : PS X (.Try body (h₀ :: hds) [] [] pos) (fun D σ H => tb (wList X.K D l) D σ H) := by
  constructor
  intro pins s σ H D I h
  have ok := I.ok
  have frm : X.A.frames = some (X.env :: X.outer) := by rw [ok.frames, hst]
  refine wpAny_Try_except ?_
  have run := (hb (wList X.K D l) (X.pn ++ pins) (fun e z => wpAny (model X.prog X.w) X.A (noteFrame e X.env) (fun _ z => wpAny (model X.prog X.w) X.A (setFlight e none)
    (fun _ z => wpAny (model X.prog X.w) X.A (handleBy e X.env (h₀ :: hds)) (SP X pins D) X.xe z) X.xe z) X.xe z) ?_ PassesOwn.looking).run [] s σ H D (I.toTry _) h
  · refine wpAny_mono run (fun f z hz => ?_) fun e z hz => hz
    match f, hz with
    | .next, ⟨τ, G, J, k⟩ => exact wpAny_execs_nil ⟨τ, G, J.ofTry ok, k⟩
    | .brk, ⟨τ, G, J, k⟩ => exact ⟨τ, G, J.ofTry ok, k⟩
    | .cont, ⟨τ, G, J, k⟩ => exact ⟨τ, G, J.ofTry ok, k⟩
    | .ret u, ⟨v, τ, G, J, r, k⟩ => exact ⟨v, τ, G, J.ofTry ok, r, k⟩
  rintro u z ⟨a, B, sI, pins', τ, G, cls, d, rfl, J0, nb, up, sky, na, os, ag, hw⟩
  have J := J0.ofTry ok
  show wpAny (model X.prog X.w) X.A (noteFrame (.ref a) X.env) _ _ _
  refine L2N.Sky.land L2N.Zn.steady frm hfm (hst ▸ sky) fun g fl ug => ?_
  have J1 : Inv X pins τ G { z with heap := g } := J.landed nb fl.1 (up.trans ug) os ag
  obtain ⟨oe, vs, hoe, hzn, hdt⟩ := fl.there
  have away : a ∉ frs (X.env :: X.outer) := fun hm => by
    obtain ⟨_, o', e', hnf⟩ := fl.2.2.1.mem hm
    rw [hoe] at e'
    cases e'
    exact hnf _ hdt
  have nL : a ≠ X.env.locals := fun k => away (List.mem_filterMap.mpr ⟨X.env, List.mem_cons_self, by rw [hfm, k]⟩)
  have nF : a ∉ X.fs := fun hm => by
    obtain ⟨w0, m0, k0⟩ := List.mem_filterMap.mp hm
    exact away (List.mem_filterMap.mpr ⟨w0, List.mem_cons_of_mem _ m0, k0⟩)
  have S1 := J1.suite hoe hdt na nL nF
  have ty : PySem.W.Looks (model X.prog X.w) g (typeOf (.ref a)) cls := fun A Q E s k q => wpAny_typeOf_ref (k _ _ hoe) (hzn.1.symm ▸ q)
  -- the name of a clause
  have nam : ∀ {x : Str} {c : Value} {p : Pos} (_ : Names X x c) {Q E : Value → Shared → Prop}, Q c { z with heap := g } → wpAny (model X.prog X.w) (X.A.mark (some (.ref a))) (eval (.Name x p) X.env) Q E { z with heap := g } := fun {x c p} hc {Q E} k => by
    obtain ⟨g0, db, hm | ⟨hm, hv, hnn⟩⟩ := hc
    · exact ld_glob (X := X.suite a ((a, oe) :: (X.pn ++ pins))) S1 g0 hm k db
    · exact ld_blt (X := X.suite a ((a, oe) :: (X.pn ++ pins))) S1 g0 hm hv k hnn db
  have go : ∀ {hs : List ExceptHandler} {l : List (Value × Option Nat × (Addr → Value → Option Addr → TS))}, HdsN X hs l → wList X.K D l cls d τ G → wpAny (model X.prog X.w) X.A (handleBy (.ref a) X.env hs) (SP X pins D) X.xe { z with heap := g } := by
    intro hs l hh
    induction hh with
    | nil => intro hw; exact hw.elim
    | bare hc hsu r ih =>
      intro hw
      refine wpAny_handleBy_cons (codeAny_handlers_test ?_) (by intro k; cases k)
      rcases hw with ⟨m1, hq⟩ | ⟨m1, hq⟩
      · have M1 := PySem.W.exm_one (M := model X.prog X.w) J1.kIn ty m1
        refine nam hc (M1.here ?_)
        refine codeAny_handlers_suite ?_
        refine HandSPX.lands_againZ fl fun g2 fl2 ug2 => ?_
        have J2 : Inv X pins τ G { z with heap := g2 } := J.landed nb fl2.1 ((up.trans ug).trans ug2) os ag
        obtain ⟨oe2, vs2, hoe2, hzn2, hdt2⟩ := fl2.there
        refine wpAny_mono ((hsu a oe2 cls d (X.pn ++ pins) hzn2 ⟨_, hdt2⟩).run [] _ _ G _ (J2.suite hoe2 hdt2 na nL nF) (hq a na)) (fun f t ht => ?_) (fun _ _ k => k.elim)
        match f, ht with
        | .next, ⟨τ2, G2, S2, k⟩ => exact ⟨_, _, S2.unsuite ok, k⟩
        | .brk, ⟨τ2, G2, S2, k⟩ => exact ⟨_, _, S2.unsuite ok, k⟩
        | .cont, ⟨τ2, G2, S2, k⟩ => exact ⟨_, _, S2.unsuite ok, k⟩
        | .ret u, ⟨v2, τ2, G2, S2, r2, k⟩ => exact ⟨_, _, _, S2.unsuite ok, r2, k⟩
      · have M1 := PySem.W.exm_one (M := model X.prog X.w) J1.kIn ty m1
        exact nam hc (M1.here (ih hq))
    | @named x n c i np pos' b₀ suite ts hds l hi hln hc hsu r ih =>
      intro hw
      have loc : Loc X.env.scope n := .inl hln
      refine wpAny_handleBy_cons (codeAny_handlers_test ?_) (by intro k; cases k)
      rcases hw with ⟨m1, hq⟩ | ⟨m1, hq⟩
      · have M1 := PySem.W.exm_one (M := model X.prog X.w) J1.kIn ty m1
        refine nam hc (M1.here ?_)
        refine codeAny_handlers_suite_as ?_
        refine HandSPX.lands_againZ fl fun g2 fl2 ug2 => ?_
        have J2 : Inv X pins τ G { z with heap := g2 } := J.landed nb fl2.1 ((up.trans ug).trans ug2) os ag
        obtain ⟨oe2, vs2, hoe2, hzn2, hdt2⟩ := fl2.there
        have S2 := J2.suite hoe2 hdt2 na nL nF
        refine store_ok (X := X.suite a ((a, oe2) :: (X.pn ++ pins))) (v := .ref a) S2 hN hi loc rfl (fun t T2 => ?_) (.inr hln)
        refine wpAny_mono ((hsu a oe2 cls d (X.pn ++ pins) hzn2 ⟨_, hdt2⟩).run [] t _ G _ T2 (hq a na)) (fun f t ht => ?_) (fun _ _ k => k.elim)
        have ends : ∀ {τ2 : L2.St} {G2 : Hp} {Q : Shared → Prop}, Inv (X.suite a ((a, oe2) :: (X.pn ++ pins))) [] τ2 G2 t → (∀ t3, Inv X pins (τ2.set i none) G2 t3 → Q t3) → wpAny (model X.prog X.w) X.A (do bindName X.env n .none; unbindBehindTheSuite X.env n pos') (fun _ t3 => Q t3) X.xe t :=
          fun T3 k => gone_ok (T3.unsuite ok) hN hi hln k
        match f, ht with
        | .next, ⟨τ2, G2, T3, k⟩ => exact ends T3 fun t3 J3 => ⟨_, _, J3, k⟩
        | .brk, ⟨τ2, G2, T3, k⟩ => exact ends T3 fun t3 J3 => ⟨_, _, J3, k⟩
        | .cont, ⟨τ2, G2, T3, k⟩ => exact ends T3 fun t3 J3 => ⟨_, _, J3, k⟩
        | .ret u, ⟨v2, τ2, G2, T3, r2, k⟩ => exact ends T3 fun t3 J3 => ⟨_, _, _, J3, r2, k⟩
      · have M1 := PySem.W.exm_one (M := model X.prog X.w) J1.kIn ty m1
        exact nam hc (M1.here (ih hq))
  exact go hh hw
end
end Bk

/-! t[::-1] of a tuple -/
namespace HT
open PySem PySem.Spec PyProof.Rows
section
variable {prog : Program} {w : World} {A : Around} {E : Value → Shared → Prop} {s : Shared}
theorem places_rev (n : Nat) : Builtin.Slice.slicePlaces ((n : Int) - 1) (-1) (-1) = n := by
  unfold Builtin.Slice.slicePlaces
  have h1 : ¬ ((-1 : Int) > 0) := by omega
  simp only [h1, if_false]
  by_cases h : (n : Int) - 1 > -1
  · have e : ((n : Int) - 1 - -1 - 1) / (- -1) = (n : Int) - 1 := by
      rw [show (- -1 : Int) = 1 by decide, Int.ediv_one]
      omega
    simp only [h, if_true, e]
    omega
  · simp only [h, if_false]
    omega
theorem adjust_rev (n : Nat) : Builtin.Slice.sliceAdjust none none (-1) (n : Int) = ((n : Int) - 1, -1) := by
  unfold Builtin.Slice.sliceAdjust
  rfl
theorem sliceApplied_rev {sl : Addr} {vs : Value} {n : Nat} {Q : Int × Int × Nat → Shared → Prop} (hs : s.heap.IsSliceOf sl .none .none vs) (ps : IsPart vs (some (-1)))
    (h : Q ((n : Int) - 1, -1, n) s) : wpAny (model prog w) A (Builtin.Slice.sliceApplied (.ref sl) (pure (n : Int))) Q E s := by
  obtain ⟨os, hos, hcs, hds⟩ := id hs
  unfold Builtin.Slice.sliceApplied Builtin.Slice.sliceFields
  refine wpAny_bind (wpAny_bind (wpAny_field hos hds (x := .none) rfl (wpAny_bind (wpAny_field hos hds (x := .none) rfl (wpAny_bind (wpAny_field hos hds (x := vs) rfl (wpAny_pure ?_)))))))
  refine wpAny_bind (slicePart_ ps ?_)
  show wpAny _ _ (if (((-1) : Int) == 0) = true then _ else _) _ _ s
  rw [if_neg (by decide)]
  refine wpAny_bind (slicePart_ .none (wpAny_bind (slicePart_ .none (wpAny_bind (wpAny_pure ?_)))))
  show wpAny _ _ (match Builtin.Slice.sliceAdjust none none (-1) (n : Int) with | (lo, hi) => pure (lo, (-1 : Int), Builtin.Slice.slicePlaces lo hi (-1))) _ _ s
  rw [adjust_rev]
  show wpAny _ _ (pure ((n : Int) - 1, (-1 : Int), Builtin.Slice.slicePlaces ((n : Int) - 1) (-1) (-1))) _ _ s
  rw [places_rev]
  exact wpAny_pure h
theorem pick_rev (xs : Array Value) : ((List.range xs.size).filterMap fun (m : Nat) => xs[((xs.size : Int) - 1 + (m : Int) * -1).toNat]?).toArray = xs.toList.reverse.toArray := by
  have e : (List.range xs.size).filterMap (fun (m : Nat) => xs[((xs.size : Int) - 1 + (m : Int) * -1).toNat]?) = ((List.range xs.size).map fun k => xs.size - 1 - k).filterMap (xs[·]?) := by
    rw [List.filterMap_map]
    congr 1
    funext m
    show xs[((xs.size : Int) - 1 + (m : Int) * -1).toNat]? = xs[xs.size - 1 - m]?
    congr 1
    omega
  rw [e, PySem.W.krv_range, List.filterMap_reverse, PySem.W.krv_all]
theorem getItem_tuple_rev {t sl : Addr} {items : Array Value} {vs : Value} {Q : Value → Shared → Prop} (ht : IsTup s.heap t items) (hs : s.heap.IsSliceOf sl .none .none vs) (ps : IsPart vs (some (-1)))
    (h : Q (.ref s.heap.objs.size) { s with heap := s.heap.push { cls := .type "tuple", data := .seq items.toList.reverse.toArray } })
    (hsz : items.size ≤ sizeLine) : wpAny (model prog w) A (getItem (.ref t) (.ref sl)) Q E s := by
  have htake : sizeOk (.seq items.toList.reverse.toArray) := by
    show items.toList.reverse.toArray.size ≤ sizeLine
    rw [List.size_toArray, List.length_reverse, Array.length_toList]
    exact hsz
  obtain ⟨os, hos, hcs, hds⟩ := id hs
  have hTs : s.TypeIs (.ref sl) "slice" := ⟨os, hos, hcs⟩
  unfold getItem
  try with_reducible refine wpAny_holding ?_
  first | refine wpAny_bind (wpAny_pure ?_) | skip
  refine wpAny_bind (wpAny_sequenceKey ht.typeIs (by decide) ?_)
  refine wpAny_bind (wpAny_callSpecial?_slot (name := Str.ofString "__getitem__") ht.typeIs PyProof.Rows.slot_tuple_getitem
    (wpAny_call_entry PyProof.Rows.slot_tuple_getitem ht.typeIs entry_tuple_getitem ?_ (args_tuple_getitem _ _)))
  show wpAny _ _ (Builtin.Tuple.tupleItemsOf (.ref t) >>= _) _ _ s
  refine wpAny_bind (tupleItemsOf_ ht ?_)
  refine wpAny_bind (wpAny_typeOf hTs ?_)
  rw [if_pos (by decide)]
  refine wpAny_bind (sliceApplied_rev hs ps ?_)
  have hno : ¬ ((((items.size : Int) - 1 == 0) && ((-1 : Int) == 1) && (items.size == items.size)) = true) := by
    intro q
    rw [Bool.and_eq_true, Bool.and_eq_true] at q
    have := q.1.2
    revert this
    decide
  show wpAny _ _ (if (((items.size : Int) - 1 == 0) && ((-1 : Int) == 1) && (items.size == items.size)) = true then _ else _) _ _ s
  rw [if_neg hno, pick_rev]
  first
    | exact wpAny_bind (m := Builtin.Tuple.tupleExact _) (wpAny_newObj_type (wpAny_pure ⟨_, rfl, wpAny_pure h⟩) htake)
    | exact wpAny_bind (m := Builtin.Tuple.tupleExact _) (wpAny_newObj_type (wpAny_bind (wpAny_pure (wpAny_pure ⟨_, rfl, wpAny_pure h⟩))) htake)
    | exact wpAny_bind (wpAny_bind (m := Builtin.Tuple.tupleExact _) (wpAny_newObj_type (wpAny_pure (wpAny_pure ⟨_, rfl, wpAny_pure h⟩)) htake))
    | exact wpAny_bind (wpAny_bind (m := Builtin.Tuple.tupleExact _) (wpAny_newObj_type (wpAny_pure ⟨_, rfl, wpAny_pure h⟩) htake))
end
end HT
namespace L2
open PySem PySem.Spec PyProof.Rows
section
variable {X : Cx}
def tRevT (K : PySem.W.Frag) (te : TE) : TE := fun σ H Q => te σ H fun x H1 => ∃ a xs, x = .ref a ∧ SqT K H1 a xs ∧ ∀ p, H1 p = none → Q (.ref p) (upd H1 p (.tup xs.reverse))
theorem pe_revT {e : Expr} {te : TE} {k : Nat} {p1 p2 p3 pos : Pos} (he : PE X e te) : PE X (.Subscript e (.Slice none none (some (.UnaryOp .USub (.Constant (.int 1) k p1) p2)) p3) pos) (tRevT X.K te) := by
  refine ⟨fun pins s σ H Q I h => ?_⟩
  refine Subscript_ (thn (he.run pins s σ H _ I h) fun v s1 ⟨x, H1, I1, r1, q1⟩ => ?_)
  obtain ⟨a, xs, ex, hx, q⟩ := q1
  subst ex
  cases r1
  have hst : PO X (some (.UnaryOp .USub (.Constant (.int 1) k p1) p2)) (tPart (tUn (rU fun i => .int (-i)) (tC (.int 1)))) := po_some (pe_un un_neg pe_int)
  refine wpAny_Slice (thn (po_none.run pins s1 σ H1 (fun o H2 => o = none ∧ H2 = H1) I1 ⟨rfl, rfl⟩) fun vl s2 ⟨l, H2, I2, pl, el, e2⟩ => ?_)
  subst el e2
  refine thn (po_none.run pins s2 σ H2 (fun o H3 => o = none ∧ H3 = H2) I2 ⟨rfl, rfl⟩) fun vu s3 ⟨u, H3, I3, pu, eu, e3⟩ => ?_
  subst eu e3
  refine thn (hst.run pins s3 σ H3 (fun o H4 => o = some (-1) ∧ H4 = H3) I3 ⟨1, rfl, -1, rfl, rfl, rfl⟩) fun vs s4 ⟨o, H4, I4, ps, eo, e4⟩ => ?_
  subst eo e4
  have I5 : Inv X pins σ H4 { s4 with heap := s4.heap.push { cls := .type "slice", data := .fields #[vl, vu, vs] } } := I4.kept (t' := s4.toks) fun b ob q => Heap.get?_push_of_some _ q
  obtain ⟨its, r, ht, hz⟩ := I5.tuple hx
  have hlen := r.length
  show wpAny (model X.prog X.w) X.A (subscriptTail e (.Slice none none (some (.UnaryOp .USub (.Constant (.int 1) k p1) p2)) p3) (.ref a) (.ref s4.heap.objs.size)) (EP X pins σ Q) X.xe { s4 with heap := s4.heap.push { cls := .type "slice", data := .fields #[vl, vu, vs] } }
  refine tail_any (ops := [.ref a, .ref s4.heap.objs.size]) ht.typeIs (PyProof.Rows.slot_tuple_getitem.lookup) ?_ (by with_unfolding_all rfl)
  cases pl
  cases pu
  refine HT.getItem_tuple_rev ht (Heap.IsSliceOf.new _ .none .none vs) ps ?_ (by rw [List.size_toArray]; omega)
  refine ⟨.ref _, _, I5.laid (t' := s4.toks) (o := .tup xs.reverse) (fun b ob q => Heap.get?_push_of_some _ q) (Nat.le_refl _) ?_, rfl, q _ (I5.hok.fresh (Nat.le_refl _))⟩
  exact ⟨by rw [List.length_reverse]; exact hz, _, r.reverse, IsTup.new _ _⟩
end
end L2

namespace Bk
open PySem PySem.Spec PyProof.Rows L2 LamX NdefX
section
variable {P : Program} {w : World} {K : PySem.W.Frag} {mg : Str → Option Value} {base : Heap}
/-- as Fun.ok, for a def whose code object's address is known -/
theorem Fun.okC {x qual : Str} {st : Stmt} {f c : Addr} {fd : FuncData} {N ps : List Str} {k : Nat} {sp : Sp} (F : Fun K x qual st f fd) (hc : fd.code = .ref c) (S : FnScope N ps (defScope st)) (len : ∀ vs H Q E, sp vs H Q E → vs.length = ps.length)
    (hbody : ∀ (A : Around) (outer : List Env) (s : Shared) (H : Hp) (vs : List V) (Q : VK) (E : XK), Room k (A.deeper (envOfC qual (defScope st) s.heap.objs.size f (.ref c))) → sp vs H Q E →
      ∃ t, PSs (cxOf CX0 P w K mg base N qual (defScope st) f (.ref c) A outer s H E).nox (defBody st) t ∧ t { nx := fun _ H' => Q .non H', rt := Q } (L2.start N vs) H) : FnOk P w K mg base CX0 (k + 1) f fd ps sp := by
  obtain ⟨oc, od, kV, doc, pm, an, cdv, ct, osl, rfl, lk, hcd⟩ := F.ex
  obtain rfl : cdv = .ref c := hc
  refine fn_of lk hcd S len fun A outer s H vs Q E hr hsp => ?_
  obtain ⟨t, h, q⟩ := hbody A outer s H vs Q E hr hsp
  exact ⟨t, h.nox, q⟩
/-- one value by place, one by its name -/
theorem Fun.bindK {x qual : Str} {st : Stmt} {f : Addr} {fd : FuncData} {ps : List Str} {kn : Str} (F : Fun K x qual st f fd)
    (h : ∀ (kV doc pm : Value) (an : Option Addr) (cdv ct a v : Value), bindArgs (PySem.W.fnOf x qual (defArgs st) (defBody st) (defScope st) .none kV doc pm an cdv ct) ⟨[a], [(kn, v)]⟩ = pure (ps.zip [a, v])) :
    ∀ (s : Shared) (a v : Value), K.In s.heap → BindsTo s fd ⟨[a], [(kn, v)]⟩ (ps.zip [a, v]) := by
  obtain ⟨oc, od, kV, doc, pm, an, cdv, ct, osl, rfl, lk, hcd⟩ := F.ex
  exact fun s a v _ => BindsTo.of_looks fun M => PySem.W.Looks.of_pure (h kV doc pm an cdv ct a v)
/-- an own error class with one field: what its making and its instances ask -/
def ErrF (P : Program) (w : World) (K : PySem.W.Frag) (mg : Str → Option Value) (base : Heap) (x f : Str) (C : Addr) : Prop := ∃ (fI : Addr) (fd : FuncData), ExT K mg x C fI f ∧ ExcC K C ∧ FnOk P w K mg base CX0 1 fI fd ["self", f] (spExcInit C f) ∧ Binds K fd ["self", f] [] ∧
  ∀ (s : Shared) (a v : Value), K.In s.heap → BindsTo s fd ⟨[a], [(f, v)]⟩ (([("self" : Str), f] : List Str).zip [a, v])
/-- a lambda that reads a field -/
def spFld (K : PySem.W.Frag) (C : Addr) (f : Str) : Sp := fun vs H Q _ => ∃ (a d : Addr) (v : V), vs = [.ref a] ∧ H a = some (exo a C (some d)) ∧ H d = some (exd d [(f, v)]) ∧ Q v H
theorem lok_fld {q : Str} {params : Arguments} {scope : Scope} {c' fl C : Addr} {pn f : Str} {p1 p2 : Pos} (T : XfC K C) (hno : PySem.W.findIn K (.ref C) f = some none) (S : nscB [pn] [pn] [] scope = true)
    (hb : ∀ (pm ctv : Value) (us : List Value), us.length = [pn].length → bindArgs (PySem.W.kla_fn "<lambda>" q params (.Attribute (.Name pn p1) f p2) scope [] pm (.ref c') ctv) ⟨us, []⟩ = pure ([pn].zip us))
    (hd : (pn == ("__debug__" : Str)) = false) (hcd : (pn == ("__classdict__" : Str)) = false)
    (hab : ∀ env : Env, attributeBase (.Name pn p1) f env (eval (.Name pn p1) env) = eval (.Name pn p1) env) : LOk P w K mg base CX0 1 fl ⟨q, params, .Attribute (.Name pn p1) f p2, scope, [], c'⟩ (spFld K C f) := by
  have S := nscope_by S
  refine lok_of (k := 0) (N := [pn]) (ps := [pn]) S rfl hb (fun vs H Q E h => ?_) fun A outer s H vs Q E hr h => ?_
  · obtain ⟨a, d, v, rfl, _⟩ := h
    rfl
  · obtain ⟨a, d, v, rfl, ha, hdd, hq⟩ := h
    have vis : Vis scope pn := .inl (S.par pn List.mem_cons_self)
    refine ⟨_, pe_xfV (K := K) rfl (pe_var (i := 0) rfl vis hd hcd) (hab _), ?_⟩
    exact ⟨.ref a, rfl, a, C, d, _, v, rfl, ha, hdd, T, hno, by simp [List.lookup], hq⟩
/-- the call of a kept lambda, all told -/
theorem pe_callLk {X : Cx} {CX : CXT} {i j k : Nat} {x : Str} {E : XK} {t : TA} {e : Expr} {es : List Expr} {p pos : Pos} (hr : Room j X.A) (hk : k ≤ j) (hx : Passes CX X E) (hN : X.N[i]? = some x) (hv : Vis X.env.scope x) (ha : PA X (e :: es) t)
    (e1 : X.prog = P := by rfl) (e2 : X.w = w := by rfl) (e3 : X.K = K := by rfl) (e4 : X.mg = mg := by rfl) (e5 : X.base = base := by rfl) (hd : (x == ("__debug__" : Str)) = false := by decide) (hcd : (x == ("__classdict__" : Str)) = false := by decide)
    (he : starEach (e :: es) X.env = (false, eval e X.env) :: starEach es X.env := by rfl) (hpl : (backTo pos (starEach es X.env)).any (·.1) = false := by rfl) : PE X (.Call (.Name x p) (e :: es) [] pos) (tCallL P w K mg base CX k i E t) := by
  subst e1 e2 e3 e4 e5
  exact pe_callL hr hk hx hN hv ha hd hcd he hpl
/-! ### a triple: the error by place, by name, what reads its field -/
theorem exd_tbl {e : Addr} {fs : List (Str × V)} {ps : Array Value} : exd e fs ≠ .tbl ps := fun z => by
  have z' : HO.ext _ = HO.tbl ps := z
  cases z'
def Trip (P : Program) (w : World) (K : PySem.W.Frag) (mg : Str → Option Value) (base : Heap) (H : Hp) (C : Addr) (f : Str) (x v : V) : Prop := ∃ (t a1 d1 a2 d2 fl : Addr) (F : LF), v = .ref t ∧ H t = some (.tup [.ref a1, .ref a2, .ref fl]) ∧ H a1 = some (exo a1 C (some d1)) ∧ H d1 = some (exd d1 [(f, x)]) ∧
  H a2 = some (exo a2 C (some d2)) ∧ H d2 = some (exd d2 [(f, x)]) ∧ H fl = some (LamO fl F) ∧ H F.c = some (CodeO F.c F.qual) ∧ LOk P w K mg base CX0 1 fl F (spFld K C f)
theorem Trip.extN {H H' : Hp} {C : Addr} {f : Str} {x v : V} (h : Trip P w K mg base H C f x v) (e : ExtN H H') : Trip P w K mg base H' C f x v := by
  obtain ⟨t, a1, d1, a2, d2, fl, F, hv, ht, h1, h2, h3, h4, h5, h6, L⟩ := h
  exact ⟨t, a1, d1, a2, d2, fl, F, hv, e _ _ ht (fun _ z => nomatch z), e _ _ h1 (fun _ => exo_tbl), e _ _ h2 (fun _ => exd_tbl), e _ _ h3 (fun _ => exo_tbl), e _ _ h4 (fun _ => exd_tbl), e _ _ h5 lamO_ne, e _ _ h6 codeO_ne, L⟩
theorem Trip.updL {H : Hp} {C D : Addr} {f : Str} {x v : V} {l : List V} {o : HO} (h : Trip P w K mg base H C f x v) (hD : H D = some (.lst l)) : Trip P w K mg base (upd H D o) C f x v := by
  obtain ⟨t, a1, d1, a2, d2, fl, F, hv, ht, h1, h2, h3, h4, h5, h6, L⟩ := h
  have k : ∀ {b : Addr} {u : HO}, H b = some u → u ≠ .lst l → upd H D o b = some u := fun hb n => by
    rw [upd_ne (ne_of hb hD n)]
    exact hb
  have nx : ∀ (φ : Heap → Prop), HO.ext φ ≠ HO.lst l := fun φ z => nomatch z
  exact ⟨t, a1, d1, a2, d2, fl, F, hv, k ht (fun z => nomatch z), k h1 (nx _), k h2 (nx _), k h3 (nx _), k h4 (nx _), k h5 (nx _), k h6 (nx _), L⟩
theorem same_exc {H : Hp} {a dx : Addr} {u v z : HO} (na : H a = none) (nd : upd H a u dx = none) (ne : dx ≠ a) : Same H (upd (upd (upd H a u) dx v) a z) := fun b o e => by
  have nb : b ≠ a := ne_of_none e na
  have nd' : H dx = none := by rw [upd_ne ne] at nd; exact nd
  rw [upd_ne nb, upd_ne (ne_of_none e nd'), upd_ne nb]
  exact e
theorem TabS.updL {H : Hp} {D P0 : Addr} {q : Str} {l : List V} {o : HO} (t : TabS H P0 q) (hD : H D = some (.lst l)) : TabS (upd H D o) P0 q := by
  obtain ⟨ps, h1, h2, h3⟩ := t
  refine ⟨ps, by rw [upd_ne (ne_of h1 hD (fun z => nomatch z))]; exact h1, h2, fun pos cv hc => ?_⟩
  obtain ⟨c, e1, e2⟩ := h3 pos cv hc
  refine ⟨c, e1, ?_⟩
  have nx : CodeO c q ≠ HO.lst l := fun z => by
    unfold CodeO at z
    cases z
  rw [upd_ne (ne_of e2 hD nx)]
  exact e2
theorem Tabs.updL {T : List (Addr × Str)} {H : Hp} {D : Addr} {l : List V} {o : HO} (t : Tabs T H) (hD : H D = some (.lst l)) : Tabs T (upd H D o) := fun p hp => Bk.TabS.updL (t p hp) hD
theorem trip {T : List (Addr × Str)} {mk : Addr → LF} {σ : L2.St} {H : Hp} {Q : VK} {C : Addr} {f : Str} {x : V} (hx : σ[0]? = some (some x)) (hT : Tabs T H) (hc : ∀ c', (mk c').c = c') (hL : ∀ fl c', LOk P w K mg base CX0 1 fl (mk c') (spFld K C f))
    (q : ∀ v H', ExtM H H' → Tabs T H' → Trip P w K mg base H' C f x v → Q v H') :
    tTup (tCons (tOexV C (spExcInit C f) (tCons (tVar 0) tNil)) (tCons (tOexK C (spExcInit C f) (tCons (tVar 0) tNil)) (tCons (tLamV T mk) tNil))) σ H Q := by
  refine ⟨x, hx, by show 1 ≤ 1000; decide, fun a1 n1 => ⟨a1, x, rfl, upd_same, fun d1 m1 k1 => ⟨rfl, ?_⟩⟩⟩
  have e1 := same_exc (u := exo a1 C none) (v := exd d1 [(f, x)]) (z := exo a1 C (some d1)) n1 m1 k1
  have f1 : (upd (upd (upd H a1 (exo a1 C none)) d1 (exd d1 [(f, x)])) a1 (exo a1 C (some d1))) a1 = some (exo a1 C (some d1)) := upd_same
  have g1 : (upd (upd (upd H a1 (exo a1 C none)) d1 (exd d1 [(f, x)])) a1 (exo a1 C (some d1))) d1 = some (exd d1 [(f, x)]) := by rw [upd_ne k1]; exact upd_same
  generalize upd (upd (upd H a1 (exo a1 C none)) d1 (exd d1 [(f, x)])) a1 (exo a1 C (some d1)) = H1 at e1 f1 g1 ⊢
  refine ⟨x, hx, rfl, fun a2 n2 => ⟨a2, x, rfl, upd_same, fun d2 m2 k2 => ⟨rfl, ?_⟩⟩⟩
  have e2 := same_exc (u := exo a2 C none) (v := exd d2 [(f, x)]) (z := exo a2 C (some d2)) n2 m2 k2
  have f2 : (upd (upd (upd H1 a2 (exo a2 C none)) d2 (exd d2 [(f, x)])) a2 (exo a2 C (some d2))) a2 = some (exo a2 C (some d2)) := upd_same
  have g2 : (upd (upd (upd H1 a2 (exo a2 C none)) d2 (exd d2 [(f, x)])) a2 (exo a2 C (some d2))) d2 = some (exd d2 [(f, x)]) := by rw [upd_ne k2]; exact upd_same
  generalize upd (upd (upd H1 a2 (exo a2 C none)) d2 (exd d2 [(f, x)])) a2 (exo a2 C (some d2)) = H2 at e2 f2 g2 ⊢
  have e02 := Same.trans e1 e2
  refine ⟨hT.ext e02, fun fl c' H3 e3 t3 nf l3 c3 => ⟨by show 3 ≤ sizeLine; decide, fun t nt => ?_⟩⟩
  have et := same_upd (o := HO.tup [V.ref a1, V.ref a2, V.ref fl]) nt
  have k : ∀ {b : Addr} {u : HO}, H2 b = some u → (∀ ps, u ≠ .tbl ps) → upd H3 t (HO.tup [V.ref a1, V.ref a2, V.ref fl]) b = some u := fun hb n => et _ _ (e3.ext _ _ hb n)
  refine q _ _ (((ExtM.of e02).trans e3).trans (ExtM.of et)) (t3.ext et) ⟨t, a1, d1, a2, d2, fl, mk c', rfl, upd_same, k (e2 _ _ f1) (fun _ => exo_tbl), k (e2 _ _ g1) (fun _ => exd_tbl), k f2 (fun _ => exo_tbl), k g2 (fun _ => exd_tbl), et _ _ l3, et _ _ ?_, hL fl c'⟩
  rw [hc c']
  exact c3
/-- .. at the head of a list -/
theorem tripL {T : List (Addr × Str)} {mk : Addr → LF} {σ : L2.St} {H : Hp} {Q : VK} {C : Addr} {f : Str} {x : V} {ta : TA} (hx : σ[0]? = some (some x)) (hT : Tabs T H) (hc : ∀ c', (mk c').c = c') (hL : ∀ fl c', LOk P w K mg base CX0 1 fl (mk c') (spFld K C f))
    (q : ∀ v H', ExtM H H' → Tabs T H' → Trip P w K mg base H' C f x v → ta σ H' fun vs H2 => (v :: vs).length ≤ sizeLine ∧ ∀ l, H2 l = none → Q (.ref l) (upd H2 l (.lst (v :: vs)))) :
    tLst (tCons (tTup (tCons (tOexV C (spExcInit C f) (tCons (tVar 0) tNil)) (tCons (tOexK C (spExcInit C f) (tCons (tVar 0) tNil)) (tCons (tLamV T mk) tNil)))) ta) σ H Q := trip hx hT hc hL q
end
end Bk

namespace Bk
open PySem PySem.Spec PyProof.Rows L2
/-- a house whose names are told by a tuple -/
structure HouseTp (C : Addr) (H : Hp) (st c nl x D : Addr) (zs : List Str) (ch : Bool) (ws : List V) : Prop where
  n1 : nl ≠ st
  n2 : nl ≠ c
  d1 : D ≠ st
  d2 : D ≠ c
  nm : H nl = some (.tup (zs.map V.str))
  fo : FoldersAt C H x zs ch
  ld : H D = some (.lst ws)
  at_ : Ats H (fun l : List Str => l.map V.str) ws (lotsFor ch zs)
  pos : 0 < zs.length
  le : zs.length ≤ mostFor ch
  nd : zs.Nodup
  ok : ∀ z ∈ zs, isNameS z = true
theorem HouseTp.same {C : Addr} {H H' : Hp} {st c nl x D : Addr} {zs : List Str} {ch : Bool} {ws : List V} (h : HouseTp C H st c nl x D zs ch ws) (e : Same H H') : HouseTp C H' st c nl x D zs ch ws :=
  ⟨h.n1, h.n2, h.d1, h.d2, e _ _ h.nm, h.fo.same e, e _ _ h.ld, h.at_.same e, h.pos, h.le, h.nd, h.ok⟩
theorem HouseTp.kept {C : Addr} {H H' : Hp} {st c nl x D : Addr} {n : Nat} {zs : List Str} {ch : Bool} {ws : List V} (h : HouseTp C H st c nl x D zs ch ws) (S : Strm H st c n) (k : Kept st c H H') : HouseTp C H' st c nl x D zs ch ws :=
  ⟨h.n1, h.n2, h.d1, h.d2, k _ _ h.n1 h.n2 h.nm, h.fo.kept S k, k _ _ h.d1 h.d2 h.ld, h.at_.kept S k, h.pos, h.le, h.nd, h.ok⟩
theorem pk_tup {K : PySem.W.Frag} {H : Hp} {st c a : Addr} {xs : List V} (h : SqT K H a xs) (n1 : a ≠ st) (n2 : a ≠ c) : Pk K H st c (.ref a) xs.length (fun j => xs.getD j .non) :=
  .tup h n1 n2 fun j hj => by rw [List.getD_eq_getElem?_getD, List.getElem?_eq_getElem hj]; rfl
end Bk

/-! answers of stores: sums of stores, sums of questions, the whole -/
namespace Bk
open PySem PySem.Spec PyProof.Rows L2
theorem tabsK {H H' : Hp} {st c : Addr} {n : Nat} {T : List (Addr × Str)} (t : LamX.Tabs T H) (S : Strm H st c n) (k : Kept st c H H') : LamX.Tabs T H' := fun p hp => by
  obtain ⟨ps, h1, h2, h3⟩ := t p hp
  refine ⟨ps, S.hold k h1 (fun _ z => nomatch z), h2, fun pos cv hc => ?_⟩
  obtain ⟨a, e1, e2⟩ := h3 pos cv hc
  exact ⟨a, e1, S.hold k e2 (fun l z => by
    unfold LamX.CodeO at z
    cases z)⟩
section
open LamX
variable {H H' : Hp} {K : PySem.W.Frag} {C CQ CS st c t D : Addr} {n : Nat} {zs : List Str} {ch : Bool}
theorem xFold {x : Addr} (h : FoldersAt C H x zs ch) (e : ExtN H H') : FoldersAt C H' x zs ch := by
  obtain ⟨dx, t, pd, h1, h2, h3⟩ := h
  exact ⟨dx, t, pd, e _ _ h1 (fun _ z => nomatch z), e _ _ h2 (fun _ z => nomatch z), e _ _ h3 (fun _ z => nomatch z)⟩
theorem xStrm (h : Strm H st c n) (e : ExtN H H') : Strm H' st c n := by
  obtain ⟨ne, cells, a, k, m, h1, h2, h3⟩ := h
  exact ⟨ne, cells, a, k, m, e _ _ h1 (fun _ z => nomatch z), e _ _ h2 (fun _ z => nomatch z), h3⟩
theorem xFr {v : V} {q : Rat} (h : FrV K H v q) (e : ExtN H H') : FrV K H' v q := by
  obtain ⟨a, rfl, (h | ⟨o, h⟩) | h⟩ := h
  · exact ⟨a, rfl, .inl (.inl (e _ _ h (fun _ z => nomatch z)))⟩
  · exact ⟨a, rfl, .inl (.inr ⟨o, e _ _ h (fun _ z => nomatch z)⟩)⟩
  · exact ⟨a, rfl, .inr h⟩
theorem xStore {s x : Addr} {sz : List Str → Rat} (h : StoreAt K C CS H s x zs ch sz) (e : ExtN H H') : StoreAt K C CS H' s x zs ch sz := by
  obtain ⟨ds, td, tb, h1, h2, h3, h4⟩ := h
  exact ⟨ds, td, tb, e _ _ h1 (fun _ z => nomatch z), xFold h2 e, e _ _ h3 (fun _ z => nomatch z), Paired.mono (fun _ _ ⟨a, b⟩ => ⟨a, xFr b e⟩) h4⟩
theorem xHouse {x : Addr} {ws : List V} (h : HouseTp C H st c t x D zs ch ws) (e : ExtN H H') : HouseTp C H' st c t x D zs ch ws :=
  ⟨h.n1, h.n2, h.d1, h.d2, e _ _ h.nm (fun _ z => nomatch z), xFold h.fo e, e _ _ h.ld (fun _ z => nomatch z), ⟨h.at_.1, fun i v l h1 h2 => by
    obtain ⟨b, e1, e2⟩ := h.at_.2 i v l h1 h2
    exact ⟨b, e1, e _ _ e2 (fun _ z => nomatch z)⟩⟩, h.pos, h.le, h.nd, h.ok⟩
end/-- folders unlike those of zs and ch -/
structure Away (C : Addr) (zs : List Str) (ch : Bool) (H : Hp) (u : V) (p : List Str × Bool) : Prop where
  at_ : ∃ y, u = .ref y ∧ FoldersAt C H y p.1 p.2
  nd : p.1.Nodup
  le : p.1.length ≤ mostFor p.2
  nm : ∀ z ∈ p.1, isNameS z = true
  un : (decide (zs = p.1) && decide (ch = p.2)) = false
theorem stays_away {C : Addr} {zs : List Str} {ch : Bool} : Stays (Away C zs ch) := ⟨fun H1 H2 u l e h => ⟨by
  obtain ⟨y, rfl, h1⟩ := h.at_
  exact ⟨y, rfl, h1.same e⟩, h.nd, h.le, h.nm, h.un⟩, fun H1 D as bs u l hD h => ⟨by
  obtain ⟨y, rfl, dx, t, pd, h1, h2, h3⟩ := h.at_
  exact ⟨y, rfl, dx, t, pd, by rw [upd_ne (ne_of h1 hD (fun z => nomatch z))]; exact h1, by rw [upd_ne (ne_of h2 hD (fun z => nomatch z))]; exact h2, by rw [upd_ne (ne_of h3 hD (fun z => nomatch z))]; exact h3⟩, h.nd, h.le, h.nm, h.un⟩⟩
theorem xAway {C : Addr} {zs : List Str} {ch : Bool} {H H' : Hp} {u : V} {p : List Str × Bool} (h : Away C zs ch H u p) (e : LamX.ExtN H H') : Away C zs ch H' u p := ⟨by
  obtain ⟨y, rfl, h1⟩ := h.at_
  exact ⟨y, rfl, xFold h1 e⟩, h.nd, h.le, h.nm, h.un⟩
theorem fold_add : ∀ (ls : List (List Str)) (f g : List Str → Rat) (a b : Rat), (ls.map fun l => f l + g l).foldl (fun a b => a + b) (a + b) = (ls.map f).foldl (fun a b => a + b) a + (ls.map g).foldl (fun a b => a + b) b
  | [], _, _, _, _ => rfl
  | l :: r, f, g, a, b => by
    rw [List.map_cons, List.map_cons, List.map_cons, List.foldl_cons, List.foldl_cons, List.foldl_cons, ← fold_add r f g]
    congr 1
    rw [Rat.add_assoc, Rat.add_assoc, ← Rat.add_assoc b, Rat.add_comm b (f l), Rat.add_assoc]
/-- two stores put together answer with the sum -/
theorem ans_both (ls : List (List Str)) (a b : List Str → Rat) (f : List Str → Int) : ansQ ls (fun l => a l + b l) f = ansQ ls a f + ansQ ls b f := by
  unfold ansQ sumQ
  have h := fold_add ls (fun l => a l * ((f l : Int) : Rat)) (fun l => b l * ((f l : Int) : Rat)) 0 0
  rw [Rat.add_zero] at h
  rw [← h]
  congr 1
  exact List.map_congr_left fun l _ => Rat.add_mul _ _ _
/-- a question taken twice is as a store taken twice -/
theorem ans_two (ls : List (List Str)) (sz : List Str → Rat) (f : List Str → Int) : ansQ ls sz (fun l => f l + 1 * f l) = ansQ ls (fun l => sz l * ((2 : Int) : Rat)) f := by
  unfold ansQ
  congr 1
  refine List.map_congr_left fun l _ => ?_
  have e : f l + 1 * f l = 2 * f l := by omega
  show sz l * (((f l + 1 * f l : Int)) : Rat) = sz l * ((2 : Int) : Rat) * ((f l : Int) : Rat)
  rw [e, Rat.intCast_mul, Rat.mul_assoc]
theorem ans_like {ls : List (List Str)} {sz : List Str → Rat} {f g : List Str → Int} (h : ∀ l ∈ ls, f l = g l) : ansQ ls sz f = ansQ ls sz g := by
  unfold ansQ
  congr 1
  exact List.map_congr_left fun l m => by rw [h l m]
theorem rev_unlike {α : Type} {zs : List α} (nd : zs.Nodup) (h : 1 < zs.length) : zs ≠ zs.reverse := by
  intro e
  have h0 : 0 < zs.length := by omega
  have h1 : zs[0]? = zs.reverse[0]? := by rw [← e]
  rw [List.getElem?_reverse (by omega)] at h1
  have := (List.getElem?_inj h0 nd).mp h1
  omega
theorem look_total (x td : Addr) : (questF x td).lookup ("total" : Str) = none := by
  have h1 : (("total" : Str) == ("folders" : Str)) = false := by decide +kernel
  have h2 : (("total" : Str) == ("table" : Str)) = false := by decide +kernel
  show List.lookup ("total" : Str) [(("folders" : Str), V.ref x), ("table", .ref td)] = _
  simp [List.lookup, h1, h2]
theorem Fit.tail1 {zs : List Str} {m : Nat} {s : Str} (h : Fit zs m) (hs : isNameS s = true) (hn : s ∉ zs) : Fit (zs.drop 1 ++ [s]) m := by
  obtain ⟨h1, h2⟩ := h.snoc hs hn
  have hp := h.pos
  have sl : (zs.drop 1 ++ [s]).Sublist (zs ++ [s]) := (List.drop_sublist 1 zs).append (List.Sublist.refl _)
  refine ⟨fun e => ?_, ?_, fun z mz => h1 z (sl.subset mz), h2.sublist sl⟩
  · have := congrArg List.length e
    rw [List.length_append] at this
    cases this
  · rw [List.length_append, List.length_drop]
    have := h.len
    show zs.length - 1 + 1 ≤ m
    omega
theorem Fit.more1 {zs : List Str} {m m' : Nat} {s : Str} (h : Fit zs m) (hs : isNameS s = true) (hn : s ∉ zs) (hm : zs.length < m') : Fit (zs ++ [s]) m' := by
  obtain ⟨h1, h2⟩ := h.snoc hs hn
  refine ⟨fun e => ?_, ?_, h1, h2⟩
  · have := congrArg List.length e
    rw [List.length_append] at this
    cases this
  · rw [List.length_append]
    show zs.length + 1 ≤ m'
    omega
theorem un_ne {zs ys : List Str} {a b : Bool} (h : zs ≠ ys) : (decide (zs = ys) && decide (a = b)) = false := by rw [decide_eq_false h, Bool.false_and]
theorem un_in {zs ys : List Str} {a b : Bool} {z : Str} (h : z ∉ zs) (m : z ∈ ys) : (decide (zs = ys) && decide (a = b)) = false := un_ne fun e => h (e ▸ m)
theorem un_not {zs ys : List Str} {a : Bool} : (decide (zs = ys) && decide (a = !a)) = false := by
  rw [show decide (a = !a) = false by cases a <;> rfl, Bool.and_false]
end Bk

/-! readings, opened from without -/
namespace Bk
open PySem PySem.Spec PyProof.Rows L2
theorem tasg_go {ta : TE} {g : TG} {Dd : Ends} {σ : L2.St} {H : Hp} (h : ta σ H fun x H1 => g x σ H1 Dd.nx) : tAsg ta g Dd σ H := h
theorem tlst_go {ts : TA} {σ : L2.St} {H : Hp} {R : VK} (h : ts σ H fun xs H1 => xs.length ≤ sizeLine ∧ ∀ p, H1 p = none → R (.ref p) (upd H1 p (.lst xs))) : tLst ts σ H R := h
theorem ttup_go {ts : TA} {σ : L2.St} {H : Hp} {R : VK} (h : ts σ H fun xs H1 => xs.length ≤ sizeLine ∧ ∀ p, H1 p = none → R (.ref p) (upd H1 p (.tup xs))) : tTup ts σ H R := h
theorem top_go {r : R2} {ta tb : TE} {σ : L2.St} {H : Hp} {R : VK} (h : ta σ H fun x H1 => tb σ H1 fun y H2 => r x y H2 R) : tOp r ta tb σ H R := h
theorem tifn_cb {r : List V → Hp → VK → Prop} {ts : TA} {a b : TS} {Dd : Ends} {σ : L2.St} {H : Hp} (h : ts σ H fun vs H1 => r vs H1 fun y H2 => ∃ k : Bool, y = .bl k ∧ (if (!k) = true then a Dd σ H2 else b Dd σ H2)) : tIfS (tNot (tB (tCB r ts))) a b Dd σ H := h
theorem tifn_call {sp : Sp} {ts : TA} {a b : TS} {Dd : Ends} {σ : L2.St} {H : Hp} (h : ts σ H fun vs H1 => sp (vs ++ []) H1 (fun y H2 => ∃ k : Bool, y = .bl k ∧ (if (!k) = true then a Dd σ H2 else b Dd σ H2)) E0) : tIfS (tNot (tB (tCall sp [] E0 ts))) a b Dd σ H := h
theorem tor_same {sp : Sp} {ts : TA} {u : TT} {a b : TS} {Dd : Ends} {σ : L2.St} {H : Hp} (h : ts σ H fun vs H1 => sp (vs ++ []) H1 (fun y H2 => ∃ k : Bool, y = .bl k ∧ (if (!k) = true then a Dd σ H2 else u σ H2 fun c H3 => if c = true then a Dd σ H3 else b Dd σ H3)) E0) : tIfS (tOr (tNot (tB (tCall sp [] E0 ts))) u) a b Dd σ H := by
  refine (?_ : ts σ H _)
  exact h
theorem tc_go {v : V} {σ : L2.St} {H : Hp} {Q : VK} (h : Q v H) : tC v σ H Q := h
theorem tnopart_go {σ : L2.St} {H : Hp} {Q : Option Int → Hp → Prop} (h : Q none H) : tNoPart σ H Q := h
theorem tpart_int {k : Int} {σ : L2.St} {H : Hp} {Q : Option Int → Hp → Prop} (h : Q (some k) H) : tPart (tC (.int k)) σ H Q := ⟨k, rfl, h⟩
theorem tcall_go {sp : Sp} {ts : TA} {σ : L2.St} {H : Hp} {Q : VK} (h : ts σ H fun vs H1 => sp (vs ++ []) H1 Q E0) : tCall sp [] E0 ts σ H Q := h
theorem tret_go {te : TE} {D : Ends} {σ : L2.St} {H : Hp} (h : te σ H fun x H1 => D.rt x H1) : tRet te D σ H := h
/-- t[k:], whether new or t itself -/
theorem slA_from {K : PySem.W.Frag} {H : Hp} {t : Addr} {xs : List V} {Q : VK} (k : Nat) (ht : H t = some (.tup xs)) (r : ∀ p H', Same H H' → H' p = some (.tup (xs.drop k)) → Q (.ref p) H') : rSlA K (.ref t) (some (k : Int)) none H Q := by
  refine ⟨t, xs, rfl, SqT.of ht, fun hw => ?_, fun hw p np => ?_⟩
  · have h0 := hw.1
    rw [HT.sIx_nat] at h0
    refine r t H (Same.refl H) ?_
    have : xs.drop k = xs := by
      by_cases hk : k = 0
      · rw [hk, List.drop_zero]
      · have : xs.length = 0 := by omega
        rw [List.length_eq_zero_iff.mp this, List.drop_nil]
    rw [this]
    exact ht
  · refine r p _ (same_upd np) ?_
    rw [upd_same, cut_from]
/-- t[:k] -/
theorem slA_upto {K : PySem.W.Frag} {H : Hp} {t : Addr} {xs : List V} {Q : VK} (k : Nat) (ht : H t = some (.tup xs)) (r : ∀ p H', Same H H' → H' p = some (.tup (xs.take k)) → Q (.ref p) H') : rSlA K (.ref t) none (some (k : Int)) H Q := by
  refine ⟨t, xs, rfl, SqT.of ht, fun hw => ?_, fun hw p np => ?_⟩
  · have h0 := hw.2
    rw [HT.sIx_nat] at h0
    refine r t H (Same.refl H) ?_
    have : xs.take k = xs := List.take_of_length_le (by omega)
    rw [this]
    exact ht
  · refine r p _ (same_upd np) ?_
    rw [upd_same, cut_upto]
/-- t + u -/
theorem catA_to {K : PySem.W.Frag} {H : Hp} {a b : Addr} {xs ys : List V} {Q : VK} (ha : H a = some (.tup xs)) (hb : H b = some (.tup ys)) (hl : xs.length + ys.length ≤ 100000) (r : ∀ p H', Same H H' → H' p = some (.tup (xs ++ ys)) → Q (.ref p) H') : rCatA K (.ref a) (.ref b) H Q := by
  refine ⟨a, b, xs, ys, rfl, rfl, SqT.of ha, SqT.of hb, by rw [sizeLine_eq]; omega, fun e => ?_, fun _ e => ?_, fun _ _ p np => ?_⟩
  · subst e
    exact r b H (Same.refl H) hb
  · subst e
    refine r a H (Same.refl H) ?_
    rw [List.append_nil]
    exact ha
  · exact r p _ (same_upd np) upd_same
/-- x[:k], x a list or a tuple -/
theorem sl_seq {K : PySem.W.Frag} {H : Hp} {a : Addr} {xs : List V} {Q : VK} {j : Int} (k : Nat) (hj : j = (k : Int)) (h : SqL K H a xs ∨ SqT K H a xs) (r : ∀ p H', Same H H' → (SqL K H' p (xs.take k) ∨ SqT K H' p (xs.take k)) → Q (.ref p) H') : rSlL K (.ref a) none (some j) H Q ∨ rSlA K (.ref a) none (some j) H Q := by
  subst hj
  rcases h with h | h
  · refine .inl ⟨a, xs, rfl, h, fun p np => ?_⟩
    rw [cut_upto]
    exact r p _ (same_upd np) (.inl (SqL.of upd_same))
  · refine .inr ⟨a, xs, rfl, h, fun hw => ?_, fun hw p np => ?_⟩
    · have h0 := hw.2
      rw [HT.sIx_nat] at h0
      have : xs.take k = xs := List.take_of_length_le (by omega)
      refine r a H (Same.refl H) (.inr ?_)
      rw [this]
      exact h
    · rw [cut_upto]
      exact r p _ (same_upd np) (.inr (SqT.of upd_same))
theorem sqs_of {K : PySem.W.Frag} {H : Hp} {a : Addr} {xs : List V} (h : SqL K H a xs ∨ SqT K H a xs) : Sqs K H (.ref a) true := by
  rcases h with h | h
  · exact sqs_kit (k := "list") (b1 := true) (b2 := false) (tyx_l h) (by decide +kernel) (by decide +kernel)
  · exact sqs_kit (k := "tuple") (b1 := false) (b2 := true) (tyx_t h) (by decide +kernel) (by decide +kernel)
theorem told2 {α : Type} {Rel : Hp → V → α → Prop} {H : Hp} {u v : V} {a b : α} (h1 : Rel H u a) (h2 : Rel H v b) : Told Rel H [u, v] [a, b] := (Told.snoc (Told.snoc Told.nil h1) h2)
theorem take_freshA {α : Type} {ls : List α} (nd : ls.Nodup) {i : Nat} {l : α} (hl : ls[i]? = some l) : l ∉ ls.take i := fun m => by
  obtain ⟨j, hj⟩ := List.mem_iff_getElem?.mp m
  have hji : j < i := by
    have := (List.getElem?_eq_some_iff.mp hj).1
    rw [List.length_take] at this
    omega
  rw [List.getElem?_take_of_lt hji] at hj
  have := (List.getElem?_inj (List.getElem?_eq_some_iff.mp hj).1 nd).mp (hj.trans hl.symm)
  omega
end Bk

namespace Bk
open PySem PySem.Spec PyProof.Rows L2
def spPlaceIn (C CQ : Addr) : Sp := fun vs H Q _ => ∃ (lq q x : Addr) (zs zs' : List Str) (ch ch' : Bool) (qs : List V) (wts : List (List Str → Int)) (wt : List Str → Int), vs = [.ref lq, .ref q] ∧ H lq = some (.lst qs) ∧ QtsAt C CQ H zs ch qs wts ∧ QuestAt C CQ H q x zs' ch' wt ∧ (∀ z ∈ zs, isNameS z = true) ∧ (∀ z ∈ zs', isNameS z = true) ∧
  ∀ H', Same H H' → Q (atV (placeQ zs ch wts zs' ch' wt)) H'
/-- is_end(thing): None, or a whole number -/
def spIsEnd : Sp := fun vs H Q _ => ∃ (v : V), vs = [v] ∧ (v = .non ∨ ∃ i, v = .int i) ∧ Q (.bl true) H
/-- ends_of(told), told as it should be -/
def spEndsOf (K : PySem.W.Frag) : Sp := fun vs H Q _ => ∃ (v lo hi : V), vs = [v] ∧ EndsIn K H v lo hi ∧ ∀ T H', H T = none → Same H H' → H' T = some (.tup [lo, hi]) → Q (.ref T) H'
section
variable {P : Program} {w : World} {K : PySem.W.Frag} {mg : Str → Option Value} {base : Heap}
theorem scPlaceIn : FnScope ["questions", "thing", "at", "question"] ["questions", "thing"] (defScope (topS 69)) := ⟨rfl, rfl, rfl, by decide +kernel, rfl, by decide +kernel, by decide +kernel⟩
theorem ok_place_in (B : Bi mg) {C CQ fQE f : Addr} {fdQE fd : FuncData} (GQE : FnOk P w K mg base CX0 2 fQE fdQE ["self", "other"] (spQEq K C CQ)) (bQE : Binds K fdQE ["self", "other"] []) (mQE : Own K CQ "__eq__" fQE) (nQ : PySem.W.notFirst K CQ (.ref CQ) = true) (tQ : ∀ (H : Hp) (x dx : Addr) (fs : List (Str × V)), H x = some (.ins CQ dx fs) → TyX K H (.ref x) (.ref CQ))
    (F : Fun K "place_in" "place_in" (topS 69) f fd) : FnOk P w K mg base CX0 3 f fd ["questions", "thing"] (spPlaceIn C CQ) := by
  refine F.ok scPlaceIn (fun vs H Q E h => ?_) (fun cdv A outer s H vs Q E hr h => ?_)
  · obtain ⟨lq, q, x, zs, zs', ch, ch', qs, wts, wt, rfl, _⟩ := h
    rfl
  · obtain ⟨lq, q, x, zs, zs', ch, ch', qs, wts, wt, rfl, hq, QS, QA, nm, nm', qq⟩ := h
    have nd := scPlaceIn.nd
    have hrQE : Room 2 _ := hr.mono (by decide)
    refine ⟨_, (pss_cons (ps_for PassesOwn.never rfl (kPiE K (by rfl) B.enumerate (pa_cons (pv 0) pa_nil)) (kTg K 2 rfl (pgs_cons (pg_name (i := 2) nd rfl (Or.inl rfl)) (pgs_cons (pg_name (i := 3) nd rfl (Or.inl rfl)) pgs_nil))) (pss_one (ps_if (pt_cmpR (kEqOwn K GQE bQE pass0 hrQE mQE) (pv 3) (pv 1) (nomark _)) (pss_one (ps_ret (pv 2))) pss_nil)))
      (pss_one (ps_ret pe_non))), ?_⟩
    refine st_seq ?_
    refine for_enS (a := lq) (xs := qs) rfl (.inl (SqL.of hq)) (fun i σ H2 => ∃ v2 v3, σ = [some (.ref lq), some (.ref q), v2, v3] ∧ Same H H2 ∧ ∀ j u, j < i → wts[j]? = some u → eqQ zs ch u zs' ch' wt = false) ?_ ?_ ?_ ?_
    · exact ⟨none, none, rfl, Same.refl _, fun j u hj => absurd hj (Nat.not_lt_zero _)⟩
    · rintro i σ H2 ⟨_, _, _, e2, _⟩
      exact e2
    · rintro i y σ H2 H3 hi' ⟨v2, v3, rfl, e2, hn⟩ ⟨T, y1, y2, rfl, nT, rfl, h1, h2⟩
      cases h1
      have h2 : qs[i]? = some y2 := h2
      have eT := same_upd (o := HO.tup [V.int (i : Nat), y2]) nT
      refine ⟨T, _, rfl, SqT.of upd_same, rfl, _, _, rfl, _, _, rfl, rfl, ?_⟩
      generalize upd H2 T (.tup [.int (i : Nat), y2]) = H3 at eT ⊢
      have e3 : Same H H3 := Same.trans e2 eT
      obtain ⟨wi, hwi⟩ : ∃ wi, wts[i]? = some wi := ⟨_, List.getElem?_eq_getElem (by rw [← QS.1]; exact hi')⟩
      obtain ⟨qi, xi, rfl, QI⟩ := (QS.same e3).2 i _ _ h2 hwi
      have QA3 := QA.same e3
      obtain ⟨d1, t1, a1, _⟩ := id QI
      obtain ⟨d2, t2, a2, _⟩ := id QA3
      refine ⟨_, rfl, _, rfl, qi, d1, _, .ref CQ, rfl, a1, tQ _ _ _ _ a2, nQ, qi, xi, q, x, zs, zs', ch, ch', wi, wt, rfl, QI, QA3, nm, nm', fun H4 e4 => ⟨_, rfl, _, rfl, ?_⟩⟩
      cases hb : eqQ zs ch wi zs' ch' wt with
      | true =>
        refine if_so hb ?_
        refine ⟨_, rfl, ?_⟩
        have z := qq H4 (Same.trans e3 e4)
        rw [place_some hwi hb hn] at z
        exact z
      | false =>
        refine if_no hb ?_
        refine ⟨_, _, rfl, Same.trans e3 e4, fun j u hj hu => ?_⟩
        rcases Nat.lt_succ_iff_lt_or_eq.mp hj with hj | rfl
        · exact hn j u hj hu
        · rw [hwi] at hu
          cases hu
          exact hb
    · rintro σ H2 ⟨v2, v3, rfl, e2, hn⟩
      have z := qq H2 e2
      rw [place_none fun w mw => by
        obtain ⟨j, hj⟩ := List.mem_iff_getElem?.mp mw
        refine hn j w ?_ hj
        rw [QS.1]
        exact (List.getElem?_eq_some_iff.mp hj).1] at z
      exact z
theorem scIsEnd : FnScope ["thing"] ["thing"] (defScope (topS 70)) := ⟨rfl, rfl, rfl, by decide +kernel, rfl, by decide +kernel, by decide +kernel⟩
theorem ok_is_end (B : Bi mg) {f f1 : Addr} {fd fd1 : FuncData} (c_is_integer : Cal P w K mg base CX0 1 "is_integer" f1 fd1 ["thing"] (spIsInt K))
    (F : Fun K "is_end" "is_end" (topS 70) f fd) : FnOk P w K mg base CX0 2 f fd ["thing"] spIsEnd := by
  refine F.ok scIsEnd (fun vs H Q E h => ?_) (fun cdv A outer s H vs Q E hr h => ?_)
  · obtain ⟨v, rfl, _⟩ := h
    rfl
  · obtain ⟨v, rfl, hv, q⟩ := h
    have nd := scIsEnd.nd
    have hr_is_integer : Room 1 _ := hr.mono (by decide)
    refine ⟨_, (pss_one (ps_ret (pe_or (pe_cmpR op_isN (pv 0) pe_non (nomark _)) (pe_one (pe_call c_is_integer.ok hr_is_integer (by rfl) c_is_integer.g c_is_integer.kp c_is_integer.b .nil pass0 (pa_cons (pv 0) pa_nil)))))), ?_⟩
    have ki : kitB "int" "int" = some true := by decide +kernel
    have kb : kitB "int" "bool" = some false := by decide +kernel
    rcases hv with rfl | ⟨i, rfl⟩
    · refine ⟨_, rfl, rfl, _, rfl, ?_⟩
      exact iteT q
    · refine ⟨_, rfl, rfl, _, rfl, ?_⟩
      refine iteF ?_
      exact ⟨_, rfl, .int i, .type "int", true, false, rfl, .base (.int _), kit_ty ki, kit_ty kb, q⟩
theorem scEndsOf : FnScope ["told", "low", "high"] ["told"] (defScope (topS 71)) := ⟨rfl, rfl, rfl, by decide +kernel, rfl, by decide +kernel, by decide +kernel⟩
theorem ok_ends_of (B : Bi mg) {f f1 f2 f3 : Addr} {fd fd1 fd2 fd3 : FuncData} (c_is_integer : Cal P w K mg base CX0 1 "is_integer" f1 fd1 ["thing"] (spIsInt K)) (c_is_list : Cal P w K mg base CX0 1 "is_list" f2 fd2 ["thing"] (spIsList K)) (c_is_end : Cal P w K mg base CX0 2 "is_end" f3 fd3 ["thing"] spIsEnd)
    (F : Fun K "ends_of" "ends_of" (topS 71) f fd) : FnOk P w K mg base CX0 3 f fd ["told"] (spEndsOf K) := by
  refine F.ok scEndsOf (fun vs H Q E h => ?_) (fun cdv A outer s H vs Q E hr h => ?_)
  · obtain ⟨v, lo, hi, rfl, _⟩ := h
    rfl
  · obtain ⟨v, lo, hi, rfl, hv, qq⟩ := h
    have nd := scEndsOf.nd
    have hr_is_end : Room 2 _ := hr.mono (by decide)
    have hr_is_integer : Room 1 _ := hr.mono (by decide)
    have hr_is_list := hr_is_integer
    refine ⟨_, (Evl.pss_cut (ps_if (pt_val (pe_call c_is_integer.ok hr_is_integer (by rfl) c_is_integer.g c_is_integer.kp c_is_integer.b .nil pass0 (pa_cons (pv 0) pa_nil))) (pss_one (ps_ret (pe_tup (pa_cons (pv 0) (pa_cons (pv 0) pa_nil))))) pss_nil)
      (pss_cons (ps_if (PW.pt (pw_or (pt_not (pt_val (pe_call c_is_list.ok hr_is_list (by rfl) c_is_list.g c_is_list.kp c_is_list.b .nil pass0 (pa_cons (pv 0) pa_nil)))) (pw_or1 (pt_cmpR op_ne (pe_callB (kLen K) (by rfl) B.len PySem.boot_len (pa_cons (pv 0) pa_nil)) pe_int (nomark _))))) (pss_one (ps_ret pe_non)) pss_nil)
      (pss_cons (ps_asg (pv 0) (kTgA K 2 rfl (pgs_cons (pg_name (i := 1) nd rfl (Or.inl rfl)) (pgs_cons (pg_name (i := 2) nd rfl (Or.inl rfl)) pgs_nil))))
      (pss_cons (ps_if (PW.pt (pw_or (pt_not (pt_val (pe_call c_is_end.ok hr_is_end (by rfl) c_is_end.g c_is_end.kp c_is_end.b .nil pass0 (pa_cons (pv 1) pa_nil)))) (pw_or (pt_not (pt_val (pe_call c_is_end.ok hr_is_end (by rfl) c_is_end.g c_is_end.kp c_is_end.b .nil pass0 (pa_cons (pv 2) pa_nil)))) (pw_or1 (PW.pt (pw_and (pt_cmpR op_isN (pv 1) pe_non (nomark _)) (pw_and1 (pt_cmpR op_isN (pv 2) pe_non (nomark _))))))))) (pss_one (ps_ret pe_non)) pss_nil)
      (pss_cons (ps_if (PW.pt (pw_and (pt_cmpR op_notN (pv 1) pe_non (nomark _)) (pw_and (pt_cmpR op_notN (pv 2) pe_non (nomark _)) (pw_and1 (pt_cmpR op_gt (pv 1) (pv 2) (nomark _)))))) (pss_one (ps_ret pe_non)) pss_nil)
      (pss_one (ps_ret (pe_tup (pa_cons (pv 1) (pa_cons (pv 2) pa_nil)))))))))), ?_⟩
    have ki : kitB "int" "int" = some true := by decide +kernel
    have kb : kitB "int" "bool" = some false := by decide +kernel
    rcases hv with ⟨n, rfl, rfl, rfl⟩ | ⟨a, rfl, ha, eo⟩
    · refine ⟨fun _ _ => False, ?_, fun _ _ z => z.elim⟩
      refine ⟨_, rfl, .int n, .type "int", true, false, rfl, .base (.int _), kit_ty ki, kit_ty kb, _, rfl, ?_⟩
      refine iteT ?_
      refine ⟨_, rfl, _, rfl, by show 2 ≤ sizeLine; decide, fun p np => ?_⟩
      exact qq p _ np (same_upd np) upd_same
    · obtain ⟨k, ty, n1, n2⟩ : ∃ k : String, TyX K H (.ref a) (.type k) ∧ kitB k "int" = some false ∧ kitB k "bool" = some false := by
        rcases ha with ha | ha
        · exact ⟨"list", tyx_l ha, by decide +kernel, by decide +kernel⟩
        · exact ⟨"tuple", tyx_t ha, by decide +kernel, by decide +kernel⟩
      refine ⟨fun σ' H' => σ' = [some (.ref a), none, none] ∧ H' = H, ?_, ?_⟩
      · refine ⟨_, rfl, .ref a, .type k, false, false, rfl, ty, kit_ty n1, kit_ty n2, _, rfl, ?_⟩
        refine iteF ?_
        exact ⟨rfl, rfl⟩
      rintro σ' H' ⟨rfl, rfl⟩
      refine ⟨_, rfl, .ref a, true, rfl, sqs_of ha, fun H1 e1 => ⟨_, rfl, ?_⟩⟩
      have ha1 : SqL K H1 a [lo, hi] ∨ SqT K H1 a [lo, hi] := ha.imp e1.seq (Same.sqt e1)
      refine iteF ?_
      refine ⟨_, rfl, _, 2, rfl, ha1.elim (fun z => .inl ⟨_, z, rfl⟩) (fun z => .inr ⟨_, z, rfl⟩), rfl, _, rfl, ?_⟩
      refine if_no (by decide) ?_
      have e01 : lo = .non ∨ ∃ i, lo = .int i := by
        rcases eo with ⟨a, _⟩ | ⟨_, b⟩ | ⟨i, j, a, _⟩
        · exact .inl a
        · exact .inr b
        · exact .inr ⟨i, a⟩
      have e02 : hi = .non ∨ ∃ i, hi = .int i := by
        rcases eo with ⟨_, b⟩ | ⟨a, _⟩ | ⟨i, j, _, b, _⟩
        · exact .inr b
        · exact .inl a
        · exact .inr ⟨j, b⟩
      have go : tSeq
          (tIfS
            (tOr (tNot (tB (tCall spIsEnd [] E0 (tCons (tVar 1) tNil))))
              (tOr (tNot (tB (tCall spIsEnd [] E0 (tCons (tVar 2) tNil))))
                (tAnd (tTest (tOp (fun x y H Q => y = V.non ∧ Q (V.bl (decide (x = V.non))) H) (tVar 1) (tC V.non)))
                  (tTest (tOp (fun x y H Q => y = V.non ∧ Q (V.bl (decide (x = V.non))) H) (tVar 2) (tC V.non))))))
            (tRet (tC V.non)) tNext)
          (tSeq
            (tIfS
              (tAnd (tTest (tOp (fun x y H Q => y = V.non ∧ Q (V.bl !decide (x = V.non)) H) (tVar 1) (tC V.non)))
                (tAnd (tTest (tOp (fun x y H Q => y = V.non ∧ Q (V.bl !decide (x = V.non)) H) (tVar 2) (tC V.non)))
                  (tTest (tOp (rI0 fun i j => V.bl (decide (j < i))) (tVar 1) (tVar 2)))))
              (tRet (tC V.non)) tNext)
            (tRet (tTup (tCons (tVar 1) (tCons (tVar 2) tNil))))) { nx := fun x H' => Q V.non H', rt := Q } [some (.ref a), some lo, some hi] H1 := by
        refine ⟨_, rfl, _, rfl, e01, _, rfl, ?_⟩
        refine iteF ?_
        refine ⟨_, rfl, _, rfl, e02, _, rfl, ?_⟩
        refine iteF ?_
        refine ⟨_, rfl, rfl, _, rfl, ?_⟩
        have last : tRet (tTup (tCons (tVar 1) (tCons (tVar 2) tNil))) { nx := fun x H' => Q V.non H', rt := Q } [some (.ref a), some lo, some hi] H1 := ⟨_, rfl, _, rfl, by show 2 ≤ sizeLine; decide, fun p np => qq p _ (e1.free np) (Same.trans e1 (same_upd np)) upd_same⟩
        rcases eo with ⟨rfl, j, rfl⟩ | ⟨rfl, i, rfl⟩ | ⟨i, j, rfl, rfl, le⟩
        · refine iteT ?_
          refine ⟨_, rfl, rfl, _, rfl, ?_⟩
          refine iteF ?_
          refine ⟨_, rfl, rfl, _, rfl, ?_⟩
          refine iteF ?_
          exact last
        · refine iteF ?_
          refine iteF ?_
          refine ⟨_, rfl, rfl, _, rfl, ?_⟩
          refine iteT ?_
          refine ⟨_, rfl, rfl, _, rfl, ?_⟩
          refine iteF ?_
          exact last
        · refine iteF ?_
          refine iteF ?_
          refine ⟨_, rfl, rfl, _, rfl, ?_⟩
          refine iteT ?_
          refine ⟨_, rfl, rfl, _, rfl, ?_⟩
          refine iteT ?_
          refine ⟨_, rfl, _, rfl, i, j, rfl, rfl, _, rfl, ?_⟩
          refine if_no (decide_eq_false (by omega)) ?_
          exact last
      refine ⟨_, rfl, ?_⟩
      exact ha1.elim (fun z => .inr ⟨a, _, rfl, z, rfl, _, _, rfl, _, _, rfl, rfl, go⟩) (fun z => .inl ⟨a, _, rfl, z, rfl, _, _, rfl, _, _, rfl, rfl, go⟩)
end
end Bk

/-! what stays while a book is written -/
namespace Bk
open PySem PySem.Spec PyProof.Rows L2
/-- all but the object at b stays -/
def OffB (b : Addr) (H H' : Hp) : Prop := ∀ a u, a ≠ b → H a = some u → H' a = some u
section
variable {b : Addr} {H H' H2 : Hp}
theorem OffB.of (e : Same H H') : OffB b H H' := fun a u _ h => e _ _ h
theorem OffB.trans (h1 : OffB b H H') (h2 : OffB b H' H2) : OffB b H H2 := fun a u n h => h2 _ _ n (h1 _ _ n h)
theorem OffB.put {o : HO} : OffB b H (upd H b o) := fun a u n h => by rw [upd_ne n]; exact h
theorem fold_noq (t pd : Addr) (ch : Bool) : (foldersF t pd ch).lookup ("questions" : Str) = none := by rfl
theorem quest_noq (x td : Addr) : (questF x td).lookup ("questions" : Str) = none := by rfl
theorem ins_ne {C CB a da db x lq le : Addr} {fs : List (Str × V)} (h : H a = some (.ins C da fs)) (hb : H b = some (.ins CB db (bookF x lq le))) (n : fs.lookup ("questions" : Str) = none) : a ≠ b := ne_of h hb fun z => by
  injection z with _ _ z
  rw [z, look_bq] at n
  cases n
variable {CB db xb lq le : Addr}
theorem FoldersAt.off {C x : Addr} {zs : List Str} {ch : Bool} (h : FoldersAt C H x zs ch) (hb : H b = some (.ins CB db (bookF xb lq le))) (e : OffB b H H') : FoldersAt C H' x zs ch := by
  obtain ⟨dx, t, pd, h1, h2, h3⟩ := h
  exact ⟨dx, t, pd, e _ _ (ins_ne h1 hb (fold_noq _ _ _)) h1, e _ _ (ne_of h2 hb (fun z => nomatch z)) h2, e _ _ (ne_of h3 hb (fun z => nomatch z)) h3⟩
theorem QuestAt.offB {C CQ q x : Addr} {zs : List Str} {ch : Bool} {wt : List Str → Int} (h : QuestAt C CQ H q x zs ch wt) (hb : H b = some (.ins CB db (bookF xb lq le))) (e : OffB b H H') : QuestAt C CQ H' q x zs ch wt := by
  obtain ⟨dq, td, h1, h2, h3⟩ := h
  exact ⟨dq, td, e _ _ (ins_ne h1 hb (quest_noq _ _)) h1, h2.off hb e, e _ _ (ne_of h3 hb (fun z => nomatch z)) h3⟩
theorem QtsAt.off {C CQ : Addr} {zs : List Str} {ch : Bool} {us : List V} {wts : List (List Str → Int)} (h : QtsAt C CQ H zs ch us wts) (hb : H b = some (.ins CB db (bookF xb lq le))) (e : OffB b H H') : QtsAt C CQ H' zs ch us wts := ⟨h.1, fun i u wt h1 h2 => let ⟨q, x, a, c⟩ := h.2 i u wt h1 h2; ⟨q, x, a, c.offB hb e⟩⟩
theorem ends_off {es : List V} {ps : List (V × V)} (h : Told EndAt H es ps) (hb : H b = some (.ins CB db (bookF xb lq le))) (e : OffB b H H') : Told EndAt H' es ps := ⟨h.1, fun i u p h1 h2 => let ⟨T, a, c⟩ := h.2 i u p h1 h2; ⟨T, a, e _ _ (ne_of c hb (fun z => nomatch z)) c⟩⟩
theorem ListsAt.off {C CQ l1 l2 : Addr} {zs : List Str} {ch : Bool} {wts : List (List Str → Int)} {ps : List (V × V)} (h : ListsAt C CQ H l1 l2 zs ch wts ps) (hb : H b = some (.ins CB db (bookF xb lq le))) (e : OffB b H H') : ListsAt C CQ H' l1 l2 zs ch wts ps := by
  obtain ⟨⟨qs, es, a1, a2, a3, a4⟩, l⟩ := h
  exact ⟨⟨qs, es, e _ _ (ne_of a1 hb (fun z => nomatch z)) a1, e _ _ (ne_of a2 hb (fun z => nomatch z)) a2, a3.off hb e, ends_off a4 hb e⟩, l⟩
theorem BookAt.off {C CQ b2 x : Addr} {zs : List Str} {ch : Bool} {wts : List (List Str → Int)} {ps : List (V × V)} (h : BookAt C CQ CB H b2 x zs ch wts ps) (n : b2 ≠ b) (hb : H b = some (.ins CB db (bookF xb lq le))) (e : OffB b H H') : BookAt C CQ CB H' b2 x zs ch wts ps := by
  obtain ⟨d2, q2, e2, a1, a2, a3⟩ := h
  exact ⟨d2, q2, e2, e _ _ n a1, a2.off hb e, a3.off hb e⟩
end
theorem book_putQ (x lq le l : Addr) : putF "questions" (.ref l) (bookF x lq le) = bookF x l le := by rfl
theorem book_putE (x lq le l : Addr) : putF "ends" (.ref l) (bookF x lq le) = bookF x lq l := by rfl
section
variable {C CQ : Addr} {H : Hp} {zs : List Str} {ch : Bool} {us us2 : List V} {wts wts2 : List (List Str → Int)}
theorem QtsAt.app (h1 : QtsAt C CQ H zs ch us wts) (h2 : QtsAt C CQ H zs ch us2 wts2) : QtsAt C CQ H zs ch (us ++ us2) (wts ++ wts2) := ⟨by rw [List.length_append, List.length_append, h1.1, h2.1], fun i u wt e1 e2 => by
  by_cases z : i < us.length
  · rw [List.getElem?_append_left z] at e1
    rw [List.getElem?_append_left (by rw [← h1.1]; exact z)] at e2
    exact h1.2 i u wt e1 e2
  · rw [List.getElem?_append_right (by omega)] at e1
    rw [List.getElem?_append_right (by rw [← h1.1]; omega), ← h1.1] at e2
    exact h2.2 _ u wt e1 e2⟩
theorem QtsAt.one {q x : Addr} {wt : List Str → Int} (h : QuestAt C CQ H q x zs ch wt) : QtsAt C CQ H zs ch [.ref q] [wt] := ⟨rfl, fun i u w e1 e2 => by
  cases i with
  | zero => cases e1; cases e2; exact ⟨q, x, rfl, h⟩
  | succ i => simp at e1⟩
theorem QtsAt.take (h : QtsAt C CQ H zs ch us wts) (n : Nat) : QtsAt C CQ H zs ch (us.take n) (wts.take n) := ⟨by rw [List.length_take, List.length_take, h.1], fun i u wt e1 e2 => by
  rw [List.getElem?_take] at e1 e2
  by_cases z : i < n
  · rw [if_pos z] at e1 e2
    exact h.2 i u wt e1 e2
  · rw [if_neg z] at e1
    cases e1⟩
theorem QtsAt.drop (h : QtsAt C CQ H zs ch us wts) (n : Nat) : QtsAt C CQ H zs ch (us.drop n) (wts.drop n) := ⟨by rw [List.length_drop, List.length_drop, h.1], fun i u wt e1 e2 => by
  rw [List.getElem?_drop] at e1 e2
  exact h.2 _ u wt e1 e2⟩
end
section
variable {α : Type} {Rel : Hp → V → α → Prop} {H : Hp} {us us2 : List V} {ls ls2 : List α}
theorem Told.app (h1 : Told Rel H us ls) (h2 : Told Rel H us2 ls2) : Told Rel H (us ++ us2) (ls ++ ls2) := ⟨by rw [List.length_append, List.length_append, h1.1, h2.1], fun i u l e1 e2 => by
  by_cases z : i < us.length
  · rw [List.getElem?_append_left z] at e1
    rw [List.getElem?_append_left (by rw [← h1.1]; exact z)] at e2
    exact h1.2 i u l e1 e2
  · rw [List.getElem?_append_right (by omega)] at e1
    rw [List.getElem?_append_right (by rw [← h1.1]; omega), ← h1.1] at e2
    exact h2.2 _ u l e1 e2⟩
theorem Told.one {u : V} {l : α} (h : Rel H u l) : Told Rel H [u] [l] := ⟨rfl, fun i u' l' e1 e2 => by
  cases i with
  | zero => cases e1; cases e2; exact h
  | succ i => simp at e1⟩
theorem Told.take (h : Told Rel H us ls) (n : Nat) : Told Rel H (us.take n) (ls.take n) := ⟨by rw [List.length_take, List.length_take, h.1], fun i u l e1 e2 => by
  rw [List.getElem?_take] at e1 e2
  by_cases z : i < n
  · rw [if_pos z] at e1 e2
    exact h.2 i u l e1 e2
  · rw [if_neg z] at e1
    cases e1⟩
theorem Told.drop (h : Told Rel H us ls) (n : Nat) : Told Rel H (us.drop n) (ls.drop n) := ⟨by rw [List.length_drop, List.length_drop, h.1], fun i u l e1 e2 => by
  rw [List.getElem?_drop] at e1 e2
  exact h.2 _ u l e1 e2⟩
end
theorem EndsIn.same {K : PySem.W.Frag} {H H' : Hp} {v lo hi : V} (h : EndsIn K H v lo hi) (e : Same H H') : EndsIn K H' v lo hi := by
  rcases h with h | ⟨a, h1, h2, h3⟩
  · exact .inl h
  · exact .inr ⟨a, h1, h2.imp e.seq (Same.sqt e), h3⟩
theorem place_lt {zs zs' : List Str} {ch ch' : Bool} {wts : List (List Str → Int)} {wt : List Str → Int} {i : Nat} (h : placeQ zs ch wts zs' ch' wt = some i) : i < wts.length := by
  unfold placeQ at h
  rw [List.findIdx?_eq_some_iff_getElem] at h
  exact h.1
theorem FoldersAt.offN {C CB x b db : Addr} {H H' : Hp} {zs : List Str} {ch : Bool} (h : FoldersAt C H x zs ch) (hb : H b = some (.ins CB db [])) (e : OffB b H H') : FoldersAt C H' x zs ch := by
  obtain ⟨dx, t, pd, h1, h2, h3⟩ := h
  exact ⟨dx, t, pd, e _ _ (ne_of h1 hb (fun z => by injection z with _ _ z; cases z)) h1, e _ _ (ne_of h2 hb (fun z => nomatch z)) h2, e _ _ (ne_of h3 hb (fun z => nomatch z)) h3⟩
theorem QuestAt.upLs {CF CQ : Addr} {H : Hp} {q x l : Addr} {zs : List Str} {ch : Bool} {wt : List Str → Int} {xs ys : List V} (h : QuestAt CF CQ H q x zs ch wt) (hl : H l = some (.lst xs)) : QuestAt CF CQ (upd H l (.lst ys)) q x zs ch wt := by
  have k : ∀ {a : Addr} {o : HO}, H a = some o → (∀ zs, o ≠ .lst zs) → upd H l (.lst ys) a = some o := fun e n => by
    rw [upd_ne (ne_of e hl (n _))]
    exact e
  obtain ⟨dq, td, h1, ⟨dx, t, pd, h2, h3, h4⟩, h5⟩ := h
  exact ⟨dq, td, k h1 (fun _ z => nomatch z), ⟨dx, t, pd, k h2 (fun _ z => nomatch z), k h3 (fun _ z => nomatch z), k h4 (fun _ z => nomatch z)⟩, k h5 (fun _ z => nomatch z)⟩
/-- a book's lists are new, or were the book's -/
def NewL (H H' : Hp) (b : Addr) : Prop := ∀ CB db x lq le, H' b = some (.ins CB db (bookF x lq le)) → (H lq = none ∨ ∃ d x' l, H b = some (.ins CB d (bookF x' lq l))) ∧ (H le = none ∨ ∃ d x' l, H b = some (.ins CB d (bookF x' l le)))
theorem bookF_inj {x lq le x' lq' le' : Addr} (h : bookF x lq le = bookF x' lq' le') : x = x' ∧ lq = lq' ∧ le = le' := by
  unfold bookF at h
  injection h with h1 h
  injection h with h2 h
  injection h with h3 _
  injection h1 with _ h1
  injection h2 with _ h2
  injection h3 with _ h3
  injection h1 with h1
  injection h2 with h2
  injection h3 with h3
  exact ⟨h1, h2, h3⟩
theorem NewL.of {H H' : Hp} {b CB db x lq le : Addr} (hb : H' b = some (.ins CB db (bookF x lq le))) (h1 : H lq = none ∨ ∃ d x' l, H b = some (.ins CB d (bookF x' lq l))) (h2 : H le = none ∨ ∃ d x' l, H b = some (.ins CB d (bookF x' l le))) : NewL H H' b := fun CB' db' x' lq' le' h => by
  rw [hb] at h
  injection h with h
  injection h with c1 c2 c3
  obtain ⟨_, rfl, rfl⟩ := bookF_inj c3
  subst c1
  exact ⟨h1, h2⟩
theorem OffB.free {b p : Addr} {H H' : Hp} {u : HO} (e : OffB b H H') (hb : H' b = some u) (h : H' p = none) : H p = none := by
  cases q : H p with
  | none => rfl
  | some v =>
    have := e p v (fun z => by rw [z, hb] at h; cases h) q
    rw [h] at this
    cases this
end Bk

namespace Bk
open PySem PySem.Spec PyProof.Rows L2
/-- Book(folders) -/
def spBookI (C CQ CB : Addr) : Sp := fun vs H Q _ => ∃ (b db x : Addr) (zs : List Str) (ch : Bool), vs = [.ref b, .ref x] ∧ H b = some (.ins CB db []) ∧ FoldersAt C H x zs ch ∧ ∀ H', BookAt C CQ CB H' b x zs ch [] [] → OffB b H H' → NewL H H' b → Q .non H'
/-- book[question], which is told -/
def spBGet (C CQ CB : Addr) : Sp := fun vs H Q _ => ∃ (b x q x' : Addr) (zs zs' : List Str) (ch ch' : Bool) (wts : List (List Str → Int)) (ps : List (V × V)) (wt : List Str → Int) (i : Nat), vs = [.ref b, .ref q] ∧ BookAt C CQ CB H b x zs ch wts ps ∧ QuestAt C CQ H q x' zs' ch' wt ∧ (∀ z ∈ zs, isNameS z = true) ∧ (∀ z ∈ zs', isNameS z = true) ∧ placeQ zs ch wts zs' ch' wt = some i ∧
  ∀ T p H', Same H H' → ps[i]? = some p → H' T = some (.tup [p.1, p.2]) → Q (.ref T) H'
def putQs (zs : List Str) (ch : Bool) (wts : List (List Str → Int)) (wt : List Str → Int) : List (List Str → Int) := match placeQ zs ch wts zs ch wt with
  | none => wts ++ [wt]
  | some _ => wts
def putPs (zs : List Str) (ch : Bool) (wts : List (List Str → Int)) (wt : List Str → Int) (ps : List (V × V)) (p : V × V) : List (V × V) := match placeQ zs ch wts zs ch wt with
  | none => ps ++ [p]
  | some i => ps.take i ++ [p] ++ ps.drop (i + 1)
/-- book[question] = ends -/
def spBSet (K : PySem.W.Frag) (C CQ CB : Addr) : Sp := fun vs H Q _ => ∃ (b x q x' : Addr) (v lo hi : V) (zs : List Str) (ch : Bool) (wts : List (List Str → Int)) (ps : List (V × V)) (wt : List Str → Int), vs = [.ref b, .ref q, v] ∧ BookAt C CQ CB H b x zs ch wts ps ∧ QuestAt C CQ H q x' zs ch wt ∧ (∀ z ∈ zs, isNameS z = true) ∧ EndsIn K H v lo hi ∧ wts.length ≤ 1000 ∧
  ∀ H', BookAt C CQ CB H' b x zs ch (putQs zs ch wts wt) (putPs zs ch wts wt ps (lo, hi)) → OffB b H H' → NewL H H' b → Q .non H'
/-- question in book -/
def spBIn (C CQ CB : Addr) : Sp := fun vs H Q _ => ∃ (b x q x' : Addr) (zs zs' : List Str) (ch ch' : Bool) (wts : List (List Str → Int)) (ps : List (V × V)) (wt : List Str → Int), vs = [.ref b, .ref q] ∧ BookAt C CQ CB H b x zs ch wts ps ∧ QuestAt C CQ H q x' zs' ch' wt ∧ (∀ z ∈ zs, isNameS z = true) ∧ (∀ z ∈ zs', isNameS z = true) ∧
  ∀ H', Same H H' → Q (.bl (placeQ zs ch wts zs' ch' wt).isSome) H'
def spBLen (C CQ CB : Addr) : Sp := fun vs H Q _ => ∃ (b x : Addr) (zs : List Str) (ch : Bool) (wts : List (List Str → Int)) (ps : List (V × V)), vs = [.ref b] ∧ BookAt C CQ CB H b x zs ch wts ps ∧ Q (.int (wts.length : Nat)) H
/-- a telling as told() says it -/
def TelAt (C CQ : Addr) (zs : List Str) (ch : Bool) (H : Hp) (u : V) (t : (List Str → Int) × V × V) : Prop := ∃ T q x, u = .ref T ∧ H T = some (.tup [.ref q, t.2.1, t.2.2]) ∧ QuestAt C CQ H q x zs ch t.1
theorem stays_tel {C CQ : Addr} {zs : List Str} {ch : Bool} : Stays (TelAt C CQ zs ch) := ⟨fun H1 H2 u l e ⟨T, q, x, h1, h2, h3⟩ => ⟨T, q, x, h1, e _ _ h2, h3.same e⟩, fun H1 D as bs u l hD ⟨T, q, x, h1, h2, h3⟩ => ⟨T, q, x, h1, by rw [upd_ne (ne_of h2 hD (fun z => nomatch z))]; exact h2, h3.upLs hD⟩⟩
def spBTold (C CQ CB : Addr) : Sp := fun vs H Q _ => ∃ (b x : Addr) (zs : List Str) (ch : Bool) (wts : List (List Str → Int)) (ps : List (V × V)), vs = [.ref b] ∧ BookAt C CQ CB H b x zs ch wts ps ∧ wts.length ≤ 1000 ∧ ∀ L ts H', H L = none → Same H H' → H' L = some (.lst ts) → Told (TelAt C CQ zs ch) H' ts (wts.zip ps) → Q (.ref L) H'
def spBDrop (C CQ CB : Addr) : Sp := fun vs H Q _ => ∃ (b x q x' : Addr) (zs : List Str) (ch : Bool) (wts : List (List Str → Int)) (ps : List (V × V)) (wt : List Str → Int) (i : Nat), vs = [.ref b, .ref q] ∧ BookAt C CQ CB H b x zs ch wts ps ∧ QuestAt C CQ H q x' zs ch wt ∧ (∀ z ∈ zs, isNameS z = true) ∧ placeQ zs ch wts zs ch wt = some i ∧ wts.length ≤ 1000 ∧
  ∀ H', BookAt C CQ CB H' b x zs ch (wts.take i ++ wts.drop (i + 1)) (ps.take i ++ ps.drop (i + 1)) → OffB b H H' → NewL H H' b → Q .non H'
def spBCopy (C CQ CB : Addr) : Sp := fun vs H Q _ => ∃ (b x : Addr) (zs : List Str) (ch : Bool) (wts : List (List Str → Int)) (ps : List (V × V)), vs = [.ref b] ∧ BookAt C CQ CB H b x zs ch wts ps ∧ ∀ b' H', H b' = none → Same H H' → BookAt C CQ CB H' b' x zs ch wts ps → NewL H H' b' → Q (.ref b') H'
/-- iter(self.questions) -/
def spBIter (C CQ CB : Addr) (n : Nat) : Sp := fun vs H Q _ => ∃ (b x db lq le : Addr) (qs : List V), vs = [.ref b] ∧ H b = some (.ins CB db (bookF x lq le)) ∧ H lq = some (.lst qs) ∧ ∀ it, H it = none → n ≤ it → Q (.ref it) (upd H it (ItO lq it 0))
section
variable {P : Program} {w : World} {K : PySem.W.Frag} {mg : Str → Option Value} {base : Heap}
theorem scBookI : FnScope ["self", "folders"] ["self", "folders"] (defScope (inClass (topS 68) 0)) := ⟨rfl, rfl, rfl, by decide +kernel, rfl, by decide +kernel, by decide +kernel⟩
theorem ok_bookI (B : Bi mg) {C CQ CB fB f : Addr} {fd : FuncData} (TB : BooT K mg CB fB) (F : Fun K "__init__" "Book.__init__" (inClass (topS 68) 0) f fd) : FnOk P w K mg base CX0 1 f fd ["self", "folders"] (spBookI C CQ CB) := by
  refine F.ok scBookI (fun vs H Q E h => ?_) (fun cdv A outer s H vs Q E hr h => ?_)
  · obtain ⟨b, db, x, zs, ch, rfl, _⟩ := h
    rfl
  · obtain ⟨b, db, x, zs, ch, rfl, hb, FA, q⟩ := h
    have nd := scBookI.nd
    refine ⟨_, (pss_cons (ps_fld (pv 0) (pv 1) rfl)
      (pss_cons (ps_fld (pv 0) (pe_lst pa_nil) rfl)
      (pss_one (ps_fld (pv 0) (pe_lst pa_nil) rfl)))), ?_⟩
    refine ⟨_, rfl, _, rfl, b, CB, db, _, rfl, hb, TB.cl, TB.nF, by show 0 < 1000; decide, ?_⟩
    have hb1 : upd H b (.ins CB db (putF "folders" (.ref x) [])) b = some (.ins CB db [("folders", .ref x)]) := upd_same
    have o1 : OffB b H (upd H b (.ins CB db (putF "folders" (.ref x) []))) := OffB.put
    generalize upd H b (.ins CB db (putF "folders" (.ref x) [])) = H1 at hb1 o1 ⊢
    refine ⟨Nat.zero_le _, fun lq nlq => ?_⟩
    have e1 := same_upd (o := HO.lst []) nlq
    have nq : lq ≠ b := (ne_of_none hb1 nlq).symm
    refine ⟨_, rfl, b, CB, db, _, rfl, e1 _ _ hb1, TB.cl, TB.nQ, by show 1 < 1000; decide, ?_⟩
    have hb2 : upd (upd H1 lq (.lst [])) b (.ins CB db (putF "questions" (.ref lq) [("folders", .ref x)])) b = some (.ins CB db [("folders", .ref x), ("questions", .ref lq)]) := upd_same
    have hq2 : upd (upd H1 lq (.lst [])) b (.ins CB db (putF "questions" (.ref lq) [("folders", .ref x)])) lq = some (.lst []) := by rw [upd_ne nq, upd_same]
    have o2 : OffB b H (upd (upd H1 lq (.lst [])) b (.ins CB db (putF "questions" (.ref lq) [("folders", .ref x)]))) := o1.trans ((OffB.of e1).trans OffB.put)
    generalize upd (upd H1 lq (.lst [])) b (.ins CB db (putF "questions" (.ref lq) [("folders", .ref x)])) = H2 at hb2 hq2 o2 ⊢
    refine ⟨Nat.zero_le _, fun le nle => ?_⟩
    have e2 := same_upd (o := HO.lst []) nle
    have ne : le ≠ b := (ne_of_none hb2 nle).symm
    refine ⟨_, rfl, b, CB, db, _, rfl, e2 _ _ hb2, TB.cl, TB.nE, by show 2 < 1000; decide, ?_⟩
    have o3 : OffB b H (upd (upd H2 le (.lst [])) b (.ins CB db (putF "ends" (.ref le) [("folders", .ref x), ("questions", .ref lq)]))) := o2.trans ((OffB.of e2).trans OffB.put)
    refine q _ ⟨db, lq, le, upd_same, FA.offN hb o3, ⟨[], [], ?_, ?_, ⟨rfl, fun i u wt h => by simp at h⟩, Told.nil⟩, rfl⟩ o3 (.of (by rw [upd_same]; rfl) (.inl (o1.free hb1 nlq)) (.inl (o2.free hb2 nle)))
    · rw [upd_ne nq]
      exact e2 _ _ hq2
    · rw [upd_ne ne, upd_same]
theorem scBGet : FnScope ["self", "at", "place"] ["self", "at"] (defScope (inClass (topS 68) 1)) := ⟨rfl, rfl, rfl, by decide +kernel, rfl, by decide +kernel, by decide +kernel⟩
theorem ok_bGet (B : Bi mg) {C CQ CB fB f f1 : Addr} {fd fd1 : FuncData} (TB : BooT K mg CB fB) (c_place_in : Cal P w K mg base CX0 3 "place_in" f1 fd1 ["questions", "thing"] (spPlaceIn C CQ)) (F : Fun K "__getitem__" "Book.__getitem__" (inClass (topS 68) 1) f fd) : FnOk P w K mg base CX0 4 f fd ["self", "at"] (spBGet C CQ CB) := by
  refine F.ok scBGet (fun vs H Q E h => ?_) (fun cdv A outer s H vs Q E hr h => ?_)
  · obtain ⟨b, x, q, x', zs, zs', ch, ch', wts, ps, wt, i, rfl, _⟩ := h
    rfl
  · obtain ⟨b, x, q, x', zs, zs', ch, ch', wts, ps, wt, i, rfl, BA, QA, nm, nm', hp, qq⟩ := h
    have nd := scBGet.nd
    have hr_place_in := hr
    refine ⟨_, (pss_cons (ps_set (i := 2) nd rfl (Or.inl rfl) (pe_call c_place_in.ok hr_place_in (by rfl) c_place_in.g c_place_in.kp c_place_in.b .nil pass0 (pa_cons (pe_fld (pv 0) rfl) (pa_cons (pv 1) pa_nil))))
      (pss_cons (ps_if (pt_cmpR op_isN (pv 2) pe_non (nomark _)) (pss_one ps_no) pss_nil)
      (pss_one (ps_ret (pe_ix (kIxL K) (pe_fld (pv 0) rfl) (pv 2) (fun _ _ => rfl)))))), ?_⟩
    obtain ⟨db, lq, le, hb, FA, ⟨qs, es, h1, h2, QS, ES⟩, len⟩ := BA
    refine ⟨_, rfl, b, CB, db, _, _, rfl, hb, TB.cl, TB.nQ, look_bq _ _ _, _, rfl, lq, q, x', zs, zs', ch, ch', qs, wts, wt, rfl, h1, QS, QA, nm, nm', fun H1 e1 => ?_⟩
    rw [hp]
    refine ⟨_, rfl, rfl, _, rfl, ?_⟩
    refine iteF ?_
    have hi : i < ps.length := by rw [← len]; exact place_lt hp
    have hpi : ps[i]? = some ps[i] := List.getElem?_eq_getElem hi
    obtain ⟨u, hu⟩ : ∃ u, es[i]? = some u := ⟨_, List.getElem?_eq_getElem (by rw [ES.1]; exact hi)⟩
    obtain ⟨T, rfl, hT⟩ := ES.2 i u _ hu hpi
    refine ⟨_, rfl, b, CB, db, _, _, rfl, e1 _ _ hb, TB.cl, TB.nE, look_be _ _ _, _, rfl, le, es, (i : Int), .ref T, rfl, rfl, SqL.of (e1 _ _ h2), atI_nat hu, ?_⟩
    exact qq T _ H1 e1 hpi (e1 _ _ hT)
theorem scBSet : FnScope ["self", "at", "worth", "ends", "place"] ["self", "at", "worth"] (defScope (inClass (topS 68) 2)) := ⟨rfl, rfl, rfl, by decide +kernel, rfl, by decide +kernel, by decide +kernel⟩
theorem ok_bSet (B : Bi mg) {C CQ CB fQ fE fB f f1 f2 : Addr} {fdE fd fd1 fd2 : FuncData} (TQ : QueT K mg CQ fQ) (TB : BooT K mg CB fB) (kT : PySem.W.kitOne K (.ref C) (.ref C) = some true) (tF : ∀ (H : Hp) (x dx : Addr) (fs : List (Str × V)), H x = some (.ins C dx fs) → TyX K H (.ref x) (.ref C))
    (GE : FnOk P w K mg base CX0 1 fE fdE ["self", "other"] (spFEq K C)) (bE : Binds K fdE ["self", "other"] []) (mE : Own K C "__eq__" fE) (cE : eqCls K C fE = true)
    (c_place_in : Cal P w K mg base CX0 3 "place_in" f1 fd1 ["questions", "thing"] (spPlaceIn C CQ)) (c_ends_of : Cal P w K mg base CX0 3 "ends_of" f2 fd2 ["told"] (spEndsOf K)) (F : Fun K "__setitem__" "Book.__setitem__" (inClass (topS 68) 2) f fd) : FnOk P w K mg base CX0 4 f fd ["self", "at", "worth"] (spBSet K C CQ CB) := by
  refine F.ok scBSet (fun vs H Q E h => ?_) (fun cdv A outer s H vs Q E hr h => ?_)
  · obtain ⟨b, x, q, x', v, lo, hi, zs, ch, wts, ps, wt, rfl, _⟩ := h
    rfl
  · obtain ⟨b, x, q, x', v, lo, hi, zs, ch, wts, ps, wt, rfl, BA, QA, nm, hv, few, qq⟩ := h
    have nd := scBSet.nd
    have hu := hu_of hr
    have hr_place_in := hr
    have hr_ends_of := hr
    have hrN : Room 2 _ := hr.mono (by decide)
    refine ⟨_, (Evl.pss_cut (ps_if (pt_cmpR (op_neOwn GE bE pass0 hrN cE mE.fn) (pe_fld (pv 0) rfl) (pe_fld (pv 1) rfl) (nomark _)) (pss_one ps_no) pss_nil)
      (Evl.pss_cut (ps_set (i := 3) nd rfl (Or.inl rfl) (pe_call c_ends_of.ok hr_ends_of (by rfl) c_ends_of.g c_ends_of.kp c_ends_of.b .nil pass0 (pa_cons (pv 2) pa_nil)))
      (Evl.pss_cut (ps_if (pt_cmpR op_isN (pv 3) pe_non (nomark _)) (pss_one ps_no) pss_nil)
      (Evl.pss_cut (ps_set (i := 4) nd rfl (Or.inl rfl) (pe_call c_place_in.ok hr_place_in (by rfl) c_place_in.g c_place_in.kp c_place_in.b .nil pass0 (pa_cons (pe_fld (pv 0) rfl) (pa_cons (pv 1) pa_nil))))
      (pss_one (ps_if (pt_cmpR op_isN (pv 4) pe_non (nomark _)) (Evl.pss_cut (ps_fld (pv 0) (pe_op op_cat (pe_fld (pv 0) rfl) (pe_lst (pa_cons (pv 1) pa_nil))) rfl)
      (pss_one (ps_fld (pv 0) (pe_op op_cat (pe_fld (pv 0) rfl) (pe_lst (pa_cons (pv 3) pa_nil))) rfl))) (pss_one (ps_fld (pv 0) (pe_op op_cat (pe_op op_cat (pe_slice (kSlL K) (pe_fld (pv 0) rfl) po_none (po_some (pv 4))) (pe_lst (pa_cons (pv 3) pa_nil))) (pe_slice (kSlL K) (pe_fld (pv 0) rfl) (po_some (pe_op op_add (pv 4) pe_int)) po_none)) rfl)))))))), ?_⟩
    obtain ⟨db, lq, le, hb, FA, ⟨qs, es, h1, h2, QS, ES⟩, len⟩ := id BA
    obtain ⟨dq, td, hq, FQ, htd⟩ := id QA
    obtain ⟨dx, t, pd, hx, ht, hpd⟩ := id FA
    obtain ⟨dx', t', pd', hx', ht', hpd'⟩ := id FQ
    refine ⟨fun σ H1 => σ = [some (.ref b), some (.ref q), some v, none, none] ∧ Same H H1, ?_, ?_⟩
    · refine ⟨_, rfl, b, CB, db, _, _, rfl, hb, TB.cl, TB.nF, look_bf _ _ _, _, rfl, q, CQ, dq, _, _, rfl, hq, TQ.cl, TQ.nF, look_folders _ _, x, dx, x', dx', _, _, rfl, rfl, hx, hx', x, .ref x', .ref C, zs, ch, _, rfl, FA, nm, tF _ _ _ _ hx', .inr ⟨kT, x', zs, ch, rfl, FQ, nm, rfl⟩, fun H2 e2 => ⟨_, rfl, _, rfl, ?_⟩⟩
      rw [decide_eq_true rfl, decide_eq_true rfl]
      refine iteF ?_
      exact ⟨rfl, e2⟩
    rintro σ H1 ⟨rfl, e1⟩
    refine ⟨fun σ H2 => ∃ T, σ = [some (.ref b), some (.ref q), some v, some (.ref T), none] ∧ Same H H2 ∧ H2 T = some (.tup [lo, hi]), ?_, ?_⟩
    · exact ⟨_, rfl, v, lo, hi, rfl, hv.same e1, fun T H2 nT e2 hT => ⟨T, rfl, Same.trans e1 e2, hT⟩⟩
    rintro σ H2 ⟨T, rfl, e2, hT⟩
    refine ⟨fun σ H3 => σ = [some (.ref b), some (.ref q), some v, some (.ref T), none] ∧ H3 = H2, ?_, ?_⟩
    · refine ⟨_, rfl, rfl, _, rfl, ?_⟩
      refine iteF ?_
      exact ⟨rfl, rfl⟩
    rintro σ H3 ⟨rfl, rfl⟩
    refine ⟨fun σ H4 => σ = [some (.ref b), some (.ref q), some v, some (.ref T), some (atV (placeQ zs ch wts zs ch wt))] ∧ Same H H4 ∧ H4 T = some (.tup [lo, hi]), ?_, ?_⟩
    · exact ⟨_, rfl, b, CB, db, _, _, rfl, e2 _ _ hb, TB.cl, TB.nQ, look_bq _ _ _, _, rfl, lq, q, x', zs, zs, ch, ch, qs, wts, wt, rfl, e2 _ _ h1, QS.same e2, QA.same e2, nm, nm, fun H4 e4 => ⟨rfl, Same.trans e2 e4, e4 _ _ hT⟩⟩
    rintro σ H4 ⟨rfl, e4, hT4⟩
    have hb4 := e4 _ _ hb
    have h14 := e4 _ _ h1
    have h24 := e4 _ _ h2
    have lqs := QS.1
    have les := ES.1
    cases hp : placeQ zs ch wts zs ch wt with
    | none =>
      have qq : ∀ H', BookAt C CQ CB H' b x zs ch (wts ++ [wt]) (ps ++ [(lo, hi)]) → OffB b H H' → NewL H H' b → Q .non H' := fun H' hB o nw => qq H' (by unfold putQs putPs; rw [hp]; exact hB) o nw
      refine ⟨_, rfl, rfl, _, rfl, ?_⟩
      refine iteT ?_
      refine ⟨fun σ H5 => ∃ A, σ = [some (.ref b), some (.ref q), some v, some (.ref T), some .non] ∧ OffB b H4 H5 ∧ H5 b = some (.ins CB db (bookF x A le)) ∧ H5 A = some (.lst (qs ++ [.ref q])) ∧ H A = none, ?_, ?_⟩
      · refine ⟨_, rfl, b, CB, db, _, _, rfl, hb4, TB.cl, TB.nQ, look_bq _ _ _, _, rfl, by show 1 ≤ sizeLine; decide, fun p np => ?_⟩
        have ep := same_upd (o := HO.lst [.ref q]) np
        refine ⟨lq, p, qs, [.ref q], rfl, rfl, ep _ _ h14, upd_same, by rw [sizeLine_eq]; show qs.length + 1 ≤ _; omega, fun A nA => ?_⟩
        have eA := same_upd (o := HO.lst (qs ++ [V.ref q])) nA
        have e5 := Same.trans ep eA
        have nAb : A ≠ b := (ne_of_none (ep _ _ hb4) nA).symm
        refine ⟨_, rfl, b, CB, db, _, rfl, e5 _ _ hb4, TB.cl, TB.nQ, by show 3 < 1000; decide, A, rfl, (OffB.of e5).trans OffB.put, ?_, ?_, (Same.trans e4 ep).free nA⟩
        · rw [upd_same, book_putQ]
        · rw [upd_ne nAb, upd_same]
      rintro σ H5 ⟨A, rfl, o5, hb5, hA5, nA⟩
      have nT : T ≠ b := ne_of hT4 hb4 (fun z => nomatch z)
      have nle : le ≠ b := ne_of h24 hb4 (fun z => nomatch z)
      refine ⟨_, rfl, b, CB, db, _, _, rfl, hb5, TB.cl, TB.nE, look_be _ _ _, _, rfl, by show 1 ≤ sizeLine; decide, fun p np => ?_⟩
      have ep := same_upd (o := HO.lst [.ref T]) np
      refine ⟨le, p, es, [.ref T], rfl, rfl, ep _ _ (o5 _ _ nle h24), upd_same, by rw [sizeLine_eq]; show es.length + 1 ≤ _; omega, fun L nL => ?_⟩
      have eL := same_upd (o := HO.lst (es ++ [V.ref T])) nL
      have e6 := Same.trans ep eL
      have nLb : L ≠ b := (ne_of_none (ep _ _ hb5) nL).symm
      have nAb : A ≠ b := ne_of hA5 hb5 (fun z => nomatch z)
      refine ⟨_, rfl, b, CB, db, _, rfl, e6 _ _ hb5, TB.cl, TB.nE, by show 3 < 1000; decide, ?_⟩
      have o7 := o5.trans ((OffB.of e6).trans (OffB.put (o := .ins CB db (putF "ends" (.ref L) (bookF x A le)))))
      refine qq _ ⟨db, A, L, by rw [upd_same, book_putE], (FA.same e4).off hb4 o7, ⟨qs ++ [.ref q], es ++ [.ref T], ?_, ?_, ((QS.same e4).off hb4 o7).app (.one ((QA.same e4).offB hb4 o7)), (ends_off (ES.same stays_end e4) hb4 o7).app (.one ⟨T, rfl, o7 _ _ nT hT4⟩)⟩, by rw [List.length_append, List.length_append, len]; rfl⟩ ((OffB.of e4).trans o7) (.of (by rw [upd_same, book_putE]) (.inl nA) (.inl (e4.free (o5.free hb5 (ep.free nL)))))
      · rw [upd_ne nAb]
        exact e6 _ _ hA5
      · rw [upd_ne nLb, upd_same]
    | some i =>
      have hlt := place_lt hp
      have qq : ∀ H', BookAt C CQ CB H' b x zs ch wts (ps.take i ++ [(lo, hi)] ++ ps.drop (i + 1)) → OffB b H H' → NewL H H' b → Q .non H' := fun H' hB o nw => qq H' (by unfold putQs putPs; rw [hp]; exact hB) o nw
      refine ⟨_, rfl, rfl, _, rfl, ?_⟩
      refine iteF ?_
      have nT : T ≠ b := ne_of hT4 hb4 (fun z => nomatch z)
      refine ⟨_, rfl, b, CB, db, _, _, rfl, hb4, TB.cl, TB.nE, look_be _ _ _, _, rfl, _, rfl, le, es, rfl, SqL.of h24, fun p1 np1 => ?_⟩
      rw [cut_upto]
      have e5 := same_upd (o := HO.lst (es.take i)) np1
      refine ⟨_, rfl, by show 1 ≤ sizeLine; decide, fun p2 np2 => ?_⟩
      have e6 := Same.trans e5 (same_upd (o := HO.lst [.ref T]) np2)
      have hp1 : upd (upd H4 p1 (.lst (es.take i))) p2 (.lst [.ref T]) p1 = some (.lst (es.take i)) := (same_upd np2) _ _ upd_same
      have hp2 : upd (upd H4 p1 (.lst (es.take i))) p2 (.lst [.ref T]) p2 = some (.lst [.ref T]) := upd_same
      generalize upd (upd H4 p1 (.lst (es.take i))) p2 (.lst [.ref T]) = H6 at e6 hp1 hp2 ⊢
      have l1 : (es.take i).length ≤ es.length := by rw [List.length_take]; omega
      have l2 : (es.drop (i + 1)).length ≤ es.length := by rw [List.length_drop]; omega
      refine ⟨p1, p2, _, _, rfl, rfl, hp1, hp2, by rw [sizeLine_eq]; show (es.take i).length + 1 ≤ _; omega, fun p3 np3 => ?_⟩
      have e7 := Same.trans e6 (same_upd (o := HO.lst (es.take i ++ [.ref T])) np3)
      have hp3 : upd H6 p3 (.lst (es.take i ++ [.ref T])) p3 = some (.lst (es.take i ++ [.ref T])) := upd_same
      generalize upd H6 p3 (.lst (es.take i ++ [.ref T])) = H7 at e7 hp3 ⊢
      refine ⟨_, rfl, b, CB, db, _, _, rfl, e7 _ _ hb4, TB.cl, TB.nE, look_be _ _ _, _, rfl, (i : Int), 1, rfl, rfl, _, rfl, le, es, rfl, SqL.of (e7 _ _ h24), fun p4 np4 => ?_⟩
      rw [show ((i : Int) + 1) = ((i + 1 : Nat) : Int) from rfl, cut_from]
      have e8 := Same.trans e7 (same_upd (o := HO.lst (es.drop (i + 1))) np4)
      have hp38 : upd H7 p4 (.lst (es.drop (i + 1))) p3 = some (.lst (es.take i ++ [.ref T])) := (same_upd np4) _ _ hp3
      have hp4 : upd H7 p4 (.lst (es.drop (i + 1))) p4 = some (.lst (es.drop (i + 1))) := upd_same
      generalize upd H7 p4 (.lst (es.drop (i + 1))) = H8 at e8 hp38 hp4 ⊢
      refine ⟨p3, p4, _, _, rfl, rfl, hp38, hp4, by rw [sizeLine_eq, List.length_append]; show (es.take i).length + 1 + (es.drop (i + 1)).length ≤ _; omega, fun L nL => ?_⟩
      have e9 := Same.trans e8 (same_upd (o := HO.lst (es.take i ++ [.ref T] ++ es.drop (i + 1))) nL)
      have nLb : L ≠ b := (ne_of_none (e8 _ _ hb4) nL).symm
      refine ⟨_, rfl, b, CB, db, _, rfl, e9 _ _ hb4, TB.cl, TB.nE, by show 3 < 1000; decide, ?_⟩
      have o7 := (OffB.of e9).trans (OffB.put (b := b) (o := .ins CB db (putF "ends" (.ref L) (bookF x lq le))))
      have nlq : lq ≠ b := ne_of h14 hb4 (fun z => nomatch z)
      have ES7 := ends_off (ES.same stays_end e4) hb4 o7
      refine qq _ ⟨db, lq, L, by rw [upd_same, book_putE], (FA.same e4).off hb4 o7, ⟨qs, es.take i ++ [.ref T] ++ es.drop (i + 1), o7 _ _ nlq h14, ?_, (QS.same e4).off hb4 o7, ((ES7.take i).app (.one ⟨T, rfl, o7 _ _ nT hT4⟩)).app (ES7.drop (i + 1))⟩, ?_⟩ ((OffB.of e4).trans o7) (.of (by rw [upd_same, book_putE]) (.inr ⟨db, x, le, hb⟩) (.inl ((Same.trans e4 e8).free nL)))
      · rw [upd_ne nLb, upd_same]
      · rw [List.length_append, List.length_append, List.length_take, List.length_drop]
        show wts.length = min i ps.length + 1 + (ps.length - (i + 1))
        omega
theorem scBIn : FnScope ["self", "x"] ["self", "x"] (defScope (inClass (topS 68) 4)) := ⟨rfl, rfl, rfl, by decide +kernel, rfl, by decide +kernel, by decide +kernel⟩
theorem ok_bIn (B : Bi mg) {C CQ CB fB f f1 : Addr} {fd fd1 : FuncData} (TB : BooT K mg CB fB) (c_place_in : Cal P w K mg base CX0 3 "place_in" f1 fd1 ["questions", "thing"] (spPlaceIn C CQ)) (F : Fun K "__contains__" "Book.__contains__" (inClass (topS 68) 4) f fd) : FnOk P w K mg base CX0 4 f fd ["self", "x"] (spBIn C CQ CB) := by
  refine F.ok scBIn (fun vs H Q E h => ?_) (fun cdv A outer s H vs Q E hr h => ?_)
  · obtain ⟨b, x, q, x', zs, zs', ch, ch', wts, ps, wt, rfl, _⟩ := h
    rfl
  · obtain ⟨b, x, q, x', zs, zs', ch, ch', wts, ps, wt, rfl, BA, QA, nm, nm', qq⟩ := h
    have nd := scBIn.nd
    have hr_place_in := hr
    refine ⟨_, (pss_one (ps_ret (pe_cmpR op_notN (pe_call c_place_in.ok hr_place_in (by rfl) c_place_in.g c_place_in.kp c_place_in.b .nil pass0 (pa_cons (pe_fld (pv 0) rfl) (pa_cons (pv 1) pa_nil))) pe_non (nomark _)))), ?_⟩
    obtain ⟨db, lq, le, hb, FA, ⟨qs, es, h1, h2, QS, ES⟩, len⟩ := BA
    refine ⟨_, rfl, b, CB, db, _, _, rfl, hb, TB.cl, TB.nQ, look_bq _ _ _, _, rfl, lq, q, x', zs, zs', ch, ch', qs, wts, wt, rfl, h1, QS, QA, nm, nm', fun H1 e1 => ?_⟩
    refine ⟨rfl, ?_⟩
    have z := qq H1 e1
    cases hp : placeQ zs ch wts zs' ch' wt with
    | none => rw [hp] at z; exact z
    | some i => rw [hp] at z; exact z
theorem scBLen : FnScope ["self"] ["self"] (defScope (inClass (topS 68) 5)) := ⟨rfl, rfl, rfl, by decide +kernel, rfl, by decide +kernel, by decide +kernel⟩
theorem ok_bLen (B : Bi mg) {C CQ CB fB f : Addr} {fd : FuncData} (TB : BooT K mg CB fB) (F : Fun K "__len__" "Book.__len__" (inClass (topS 68) 5) f fd) : FnOk P w K mg base CX0 1 f fd ["self"] (spBLen C CQ CB) := by
  refine F.ok scBLen (fun vs H Q E h => ?_) (fun cdv A outer s H vs Q E hr h => ?_)
  · obtain ⟨b, x, zs, ch, wts, ps, rfl, _⟩ := h
    rfl
  · obtain ⟨b, x, zs, ch, wts, ps, rfl, BA, qq⟩ := h
    have nd := scBLen.nd
    refine ⟨_, (pss_one (ps_ret (pe_callB (kLen K) (by rfl) B.len PySem.boot_len (pa_cons (pe_fld (pv 0) rfl) pa_nil)))), ?_⟩
    obtain ⟨db, lq, le, hb, FA, ⟨qs, es, h1, h2, QS, ES⟩, len⟩ := BA
    refine ⟨_, rfl, b, CB, db, _, _, rfl, hb, TB.cl, TB.nQ, look_bq _ _ _, .ref lq, qs.length, rfl, .inl ⟨qs, SqL.of h1, rfl⟩, ?_⟩
    rw [QS.1]
    exact qq
theorem scBTold : FnScope ["self", "question", "low", "high"] ["self"] (defScope (inClass (topS 68) 6)) := ⟨rfl, rfl, rfl, by decide +kernel, rfl, by decide +kernel, by decide +kernel⟩
theorem ok_bTold (B : Bi mg) {C CQ CB fB f : Addr} {fd : FuncData} (TB : BooT K mg CB fB) (F : Fun K "told" "Book.told" (inClass (topS 68) 6) f fd) : FnOk P w K mg base CX0 1 f fd ["self"] (spBTold C CQ CB) := by
  refine F.ok scBTold (fun vs H Q E h => ?_) (fun cdv A outer s H vs Q E hr h => ?_)
  · obtain ⟨b, x, zs, ch, wts, ps, rfl, _⟩ := h
    rfl
  · obtain ⟨b, x, zs, ch, wts, ps, rfl, BA, few, qq⟩ := h
    have nd := scBTold.nd
    refine ⟨_, (pss_one (ps_ret (pe_lc (own := [("question", 1), ("low", 2), ("high", 3)]) rfl nd (kPiZ K (by rfl) B.zip (pa_cons (pe_fld (pv 0) rfl) (pa_cons (pe_fld (pv 0) rfl) pa_nil))) (blkOk_by (N := ["self", "question", "low", "high"]) (sc := defScope (inClass (topS 68) 6)) (by decide +kernel)) (fun _ _ _ _ _ => (kTg K 2 rfl (pgs_cons (pg_name (i := 1) nd rfl (Or.inl rfl)) (pgs_cons (kTg K 2 rfl (pgs_cons (pg_name (i := 2) nd rfl (Or.inl rfl)) (pgs_cons (pg_name (i := 3) nd rfl (Or.inl rfl)) pgs_nil))) pgs_nil)))) (fun _ _ _ _ _ => pts_nil) (fun _ _ _ _ _ => (pe_tup (pa_cons (pv 1) (pa_cons (pv 2) (pa_cons (pv 3) pa_nil)))))))), ?_⟩
    obtain ⟨db, lq, le, hb, FA, ⟨qs, es, h1, h2, QS, ES⟩, len⟩ := BA
    have lqs := QS.1
    have les := ES.1
    have lz : (wts.zip ps).length = wts.length := by rw [List.length_zip, len, Nat.min_self]
    refine ⟨_, rfl, b, CB, db, _, _, rfl, hb, TB.cl, TB.nQ, look_bq _ _ _, _, rfl, b, CB, db, _, _, rfl, hb, TB.cl, TB.nE, look_be _ _ _, lq, le, qs, es, rfl, .inl ⟨SqL.of h1, SqL.of h2, fun D nD => ?_⟩⟩
    refine lc_it (walk_zip (xs := qs) (ys := es) (n := wts.length) (by rw [lqs, les, ← len, Nat.min_self])) (fun k H' => ∃ ts : List V, ts.length = k ∧ Same H H' ∧ H' D = some (.lst ts) ∧ Told (TelAt C CQ zs ch) H' ts ((wts.zip ps).take k)) ⟨[], rfl, same_upd nD, upd_same, Told.nil⟩ (fun k H' _ ⟨ts, _, e, _, _⟩ => ⟨SqL.of (e _ _ h1), SqL.of (e _ _ h2)⟩) ?_ ?_
    · rintro k y H' H2 hk ⟨ts, lt, e, hD, tt⟩ ⟨T, y1, y2, rfl, nT, rfl, hy1, hy2⟩
      have hk1 : wts[k]? = some (wts[k]) := List.getElem?_eq_getElem hk
      have hk2 : ps[k]? = some (ps[k]'(by omega)) := List.getElem?_eq_getElem (by omega)
      have eT := same_upd (o := HO.tup [y1, y2]) nT
      have e2 := Same.trans e eT
      obtain ⟨q, x', rfl, QA⟩ := (QS.same e2).2 k _ _ hy1 hk1
      obtain ⟨T2, rfl, hT2⟩ := (ES.same stays_end e2).2 k _ _ hy2 hk2
      refine ⟨T, _, rfl, SqT.of upd_same, rfl, _, _, rfl, _, _, rfl, T2, _, rfl, SqT.of hT2, rfl, _, _, rfl, _, _, rfl, rfl, rfl, ?_⟩
      refine ⟨rfl, yes2 ?_⟩
      generalize upd H' T (.tup [.ref q, .ref T2]) = H2 at eT e2 QA hT2 ⊢
      refine ⟨_, rfl, _, rfl, _, rfl, by show 3 ≤ sizeLine; decide, fun p np => ?_⟩
      have ep := same_upd (o := HO.tup [.ref q, (ps[k]'(by omega)).1, (ps[k]'(by omega)).2]) np
      have e3 := Same.trans eT ep
      have hD3 := e3 _ _ hD
      refine ⟨ts, hD3, Evl.sz_lt (by omega), ts ++ [.ref p], by rw [List.length_append, lt]; rfl, Same.grow (Same.trans e e3) nD, upd_same, ?_⟩
      rw [take_succ (x := (wts[k], ps[k]'(by omega))) (List.getElem?_zip_eq_some.mpr ⟨hk1, hk2⟩)]
      exact ((tt.same stays_tel e3).snoc ⟨p, q, x', rfl, upd_same, QA.same ep⟩).up stays_tel hD3
    · rintro H' ⟨ts, lt, e, hD, tt⟩
      rw [List.take_of_length_le (by rw [lz]; exact Nat.le_refl _)] at tt
      exact qq D ts H' nD e hD tt
theorem scBDrop : FnScope ["self", "question", "place"] ["self", "question"] (defScope (inClass (topS 68) 7)) := ⟨rfl, rfl, rfl, by decide +kernel, rfl, by decide +kernel, by decide +kernel⟩
theorem ok_bDrop (B : Bi mg) {C CQ CB fB f f1 : Addr} {fd fd1 : FuncData} (TB : BooT K mg CB fB) (c_place_in : Cal P w K mg base CX0 3 "place_in" f1 fd1 ["questions", "thing"] (spPlaceIn C CQ)) (F : Fun K "drop" "Book.drop" (inClass (topS 68) 7) f fd) : FnOk P w K mg base CX0 4 f fd ["self", "question"] (spBDrop C CQ CB) := by
  refine F.ok scBDrop (fun vs H Q E h => ?_) (fun cdv A outer s H vs Q E hr h => ?_)
  · obtain ⟨b, x, q, x', zs, ch, wts, ps, wt, i, rfl, _⟩ := h
    rfl
  · obtain ⟨b, x, q, x', zs, ch, wts, ps, wt, i, rfl, BA, QA, nm, hp, few, qq⟩ := h
    have nd := scBDrop.nd
    have hr_place_in := hr
    refine ⟨_, (Evl.pss_cut (ps_set (i := 2) nd rfl (Or.inl rfl) (pe_call c_place_in.ok hr_place_in (by rfl) c_place_in.g c_place_in.kp c_place_in.b .nil pass0 (pa_cons (pe_fld (pv 0) rfl) (pa_cons (pv 1) pa_nil))))
      (Evl.pss_cut (ps_if (pt_cmpR op_isN (pv 2) pe_non (nomark _)) (pss_one ps_no) pss_nil)
      (Evl.pss_cut (ps_fld (pv 0) (pe_op op_cat (pe_slice (kSlL K) (pe_fld (pv 0) rfl) po_none (po_some (pv 2))) (pe_slice (kSlL K) (pe_fld (pv 0) rfl) (po_some (pe_op op_add (pv 2) pe_int)) po_none)) rfl)
      (pss_one (ps_fld (pv 0) (pe_op op_cat (pe_slice (kSlL K) (pe_fld (pv 0) rfl) po_none (po_some (pv 2))) (pe_slice (kSlL K) (pe_fld (pv 0) rfl) (po_some (pe_op op_add (pv 2) pe_int)) po_none)) rfl))))), ?_⟩
    obtain ⟨db, lq, le, hb, FA, ⟨qs, es, h1, h2, QS, ES⟩, len⟩ := id BA
    have lqs := QS.1
    have les := ES.1
    have hlt := place_lt hp
    refine ⟨fun σ H1 => σ = [some (.ref b), some (.ref q), some (.int (i : Int))] ∧ Same H H1, ?_, ?_⟩
    · refine ⟨_, rfl, b, CB, db, _, _, rfl, hb, TB.cl, TB.nQ, look_bq _ _ _, _, rfl, lq, q, x', zs, zs, ch, ch, qs, wts, wt, rfl, h1, QS, QA, nm, nm, fun H1 e1 => ?_⟩
      rw [hp]
      exact ⟨rfl, e1⟩
    rintro σ H1 ⟨rfl, e1⟩
    refine ⟨fun σ H2 => σ = [some (.ref b), some (.ref q), some (.int (i : Int))] ∧ H2 = H1, ?_, ?_⟩
    · refine ⟨_, rfl, rfl, _, rfl, ?_⟩
      refine iteF ?_
      exact ⟨rfl, rfl⟩
    rintro σ H2 ⟨rfl, rfl⟩
    have hb2 := e1 _ _ hb
    have h12 := e1 _ _ h1
    have h22 := e1 _ _ h2
    refine ⟨fun σ H3 => ∃ A, σ = [some (.ref b), some (.ref q), some (.int (i : Int))] ∧ OffB b H2 H3 ∧ H3 b = some (.ins CB db (bookF x A le)) ∧ H3 A = some (.lst (qs.take i ++ qs.drop (i + 1))) ∧ H A = none, ?_, ?_⟩
    · skip
      refine ⟨_, rfl, b, CB, db, _, _, rfl, hb2, TB.cl, TB.nQ, look_bq _ _ _, _, rfl, _, rfl, lq, qs, rfl, SqL.of h12, fun p1 np1 => ?_⟩
      rw [cut_upto]
      have e5 := same_upd (o := HO.lst (qs.take i)) np1
      have hp1 : upd H2 p1 (.lst (qs.take i)) p1 = some (.lst (qs.take i)) := upd_same
      generalize upd H2 p1 (.lst (qs.take i)) = G1 at e5 hp1 ⊢
      refine ⟨_, rfl, b, CB, db, _, _, rfl, e5 _ _ hb2, TB.cl, TB.nQ, look_bq _ _ _, _, rfl, (i : Int), 1, rfl, rfl, _, rfl, lq, qs, rfl, SqL.of (e5 _ _ h12), fun p2 np2 => ?_⟩
      rw [show ((i : Int) + 1) = ((i + 1 : Nat) : Int) from rfl, cut_from]
      have e6 := Same.trans e5 (same_upd (o := HO.lst (qs.drop (i + 1))) np2)
      have hp16 : upd G1 p2 (.lst (qs.drop (i + 1))) p1 = some (.lst (qs.take i)) := (same_upd np2) _ _ hp1
      have hp26 : upd G1 p2 (.lst (qs.drop (i + 1))) p2 = some (.lst (qs.drop (i + 1))) := upd_same
      generalize upd G1 p2 (.lst (qs.drop (i + 1))) = G2 at e6 hp16 hp26 ⊢
      have l1 : (qs.take i).length ≤ qs.length := by rw [List.length_take]; omega
      have l2 : (qs.drop (i + 1)).length ≤ qs.length := by rw [List.length_drop]; omega
      refine ⟨p1, p2, _, _, rfl, rfl, hp16, hp26, by rw [sizeLine_eq]; omega, fun L nL => ?_⟩
      have e7 := Same.trans e6 (same_upd (o := HO.lst (qs.take i ++ qs.drop (i + 1))) nL)
      have nLb : L ≠ b := (ne_of_none (e6 _ _ hb2) nL).symm
      have hL : upd G2 L (.lst (qs.take i ++ qs.drop (i + 1))) L = some (.lst (qs.take i ++ qs.drop (i + 1))) := upd_same
      generalize upd G2 L (.lst (qs.take i ++ qs.drop (i + 1))) = G3 at e7 hL ⊢
      refine ⟨_, rfl, b, CB, db, _, rfl, e7 _ _ hb2, TB.cl, TB.nQ, by show 3 < 1000; decide, L, rfl, (OffB.of e7).trans OffB.put, ?_, ?_, (Same.trans e1 e6).free nL⟩
      · rw [upd_same, book_putQ]
      · rw [upd_ne nLb]
        exact hL
    · rintro σ H3 ⟨A, rfl, o3, hb3, hA3, nA⟩
      have nle : le ≠ b := ne_of h22 hb2 (fun z => nomatch z)
      have h23 := o3 _ _ nle h22
      have nAb : A ≠ b := ne_of hA3 hb3 (fun z => nomatch z)
      refine ⟨_, rfl, b, CB, db, _, _, rfl, hb3, TB.cl, TB.nE, look_be _ _ _, _, rfl, _, rfl, le, es, rfl, SqL.of h23, fun p1 np1 => ?_⟩
      rw [cut_upto]
      have e5 := same_upd (o := HO.lst (es.take i)) np1
      have hp1 : upd H3 p1 (.lst (es.take i)) p1 = some (.lst (es.take i)) := upd_same
      generalize upd H3 p1 (.lst (es.take i)) = G1 at e5 hp1 ⊢
      refine ⟨_, rfl, b, CB, db, _, _, rfl, e5 _ _ hb3, TB.cl, TB.nE, look_be _ _ _, _, rfl, (i : Int), 1, rfl, rfl, _, rfl, le, es, rfl, SqL.of (e5 _ _ h23), fun p2 np2 => ?_⟩
      rw [show ((i : Int) + 1) = ((i + 1 : Nat) : Int) from rfl, cut_from]
      have e6 := Same.trans e5 (same_upd (o := HO.lst (es.drop (i + 1))) np2)
      have hp16 : upd G1 p2 (.lst (es.drop (i + 1))) p1 = some (.lst (es.take i)) := (same_upd np2) _ _ hp1
      have hp26 : upd G1 p2 (.lst (es.drop (i + 1))) p2 = some (.lst (es.drop (i + 1))) := upd_same
      generalize upd G1 p2 (.lst (es.drop (i + 1))) = G2 at e6 hp16 hp26 ⊢
      have l1 : (es.take i).length ≤ es.length := by rw [List.length_take]; omega
      have l2 : (es.drop (i + 1)).length ≤ es.length := by rw [List.length_drop]; omega
      refine ⟨p1, p2, _, _, rfl, rfl, hp16, hp26, by rw [sizeLine_eq]; omega, fun L nL => ?_⟩
      have e7 := Same.trans e6 (same_upd (o := HO.lst (es.take i ++ es.drop (i + 1))) nL)
      have nLb : L ≠ b := (ne_of_none (e6 _ _ hb3) nL).symm
      have hL : upd G2 L (.lst (es.take i ++ es.drop (i + 1))) L = some (.lst (es.take i ++ es.drop (i + 1))) := upd_same
      generalize upd G2 L (.lst (es.take i ++ es.drop (i + 1))) = G3 at e7 hL ⊢
      refine ⟨_, rfl, b, CB, db, _, rfl, e7 _ _ hb3, TB.cl, TB.nE, by show 3 < 1000; decide, ?_⟩
      have o7 := o3.trans ((OffB.of e7).trans (OffB.put (b := b) (o := .ins CB db (putF "ends" (.ref L) (bookF x A le)))))
      have QS7 := (QS.same e1).off hb2 o7
      have ES7 := ends_off (ES.same stays_end e1) hb2 o7
      refine qq _ ⟨db, A, L, by rw [upd_same, book_putE], (FA.same e1).off hb2 o7, ⟨_, _, ?_, ?_, (QS7.take i).app (QS7.drop (i + 1)), (ES7.take i).app (ES7.drop (i + 1))⟩, ?_⟩ ((OffB.of e1).trans o7) (.of (by rw [upd_same, book_putE]) (.inl nA) (.inl (e1.free (o3.free hb3 (e6.free nL)))))
      · rw [upd_ne nAb]
        exact e7 _ _ hA3
      · rw [upd_ne nLb]
        exact hL
      · rw [List.length_append, List.length_append, List.length_take, List.length_take, List.length_drop, List.length_drop, len]
theorem scBCopy : FnScope ["self", "other"] ["self"] (defScope (inClass (topS 68) 8)) := ⟨rfl, rfl, rfl, by decide +kernel, rfl, by decide +kernel, by decide +kernel⟩
theorem ok_bCopy (B : Bi mg) {C CQ CB fB f : Addr} {fdB fd : FuncData} (TB : BooT K mg CB fB) (GB : FnOk P w K mg base CX0 1 fB fdB ["self", "folders"] (spBookI C CQ CB)) (bB : Binds K fdB ["self", "folders"] []) (F : Fun K "copy" "Book.copy" (inClass (topS 68) 8) f fd) : FnOk P w K mg base CX0 3 f fd ["self"] (spBCopy C CQ CB) := by
  refine F.ok scBCopy (fun vs H Q E h => ?_) (fun cdv A outer s H vs Q E hr h => ?_)
  · obtain ⟨b, x, zs, ch, wts, ps, rfl, _⟩ := h
    rfl
  · obtain ⟨b, x, zs, ch, wts, ps, rfl, BA, qq⟩ := h
    have nd := scBCopy.nd
    have hrB := hr
    refine ⟨_, (Evl.pss_cut (ps_set (i := 1) nd rfl (Or.inl rfl) (pe_make TB.make GB hrB (by rfl) TB.g bB .nil pass0 (pa_cons (pe_fld (pv 0) rfl) pa_nil)))
      (Evl.pss_cut (ps_fld (pv 1) (pe_callTy (kList K) (by rfl) B.list (by decide +kernel) (pa_cons (pe_fld (pv 0) rfl) pa_nil)) rfl)
      (Evl.pss_cut (ps_fld (pv 1) (pe_callTy (kList K) (by rfl) B.list (by decide +kernel) (pa_cons (pe_fld (pv 0) rfl) pa_nil)) rfl)
      (pss_one (ps_ret (pv 1)))))), ?_⟩
    obtain ⟨db, lq, le, hb, FA, ⟨qs, es, h1, h2, QS, ES⟩, len⟩ := id BA
    refine ⟨fun σ H1 => ∃ c dc l1 l2, σ = [some (.ref b), some (.ref c)] ∧ H c = none ∧ Same H H1 ∧ H1 c = some (.ins CB dc (bookF x l1 l2)), ?_, ?_⟩
    · refine ⟨_, rfl, b, CB, db, _, _, rfl, hb, TB.cl, TB.nF, look_bf _ _ _, fun c dc nc ndc hne => ?_⟩
      have e1 := Same.grow (o := HO.ins CB dc []) (Same.grow (o := HO.own c) (Same.refl H) ndc) nc
      refine ⟨c, dc, x, zs, ch, rfl, upd_same, FA.same e1, fun H1 BN o1 _ => ⟨rfl, ?_⟩⟩
      obtain ⟨d', l1, l2, hc, _⟩ := BN
      exact ⟨c, d', l1, l2, rfl, nc, fun a u h => o1 _ _ (ne_of_none h nc) (e1 _ _ h), hc⟩
    rintro σ H1 ⟨c, dc, l1, l2, rfl, nc, e1, hc⟩
    have nlq : lq ≠ c := ne_of_none h1 nc
    have nle : le ≠ c := ne_of_none h2 nc
    have nbc : b ≠ c := ne_of_none hb nc
    refine ⟨fun σ H2 => ∃ A, σ = [some (.ref b), some (.ref c)] ∧ Same H H2 ∧ H2 c = some (.ins CB dc (bookF x A l2)) ∧ H2 A = some (.lst qs) ∧ H A = none, ?_, ?_⟩
    · refine ⟨_, rfl, b, CB, db, _, _, rfl, e1 _ _ hb, TB.cl, TB.nQ, look_bq _ _ _, lq, qs, rfl, .inl (SqL.of (e1 _ _ h1)), fun A nA => ?_⟩
      have eA := same_upd (o := HO.lst qs) nA
      have nAc : A ≠ c := (ne_of_none hc nA).symm
      refine ⟨_, rfl, c, CB, dc, _, rfl, eA _ _ hc, TB.cl, TB.nQ, by show 3 < 1000; decide, A, rfl, fun a u h => ?_, ?_, ?_, e1.free nA⟩
      · rw [upd_ne (ne_of_none h nc)]
        exact eA _ _ (e1 _ _ h)
      · rw [upd_same, book_putQ]
      · rw [upd_ne nAc, upd_same]
    rintro σ H2 ⟨A, rfl, e2, hc2, hA2, nA⟩
    refine ⟨fun σ H3 => ∃ L, σ = [some (.ref b), some (.ref c)] ∧ Same H H3 ∧ H3 c = some (.ins CB dc (bookF x A L)) ∧ H3 A = some (.lst qs) ∧ H3 L = some (.lst es) ∧ H L = none, ?_, ?_⟩
    · refine ⟨_, rfl, b, CB, db, _, _, rfl, e2 _ _ hb, TB.cl, TB.nE, look_be _ _ _, le, es, rfl, .inl (SqL.of (e2 _ _ h2)), fun L nL => ?_⟩
      have eL := same_upd (o := HO.lst es) nL
      have nLc : L ≠ c := (ne_of_none hc2 nL).symm
      have nAc : A ≠ c := ne_of hA2 hc2 (fun z => nomatch z)
      refine ⟨_, rfl, c, CB, dc, _, rfl, eL _ _ hc2, TB.cl, TB.nE, by show 3 < 1000; decide, L, rfl, fun a u h => ?_, ?_, ?_, ?_, e2.free nL⟩
      · rw [upd_ne (ne_of_none h nc)]
        exact eL _ _ (e2 _ _ h)
      · rw [upd_same, book_putE]
      · rw [upd_ne nAc]
        exact eL _ _ hA2
      · rw [upd_ne nLc, upd_same]
    rintro σ H3 ⟨L, rfl, e3, hc3, hA3, hL3, nL⟩
    exact ⟨_, rfl, qq c H3 nc e3 ⟨dc, A, L, hc3, FA.same e3, ⟨qs, es, hA3, hL3, QS.same e3, ES.same stays_end e3⟩, len⟩ (.of hc3 (.inl nA) (.inl nL))⟩
theorem scBIter : FnScope ["self"] ["self"] (defScope (inClass (topS 68) 3)) := ⟨rfl, rfl, rfl, by decide +kernel, rfl, by decide +kernel, by decide +kernel⟩
theorem ok_bIter (B : Bi mg) (gi : mg "iter" = none) {C CQ CB fB f : Addr} {fd : FuncData} (TB : BooT K mg CB fB) (F : Fun K "__iter__" "Book.__iter__" (inClass (topS 68) 3) f fd) : FnS P w K mg base 1 f fd ["self"] (spBIter C CQ CB) := by
  refine Bk.Fun.okS F scBIter (fun n vs H Q E h => ?_) (fun cdv A outer s H vs Q E hr h => ?_)
  · obtain ⟨b, x, db, lq, le, qs, rfl, _⟩ := h
    rfl
  · obtain ⟨b, x, db, lq, le, qs, rfl, hb, h1, qq⟩ := h
    have nd := scBIter.nd
    refine ⟨_, (pss_one (ps_ret (pe_callB ItX.call_iterN (by rfl) gi (by decide +kernel) (pa_cons (pe_fld (pv 0) rfl) pa_nil)))), ?_⟩
    exact ⟨_, rfl, b, CB, db, _, _, rfl, hb, TB.cl, TB.nQ, look_bq _ _ _, lq, qs, rfl, SqL.of h1, fun it ni hi => qq it ni hi⟩
end
end Bk

namespace Bk
open PySem PySem.Spec PyProof.Rows L2
/-- ends as they are handed over: a number, a pair that never changes, or a new list -/
def HandAt (H H' : Hp) (hv lo hi : V) : Prop := (∃ v, hv = .int v ∧ lo = .int v ∧ hi = .int v) ∨ ∃ a, hv = .ref a ∧ EndOk lo hi ∧ (H' a = some (.tup [lo, hi]) ∨ (H a = none ∧ H' a = some (.lst [lo, hi])))
theorem five_pick (j : Nat) (h : j < 5) : ∃ a : Int, [V.int 0, .int 0, .int 1, .int 3, .int 10].getD j .non = .int a ∧ 0 ≤ a ∧ a ≤ 10 := by
  match j, h with
  | 0, _ => exact ⟨0, rfl, by decide, by decide⟩
  | 1, _ => exact ⟨0, rfl, by decide, by decide⟩
  | 2, _ => exact ⟨1, rfl, by decide, by decide⟩
  | 3, _ => exact ⟨3, rfl, by decide, by decide⟩
  | 4, _ => exact ⟨10, rfl, by decide, by decide⟩
  | j + 5, h => omega
theorem kept_new {st c : Addr} {H H' : Hp} {L : Addr} {n : Nat} (k : Kept st c H H') (S : Strm H' st c n) (nL : H' L = none) : H L = none := by
  obtain ⟨h1, h2⟩ := S.notfree nL
  cases e : H L with
  | none => rfl
  | some u =>
    have := k _ _ h1 h2 e
    rw [nL] at this
    cases this
def spKEnds : Sp := fun vs H Q _ => ∃ (st c : Addr) (n : Nat) (v : Int), vs = [.ref st, .int v] ∧ Strm H st c n ∧ n ≤ 700000 ∧ v.natAbs < 2 ^ 60 ∧
  ∀ T lo hi hv H', Strm H' st c (n + 4) → Kept st c H H' → H' T = some (.tup [lo, hi, hv]) → HandAt H H' hv lo hi → Q (.ref T) H'
section
variable {P : Program} {w : World} {K : PySem.W.Frag} {mg : Str → Option Value} {base : Heap}
theorem scKEnds : FnScope ["_law_stream", "_law_value", "_law_low", "_law_high", "_law_way", "_law_ends"] ["_law_stream", "_law_value"] (defScope (topS 96)) := ⟨rfl, rfl, rfl, by decide +kernel, rfl, by decide +kernel, by decide +kernel⟩
theorem ok_kends (B : Bi mg) {f f1 f2 : Addr} {fd fd1 fd2 : FuncData} (c__law_draw : Cal P w K mg base CX0 1 "_law_draw" f1 fd1 ["_law_stream", "_law_many"] spDraw) (c__law_pick : Cal P w K mg base CX0 2 "_law_pick" f2 fd2 ["_law_stream", "_law_some"] (spPick K))
    (F : Fun K "_law_k_ends" "_law_k_ends" (topS 96) f fd) : FnOk P w K mg base CX0 3 f fd ["_law_stream", "_law_value"] spKEnds := by
  refine F.ok scKEnds (fun vs H Q E h => ?_) (fun cdv A outer s H vs Q E hr h => ?_)
  · obtain ⟨st, c, n, v, rfl, _⟩ := h
    rfl
  · obtain ⟨st, c, n, v, rfl, S, hn, hv, qq⟩ := h
    have nd := scKEnds.nd
    have hu := hu_of hr
    have hr__law_pick := hr
    have hr__law_draw : Room 1 _ := hr.mono (by decide)
    refine ⟨_, (Evl.pss_cut (ps_par (i := 2) (j := 3) rfl nd rfl rfl (by decide) rfl rfl (pa_cons (pe_op op_sub (pv 1) (pe_call c__law_pick.ok hr__law_pick (by rfl) c__law_pick.g c__law_pick.kp c__law_pick.b .nil pass0 (pa_cons (pv 0) (pa_cons (pe_lst (pa_cons pe_int (pa_cons pe_int (pa_cons pe_int (pa_cons pe_int (pa_cons pe_int pa_nil)))))) pa_nil)))) (pa_cons (pe_op op_add (pv 1) (pe_call c__law_pick.ok hr__law_pick (by rfl) c__law_pick.g c__law_pick.kp c__law_pick.b .nil pass0 (pa_cons (pv 0) (pa_cons (pe_lst (pa_cons pe_int (pa_cons pe_int (pa_cons pe_int (pa_cons pe_int (pa_cons pe_int pa_nil)))))) pa_nil)))) pa_nil)) (by rfl))
      (Evl.pss_cut (ps_set (i := 4) nd rfl (Or.inl rfl) (pe_call c__law_draw.ok hr__law_draw (by rfl) c__law_draw.g c__law_draw.kp c__law_draw.b .nil pass0 (pa_cons (pv 0) (pa_cons pe_int pa_nil))))
      (Evl.pss_cut (ps_if (pt_cmpR op_lt (pv 4) pe_int (nomark _)) (pss_one (ps_ret (pe_tup (pa_cons (pv 1) (pa_cons (pv 1) (pa_cons (pv 1) pa_nil)))))) pss_nil)
      (Evl.pss_cut (ps_set (i := 5) nd rfl (Or.inl rfl) (pe_ix (kIxL K) (pe_lst (pa_cons (pe_tup (pa_cons (pv 2) (pa_cons (pv 3) pa_nil))) (pa_cons (pe_tup (pa_cons pe_non (pa_cons (pv 3) pa_nil))) (pa_cons (pe_tup (pa_cons (pv 2) (pa_cons pe_non pa_nil))) pa_nil)))) (pe_op op_sub (pv 4) pe_int) (fun _ _ => rfl)))
      (pss_one (ps_ret (pe_op (kCatA K) (pv 5) (pe_tup (pa_cons (pe_call c__law_pick.ok hr__law_pick (by rfl) c__law_pick.g c__law_pick.kp c__law_pick.b .nil pass0 (pa_cons (pv 0) (pa_cons (pe_lst (pa_cons (pv 5) (pa_cons (pe_callTy (kList K) (by rfl) B.list (by decide +kernel) (pa_cons (pv 5) pa_nil)) pa_nil))) pa_nil))) pa_nil))))))))), ?_⟩
    -- the two ends
    refine ⟨fun σ H1 => ∃ lo hi : Int, lo ≤ hi ∧ σ = [some (.ref st), some (.int v), some (.int lo), some (.int hi), none, none] ∧ Strm H1 st c (n + 2) ∧ Kept st c H H1, ?_, ?_⟩
    · refine ⟨_, rfl, _, rfl, by show 5 ≤ sizeLine; decide, fun p1 np1 => ?_⟩
      have e1 := same_upd (o := HO.lst [V.int 0, .int 0, .int 1, .int 3, .int 10]) np1
      obtain ⟨p11, p12⟩ := S.notfree np1
      refine ⟨st, c, n, _, .ref p1, _, rfl, S.same e1, by omega, by show 0 < 5; decide, by show 5 < 1000000; decide, pk_lst (SqL.of upd_same) p11 p12, fun j1 H2 hj1 S2 k2 => ?_⟩
      obtain ⟨a, ea, a0, a1⟩ := five_pick j1 hj1
      refine ⟨v, a, rfl, ea, ?_⟩
      refine ⟨_, rfl, _, rfl, by show 5 ≤ sizeLine; decide, fun p2 np2 => ?_⟩
      have e2 := same_upd (o := HO.lst [V.int 0, .int 0, .int 1, .int 3, .int 10]) np2
      obtain ⟨p21, p22⟩ := S2.notfree np2
      refine ⟨st, c, n + 1, _, .ref p2, _, rfl, S2.same e2, by omega, by show 0 < 5; decide, by show 5 < 1000000; decide, pk_lst (SqL.of upd_same) p21 p22, fun j2 H3 hj2 S3 k3 => ?_⟩
      obtain ⟨b, eb, b0, b1⟩ := five_pick j2 hj2
      exact ⟨v, b, rfl, eb, _, _, rfl, v - a, v + b, by omega, rfl, S3, ((Same.kept e1).trans k2).trans ((Same.kept e2).trans k3)⟩
    rintro σ H1 ⟨lo, hi, le, rfl, S1, k1⟩
    refine ⟨fun σ H2 => ∃ d : Int, 0 ≤ d ∧ d < 5 ∧ σ = [some (.ref st), some (.int v), some (.int lo), some (.int hi), some (.int d), none] ∧ Strm H2 st c (n + 3) ∧ Kept st c H H2, ?_, ?_⟩
    · exact ⟨_, rfl, st, c, n + 2, 5, rfl, S1, by omega, by decide, by decide, fun d H2 d0 d5 S2 k2 => ⟨d, d0, d5, rfl, S2, k1.trans k2⟩⟩
    rintro σ H2 ⟨d, d0, d5, rfl, S2, k2⟩
    refine ⟨fun σ H3 => 2 ≤ d ∧ σ = [some (.ref st), some (.int v), some (.int lo), some (.int hi), some (.int d), none] ∧ H3 = H2, ?_, ?_⟩
    · refine ⟨_, rfl, d, 2, rfl, rfl, _, rfl, ?_⟩
      refine ite2 (fun _ => ?_) (fun hd => ?_)
      · refine ⟨_, rfl, _, rfl, _, rfl, by show 3 ≤ sizeLine; decide, fun T nT => ?_⟩
        have eT := same_upd (o := HO.tup [V.int v, .int v, .int v]) nT
        exact qq T (.int v) (.int v) (.int v) _ ((S2.same eT).more (by omega)) (k2.trans (Same.kept eT)) upd_same (.inl ⟨v, rfl, rfl, rfl⟩)
      · exact ⟨by
          have : ¬ d < 2 := fun z => hd (decide_eq_true z)
          omega, rfl, rfl⟩
    rintro σ H3 ⟨d2, rfl, rfl⟩
    refine ⟨fun σ H4 => ∃ E lo' hi', σ = [some (.ref st), some (.int v), some (.int lo), some (.int hi), some (.int d), some (.ref E)] ∧ Strm H4 st c (n + 3) ∧ Kept st c H H4 ∧ H4 E = some (.tup [lo', hi']) ∧ EndOk lo' hi', ?_, ?_⟩
    · refine ⟨_, rfl, _, rfl, by show 2 ≤ sizeLine; decide, fun p1 np1 => ?_⟩
      have e1 := same_upd (o := HO.tup [V.int lo, .int hi]) np1
      have h1 : upd H3 p1 (.tup [V.int lo, .int hi]) p1 = some (.tup [V.int lo, .int hi]) := upd_same
      generalize upd H3 p1 (.tup [V.int lo, .int hi]) = G1 at e1 h1 ⊢
      refine ⟨_, rfl, by show 2 ≤ sizeLine; decide, fun p2 np2 => ?_⟩
      have e2 := same_upd (o := HO.tup [V.non, .int hi]) np2
      have h2 : upd G1 p2 (.tup [V.non, .int hi]) p2 = some (.tup [V.non, .int hi]) := upd_same
      generalize upd G1 p2 (.tup [V.non, .int hi]) = G2 at e2 h2 ⊢
      refine ⟨_, rfl, by show 2 ≤ sizeLine; decide, fun p3 np3 => ?_⟩
      have e3 := same_upd (o := HO.tup [V.int lo, .non]) np3
      have h3 : upd G2 p3 (.tup [V.int lo, .non]) p3 = some (.tup [V.int lo, .non]) := upd_same
      generalize upd G2 p3 (.tup [V.int lo, .non]) = G3 at e3 h3 ⊢
      refine ⟨by show 3 ≤ sizeLine; decide, fun L nL => ?_⟩
      have e4 := same_upd (o := HO.lst [V.ref p1, .ref p2, .ref p3]) nL
      have e04 := Same.trans e1 (Same.trans e2 (Same.trans e3 e4))
      have S4 := S2.same e04
      have k4 := k2.trans (Same.kept e04)
      have hd : d = 2 ∨ d = 3 ∨ d = 4 := by omega
      rcases hd with rfl | rfl | rfl
      · exact ⟨_, rfl, 2, 2, rfl, rfl, L, _, 0, .ref p1, rfl, rfl, SqL.of upd_same, rfl, p1, _, _, rfl, S4, k4, (Same.trans e2 (Same.trans e3 e4)) _ _ h1, .inr (.inr ⟨lo, hi, rfl, rfl, le⟩)⟩
      · exact ⟨_, rfl, 3, 2, rfl, rfl, L, _, 1, .ref p2, rfl, rfl, SqL.of upd_same, rfl, p2, _, _, rfl, S4, k4, (Same.trans e3 e4) _ _ h2, .inl ⟨rfl, hi, rfl⟩⟩
      · exact ⟨_, rfl, 4, 2, rfl, rfl, L, _, 2, .ref p3, rfl, rfl, SqL.of upd_same, rfl, p3, _, _, rfl, S4, k4, e4 _ _ h3, .inr (.inl ⟨rfl, lo, rfl⟩)⟩
    rintro σ H4 ⟨E', lo', hi', rfl, S4, k4, hE, eo⟩
    refine ⟨_, rfl, _, rfl, _, rfl, _, rfl, E', _, rfl, .inr (SqT.of hE), fun L nL => ?_⟩
    have nL0 := kept_new k4 S4 nL
    have e5 := same_upd (o := HO.lst [lo', hi']) nL
    refine ⟨by show 2 ≤ sizeLine; decide, fun p np => ?_⟩
    have e6 := Same.trans e5 (same_upd (o := HO.lst [V.ref E', .ref L]) np)
    have hp : upd (upd H4 L (.lst [lo', hi'])) p (.lst [V.ref E', .ref L]) p = some (.lst [V.ref E', .ref L]) := upd_same
    have hL : upd (upd H4 L (.lst [lo', hi'])) p (.lst [V.ref E', .ref L]) L = some (.lst [lo', hi']) := (same_upd np) _ _ upd_same
    generalize upd (upd H4 L (.lst [lo', hi'])) p (.lst [V.ref E', .ref L]) = H6 at e6 hp hL ⊢
    have S6 := S4.same e6
    have np4 : H4 p = none := e5.free np
    obtain ⟨p1, p2⟩ := S4.notfree np4
    obtain ⟨l1, l2⟩ := S4.notfree nL
    have nE : E' ≠ st ∧ E' ≠ c := S4.far hE (fun _ z => nomatch z)
    refine ⟨st, c, n + 3, _, .ref p, _, rfl, S6, by omega, by show 0 < 2; decide, by show 2 < 1000000; decide, pk_lst (SqL.of hp) p1 p2, fun j H7 hj S7 k7 => ?_⟩
    have hE7 := k7 _ _ nE.1 nE.2 (e6 _ _ hE)
    have hL7 := k7 _ _ l1 l2 hL
    have k47 := (k4.trans (Same.kept e6)).trans k7
    refine ⟨by show 1 ≤ sizeLine; decide, fun t nt => ?_⟩
    have e8 := same_upd (o := HO.tup [([V.ref E', .ref L]).getD j .non]) nt
    refine catA_to (e8 _ _ hE7) upd_same (by show 2 + 1 ≤ 100000; decide) fun T H9 e9 hT => ?_
    have e79 := Same.trans e8 e9
    have hj2 : j = 0 ∨ j = 1 := by have hj : j < 2 := hj; omega
    rcases hj2 with rfl | rfl
    · exact qq T lo' hi' (.ref E') H9 ((S7.same e79).more (by omega)) (k47.trans (Same.kept e79)) hT (.inr ⟨E', rfl, eo, .inl (e79 _ _ hE7)⟩)
    · exact qq T lo' hi' (.ref L) H9 ((S7.same e79).more (by omega)) (k47.trans (Same.kept e79)) hT (.inr ⟨L, rfl, eo, .inr ⟨nL0, e79 _ _ hL7⟩⟩)
end
end Bk

/-! what a law keeps of a book's tellings -/
namespace Bk
open PySem PySem.Spec PyProof.Rows L2
section
variable {zs zs' : List Str} {ch ch' : Bool} {w w' : List Str → Int}
theorem eq_alike (h : ∀ l ∈ lotsFor ch zs, w l = w' l) : eqQ zs ch w zs ch w' = true := by
  unfold eqQ
  rw [decide_eq_true rfl, decide_eq_true rfl, sameT_eq h]
  rfl
theorem eq_apart (nd : zs.Nodup) (h : ∃ l ∈ lotsFor ch zs, w l ≠ w' l) : eqQ zs ch w zs ch w' = false := by
  cases e : eqQ zs ch w zs ch w' with
  | false => rfl
  | true =>
    unfold eqQ at e
    rw [decide_eq_true rfl, decide_eq_true rfl] at e
    obtain ⟨l, m, n⟩ := h
    exact absurd (sameT_ne nd e l m) n
theorem eq_strange (n : zs ≠ zs') : eqQ zs ch w zs' ch' w' = false := by
  unfold eqQ
  rw [decide_eq_false n]
  rfl
end
/-- the book's questions are the law's -/
structure Alike (zs : List Str) (ch : Bool) (wts : List (List Str → Int)) (ts : List ((List Str → Int) × V × V)) : Prop where
  len : wts.length = ts.length
  at_ : ∀ (i : Nat) (w : List Str → Int) (t : (List Str → Int) × V × V), wts[i]? = some w → ts[i]? = some t → ∀ l ∈ lotsFor ch zs, w l = t.1 l
/-- no question is told twice -/
def Once (zs : List Str) (ch : Bool) (ts : List ((List Str → Int) × V × V)) : Prop := ∀ (i j : Nat) (t u : (List Str → Int) × V × V), i < j → ts[i]? = some t → ts[j]? = some u → ∃ l ∈ lotsFor ch zs, t.1 l ≠ u.1 l
theorem place_told {zs : List Str} {ch : Bool} {wts : List (List Str → Int)} {ts : List ((List Str → Int) × V × V)} {i : Nat} {t : (List Str → Int) × V × V} (nd : zs.Nodup) (a : Alike zs ch wts ts) (o : Once zs ch ts) (h : ts[i]? = some t) : placeQ zs ch wts zs ch t.1 = some i := by
  have hi := (List.getElem?_eq_some_iff.mp h).1
  have hw : wts[i]? = some (wts[i]'(by rw [a.len]; exact hi)) := List.getElem?_eq_getElem _
  refine place_some hw (eq_alike (a.at_ i _ t hw h)) fun j u hj hu => ?_
  have hj2 : j < ts.length := by omega
  have ht : ts[j]? = some ts[j] := List.getElem?_eq_getElem hj2
  obtain ⟨l, m, n⟩ := o j i _ t hj ht h
  exact eq_apart nd ⟨l, m, by rw [a.at_ j u _ hu ht l m]; exact n⟩
theorem place_strange {zs zs' : List Str} {ch ch' : Bool} {wts : List (List Str → Int)} {w : List Str → Int} (n : zs ≠ zs') : placeQ zs ch wts zs' ch' w = none := place_none fun _ _ => eq_strange n
/-! ends as data -/
def EndV (v : V) : Prop := v = .non ∨ ∃ i, v = .int i
def dE : V → PyData
  | .int i => .int i
  | _ => .none
theorem dp_end {K : PySem.W.Frag} {H : Hp} {v : V} (h : EndV v) : Dp K H v (dE v) := by
  rcases h with rfl | ⟨i, rfl⟩
  · exact .non
  · exact .int i
theorem EndOk.v {lo hi : V} (h : EndOk lo hi) : EndV lo ∧ EndV hi := by
  rcases h with ⟨a, j, b⟩ | ⟨a, j, b⟩ | ⟨i, j, a, b, _⟩
  · exact ⟨.inl a, .inr ⟨j, b⟩⟩
  · exact ⟨.inr ⟨j, b⟩, .inl a⟩
  · exact ⟨.inr ⟨i, a⟩, .inr ⟨j, b⟩⟩
def dP (p : V × V) : PyData := .tuple [dE p.1, dE p.2]
theorem depth_e (v : V) : (dE v).depth = 0 := by cases v <;> simp [dE, PyData.depth]
theorem wide_e (v : V) : wide (dE v) = 0 := by cases v <;> simp [dE, wide]
theorem depth_p (p : V × V) : (dP p).depth ≤ 1 := by simp [dP, PyData.depth, PyData.depthAll, depth_e]
theorem wide_p (p : V × V) : wide (dP p) ≤ 2 := by simp [dP, wide, wideAll, wide_e]
theorem depth_ps : ∀ ps : List (V × V), PyData.depthAll (ps.map dP) ≤ 1
  | [] => by simp [PyData.depthAll]
  | p :: r => by
    have h1 := depth_ps r
    have h2 := depth_p p
    simp only [List.map_cons, PyData.depthAll]
    omega
theorem wide_ps : ∀ ps : List (V × V), wideAll (ps.map dP) ≤ 2
  | [] => by simp [wideAll]
  | p :: r => by
    have h1 := wide_ps r
    have h2 := wide_p p
    simp only [List.map_cons, wideAll]
    omega
theorem depth_lps (ps : List (V × V)) : (PyData.list (ps.map dP)).depth ≤ 3 := by
  have := depth_ps ps
  rw [PyData.depth]
  omega
theorem wide_lps (ps : List (V × V)) : wide (.list (ps.map dP)) ≤ ps.length + 2 := by
  have := wide_ps ps
  rw [wide, List.length_map]
  omega
theorem dp_ends {K : PySem.W.Frag} {H : Hp} : ∀ {ps : List (V × V)} {us : List V}, Told EndAt H us ps → (∀ p ∈ ps, EndV p.1 ∧ EndV p.2) → DpAll K H us (ps.map dP)
  | [], [], _, _ => .nil
  | [], _ :: _, t, _ => by cases t.1
  | _ :: _, [], t, _ => by cases t.1
  | p :: r, u :: us, t, h => .cons (by
      obtain ⟨T, rfl, hT⟩ := t.2 0 u p rfl rfl
      obtain ⟨h1, h2⟩ := h p List.mem_cons_self
      exact .tup (SqT.of hT) (.cons (dp_end h1) (.cons (dp_end h2) .nil))) (dp_ends (ps := r) (us := us) ⟨Nat.succ.inj t.1, fun k u l a b => t.2 (k + 1) u l a b⟩ fun p m => h p (List.mem_cons_of_mem _ m))
/-- [f(x) for x in xs], each told by a relation -/
theorem map_told {α : Type} {K : PySem.W.Frag} {Rel : Hp → V → α → Prop} {σ : L2.St} {H : Hp} {Q : VK} {vs : List Nat} {g : TG} {te : TE} {a : Addr} {i : Nat} {xs : List V} {ls : List α} (st : Stays Rel) (hv : σ[i]? = some (some (.ref a))) (hA : H a = some (.lst xs)) (lx : xs.length = ls.length) (hl : ls.length ≤ 1000)
    (hs : ∀ (k : Nat) (x : V) (l : α) (H2 : Hp) (R : VK), xs[k]? = some x → ls[k]? = some l → Same H H2 → (∀ u H3, Same H2 H3 → Rel H3 u l → R u H3) → g x (wipe σ vs) H2 fun σ2 H3 => wipe σ2 vs = wipe σ vs ∧ te σ2 H3 R)
    (hd : ∀ D us H', H D = none → Same H H' → H' D = some (.lst us) → Told Rel H' us ls → Q (.ref D) H') : tLc (iList K (tVar i)) g tYes te vs σ H Q := by
  refine ⟨_, hv, a, rfl, ⟨_, SqL.of hA⟩, fun D nD => lc_it (walk_list (xs := xs)) (fun k H' => ∃ us : List V, us.length = k ∧ Same H H' ∧ H' D = some (.lst us) ∧ Told Rel H' us (ls.take k)) ⟨[], rfl, same_upd nD, upd_same, Told.nil⟩ (fun k H' _ ⟨us, _, e, _, _⟩ => SqL.of (e _ _ hA)) ?_ ?_⟩
  · rintro k v H' H2 hk ⟨us, hu, e, hD, t⟩ ⟨rfl, hy⟩
    obtain ⟨l, hll⟩ : ∃ l, ls[k]? = some l := ⟨_, List.getElem?_eq_getElem (by omega)⟩
    have h := hs k v l H2 (fun y H5 => ∃ acc, H5 D = some (.lst acc) ∧ acc.length < sizeLine ∧ ∃ us : List V, us.length = k + 1 ∧ Same H (upd H5 D (.lst (acc ++ [y]))) ∧ (upd H5 D (.lst (acc ++ [y]))) D = some (.lst us) ∧ Told Rel (upd H5 D (.lst (acc ++ [y]))) us (ls.take (k + 1))) hy hll e fun u H3 e3 fu => by
      have hD3 := e3 _ _ hD
      refine ⟨us, hD3, Evl.sz_lt (by omega), us ++ [u], by rw [List.length_append, hu]; rfl, Same.grow (Same.trans e e3) nD, upd_same, ?_⟩
      rw [take_succ hll]
      exact ((t.same st e3).snoc fu).up st hD3
    exact h
  · rintro H' ⟨us, hu, e, hD, t⟩
    rw [lx, List.take_of_length_le (Nat.le_refl _)] at t
    exact hd D us H' nD e hD t
theorem look_told (x lq le : Addr) : (bookF x lq le).lookup ("told" : Str) = none := by rfl
theorem look_drop (x lq le : Addr) : (bookF x lq le).lookup ("drop" : Str) = none := by rfl
theorem look_copy (x lq le : Addr) : (bookF x lq le).lookup ("copy" : Str) = none := by rfl
theorem told_all {α : Type} {v : V} {H : Hp} {us : List V} {ls : List α} (t : Told (fun (_ : Hp) (u : V) (_ : α) => u = v) H us ls) : us = List.replicate ls.length v := by
  refine List.ext_getElem? fun i => ?_
  rw [List.getElem?_replicate]
  by_cases hi : i < ls.length
  · have h1 : us[i]? = some (us[i]'(by rw [t.1]; exact hi)) := List.getElem?_eq_getElem _
    rw [if_pos hi, h1, t.2 i _ _ h1 (List.getElem?_eq_getElem hi)]
  · rw [if_neg hi, List.getElem?_eq_none (by rw [t.1]; omega)]
theorem dp_tf {K : PySem.W.Frag} {H : Hp} : ∀ n : Nat, DpAll K H (List.replicate n (V.bl true) ++ [V.bl false]) (List.replicate n (PyData.bool true) ++ [PyData.bool false])
  | 0 => .cons (.bl false) .nil
  | n + 1 => by
    rw [List.replicate_succ, List.replicate_succ]
    exact .cons (.bl true) (dp_tf n)
theorem depth_tf : ∀ n : Nat, PyData.depthAll (List.replicate n (PyData.bool true) ++ [PyData.bool false]) = 0
  | 0 => by simp [PyData.depthAll, PyData.depth]
  | n + 1 => by
    have := depth_tf n
    rw [List.replicate_succ, List.cons_append]
    simp [PyData.depthAll, PyData.depth, this]
theorem wide_tf : ∀ n : Nat, wideAll (List.replicate n (PyData.bool true) ++ [PyData.bool false]) = 0
  | 0 => by simp [wideAll, wide]
  | n + 1 => by
    have := wide_tf n
    rw [List.replicate_succ, List.cons_append]
    simp [wideAll, wide, this]
theorem depth_ltf (n : Nat) : (PyData.list (List.replicate n (PyData.bool true) ++ [PyData.bool false])).depth ≤ 3 := by
  have := depth_tf n
  rw [PyData.depth]
  omega
theorem wide_ltf (n : Nat) : wide (.list (List.replicate n (PyData.bool true) ++ [PyData.bool false])) ≤ n + 1 := by
  have := wide_tf n
  rw [wide, List.length_append, List.length_replicate, this]
  show max (n + 1) 0 ≤ n + 1
  omega
end Bk

namespace Bk
open PySem PySem.Spec PyProof.Rows L2
theorem kPiOwn {X : Cx} (K : PySem.W.Frag) {n : Nat} {C f : Addr} {fd : FuncData} {ps : List Str} {sp : Nat → Sp} {tg e : Expr} {te : TE} (F : FnS X.prog X.w X.K X.mg X.base n f fd ps sp) (hb : Binds X.K fd ps []) (hr : Room n X.A) (m : Own X.K C "__iter__" f) (he : PE X e te) (h : X.K = K := by rfl) : PI X tg e (iOwn K C sp te) := h ▸ pi_own F hb hr m he
/-- a telling as the law keeps it -/
def TvAt (C CQ : Addr) (zs : List Str) (ch : Bool) (H : Hp) (u : V) (t : (List Str → Int) × V × V) : Prop := ∃ T q x r, u = .ref T ∧ H T = some (.tup [.ref q, .ref r, t.2.1, t.2.2]) ∧ QuestAt C CQ H q x zs ch t.1 ∧ H r = some (.lst ((lotsFor ch zs).map fun l => V.int (t.1 l)))
theorem stays_tu {C CQ : Addr} {zs : List Str} {ch : Bool} {H H' : Hp} {us : List V} {ts : List ((List Str → Int) × V × V)} (h : Told (TvAt C CQ zs ch) H us ts) (e : Same H H') : Told (TvAt C CQ zs ch) H' us ts := ⟨h.1, fun i u t h1 h2 => let ⟨T, q, x, r, a, b, c, d⟩ := h.2 i u t h1 h2; ⟨T, q, x, r, a, e _ _ b, c.same e, e _ _ d⟩⟩
def RQst (C CQ : Addr) (zs : List Str) (ch : Bool) (H : Hp) (u : V) (w : List Str → Int) : Prop := ∃ q x, u = .ref q ∧ QuestAt C CQ H q x zs ch w
theorem stays_true {α : Type} : Stays (fun (_ : Hp) (u : V) (_ : α) => u = .bl true) := ⟨fun _ _ _ _ _ h => h, fun _ _ _ _ _ _ _ h => h⟩
theorem stays_false {α : Type} : Stays (fun (_ : Hp) (u : V) (_ : α) => u = .bl false) := ⟨fun _ _ _ _ _ h => h, fun _ _ _ _ _ _ _ h => h⟩
/-- _law_shows(book, told, strange) -/
def spShowsB (C CQ CB : Addr) : Sp := fun vs H Q _ => ∃ (b tl sq x xs : Addr) (zs zs' : List Str) (ch ch' : Bool) (wts : List (List Str → Int)) (ts : List ((List Str → Int) × V × V)) (us : List V) (w' : List Str → Int), vs = [.ref b, .ref tl, .ref sq] ∧ BookAt C CQ CB H b x zs ch wts (ts.map fun t => t.2) ∧ H tl = some (.lst us) ∧ Told (TvAt C CQ zs ch) H us ts ∧
  Alike zs ch wts ts ∧ Once zs ch ts ∧ (∀ t ∈ ts, EndOk t.2.1 t.2.2) ∧ QuestAt C CQ H sq xs zs' ch' w' ∧ (∀ z ∈ zs, isNameS z = true) ∧ (∀ z ∈ zs', isNameS z = true) ∧ zs.Nodup ∧ zs ≠ zs' ∧ ts.length ≤ 100 ∧ ∀ H', Same H H' → Q (.bl true) H'
section
variable {P : Program} {w : World} {K : PySem.W.Frag} {mg : Str → Option Value} {base : Heap}
theorem scShowsB : FnScope ["_law_book", "_law_told", "_law_strange", "_law_found", "_law_one", "_law_due", "_law_walked", "_law_question", "_law_x"] ["_law_book", "_law_told", "_law_strange"] (defScope (topS 97)) := ⟨rfl, rfl, rfl, by decide +kernel, rfl, by decide +kernel, by decide +kernel⟩
theorem ok_showsB (B : Bi mg) {C CQ CB fB fQE fT fL fG fI fN f f1 : Addr} {fdQE fdT fdL fdG fdI fdN fd fd1 : FuncData} (TB : BooT K mg CB fB)
    (GQE : FnOk P w K mg base CX0 2 fQE fdQE ["self", "other"] (spQEq K C CQ)) (bQE : Binds K fdQE ["self", "other"] []) (mQE : Own K CQ "__eq__" fQE) (cQE : eqCls K CQ fQE = true)
    (GT : FnOk P w K mg base CX0 1 fT fdT ["self"] (spBTold C CQ CB)) (bT : Binds K fdT ["self"] []) (mT : Meth K CB "told" fT) (GL : FnOk P w K mg base CX0 1 fL fdL ["self"] (spBLen C CQ CB)) (bL : Binds K fdL ["self"] []) (mL : Own K CB "__len__" fL)
    (GG : FnOk P w K mg base CX0 4 fG fdG ["self", "at"] (spBGet C CQ CB)) (bG : Binds K fdG ["self", "at"] []) (mG : Own K CB "__getitem__" fG) (iG : PySem.W.fnIn K fG = true) (GI : FnOk P w K mg base CX0 4 fI fdI ["self", "x"] (spBIn C CQ CB)) (bI : Binds K fdI ["self", "x"] []) (mI : Own K CB "__contains__" fI)
    (GN : FnS P w K mg base 1 fN fdN ["self"] (spBIter C CQ CB)) (bN : Binds K fdN ["self"] []) (mN : Own K CB "__iter__" fN) (c__law_same : Cal P w K mg base CX0 5 "_law_same" f1 fd1 ["_law_found", "_law_due"] (spSame K 4))
    (F : Fun K "_law_shows" "_law_shows" (topS 97) f fd) : FnOk P w K mg base CX0 7 f fd ["_law_book", "_law_told", "_law_strange"] (spShowsB C CQ CB) := by
  refine F.ok scShowsB (fun vs H Q E h => ?_) (fun cdv A outer s H vs Q E hr h => ?_)
  · obtain ⟨b, tl, sq, x, xs, zs, zs', ch, ch', wts, ts, us, w', rfl, _⟩ := h
    rfl
  · obtain ⟨b, tl, sq, x, xs, zs, zs', ch, ch', wts, ts, us, w', rfl, BA, hU, TU, al, on, eo, SQ, nm, nm', ndz, nzz, few, qq⟩ := h
    have nd := scShowsB.nd
    have hu := hu_of hr
    have hr__law_same : Room 5 _ := hr.mono (by decide)
    have hrG : Room 5 _ := hr__law_same
    have hrI : Room 4 _ := hr.mono (by decide)
    have hrQE : Room 3 _ := hr.mono (by decide)
    have hrL : Room 2 _ := hr.mono (by decide)
    have hrT : Room 1 _ := hr.mono (by decide)
    refine ⟨_, (Evl.pss_cut (ps_set (i := 3) nd rfl (Or.inl rfl) (pe_meth0 (pv 0) TB.cl mT GT hrT bT .nil pass0))
      (Evl.pss_cut (ps_if (PW.pt (pw_or (pt_not (pt_val (pe_callB (kIsi K) (by rfl) B.isinstance (by decide +kernel) (pa_cons (pv 3) (pa_cons (pe_bltn (v := .ty "list") (by rfl) B.list (by decide +kernel) rfl) pa_nil))))) (pw_or (pt_cmpR op_ne (pe_callB (call_lenOwn GL bL pass0 hrL mL) (by rfl) B.len PySem.boot_len (pa_cons (pv 0) pa_nil)) (pe_callB (kLen K) (by rfl) B.len PySem.boot_len (pa_cons (pv 1) pa_nil)) (nomark _)) (pw_or1 (pt_cmpR op_ne (pe_callB (kLen K) (by rfl) B.len PySem.boot_len (pa_cons (pv 3) pa_nil)) (pe_callB (kLen K) (by rfl) B.len PySem.boot_len (pa_cons (pv 1) pa_nil)) (nomark _)))))) (pss_one (ps_ret pe_bl)) pss_nil)
      (Evl.pss_cut (ps_for PassesOwn.never rfl (kPiZ K (by rfl) B.zip (pa_cons (pv 3) (pa_cons (pv 1) pa_nil))) (kTg K 2 rfl (pgs_cons (pg_name (i := 4) nd rfl (Or.inl rfl)) (pgs_cons (pg_name (i := 5) nd rfl (Or.inl rfl)) pgs_nil))) (pss_one (ps_if (PW.pt (pw_or (pt_not (pt_val (pe_callB (kIsi K) (by rfl) B.isinstance (by decide +kernel) (pa_cons (pv 4) (pa_cons (pe_bltn (v := .ty "tuple") (by rfl) B.tuple (by decide +kernel) rfl) pa_nil))))) (pw_or (pt_cmpR op_ne (pe_callB (kLen K) (by rfl) B.len PySem.boot_len (pa_cons (pv 4) pa_nil)) pe_int (nomark _)) (pw_or (pt_cmpR (op_neOwn GQE bQE pass0 hrQE cQE mQE.fn) (pe_ix (kIxT K) (pv 4) pe_int (fun _ _ => rfl)) (pe_ix (kIxT K) (pv 5) pe_int (fun _ _ => rfl)) (nomark _)) (pw_or1 (pt_not (pt_val (pe_call c__law_same.ok hr__law_same (by rfl) c__law_same.g c__law_same.kp c__law_same.b .nil pass0 (pa_cons (pe_slice (kSlT K) (pv 4) (po_some pe_int) po_none) (pa_cons (pe_slice (kSlT K) (pv 5) (po_some pe_int) po_none) pa_nil)))))))))) (pss_one (ps_ret pe_bl)) pss_nil)))
      (Evl.pss_cut (ps_if (pt_not (pt_val (pe_call c__law_same.ok hr__law_same (by rfl) c__law_same.g c__law_same.kp c__law_same.b .nil pass0 (pa_cons (pe_lc (own := [("_law_due", 5)]) rfl nd (kPiL K (pv 1)) (blkOk_by (N := ["_law_book", "_law_told", "_law_strange", "_law_found", "_law_one", "_law_due", "_law_walked", "_law_question", "_law_x"]) (sc := defScope (topS 97)) (by decide +kernel)) (fun _ _ _ _ _ => (pg_name (i := 5) nd rfl (Or.inl rfl))) (fun _ _ _ _ _ => pts_nil) (fun _ _ _ _ _ => (pe_getOwn GG bG pass0 hrG mG iG (pv 0) (pe_ix (kIxT K) (pv 5) pe_int (fun _ _ => rfl))))) (pa_cons (pe_lc (own := [("_law_due", 5)]) rfl nd (kPiL K (pv 1)) (blkOk_by (N := ["_law_book", "_law_told", "_law_strange", "_law_found", "_law_one", "_law_due", "_law_walked", "_law_question", "_law_x"]) (sc := defScope (topS 97)) (by decide +kernel)) (fun _ _ _ _ _ => (pg_name (i := 5) nd rfl (Or.inl rfl))) (fun _ _ _ _ _ => pts_nil) (fun _ _ _ _ _ => (pe_slice (kSlT K) (pv 5) (po_some pe_int) po_none))) pa_nil))))) (pss_one (ps_ret pe_bl)) pss_nil)
      (Evl.pss_cut (ps_setLc (i := 6) (own := [("_law_question", 7)]) rfl nd rfl rfl (sw_true rfl rfl rfl (by decide +kernel)) (kPiOwn K GN bN hrT mN (pv 0)) (blkOk_by (N := ["_law_book", "_law_told", "_law_strange", "_law_found", "_law_one", "_law_due", "_law_walked", "_law_question", "_law_x"]) (sc := defScope (topS 97)) (by decide +kernel)) (fun _ _ _ _ _ => (pg_name (i := 7) nd rfl (Or.inl rfl))) (fun _ _ _ _ _ => pts_nil) (fun _ _ _ _ _ => (pv 7)))
      (Evl.pss_cut (ps_if (PW.pt (pw_or (pt_cmpR op_ne (pe_callB (kLen K) (by rfl) B.len PySem.boot_len (pa_cons (pv 6) pa_nil)) (pe_callB (kLen K) (by rfl) B.len PySem.boot_len (pa_cons (pv 1) pa_nil)) (nomark _)) (pw_or1 (pt_val (pe_callB (kAny K rfl) (by rfl) B.any (by decide +kernel) (pa_cons (pe_lc (own := [("_law_x", 8), ("_law_due", 5)]) rfl nd (kPiZ K (by rfl) B.zip (pa_cons (pv 6) (pa_cons (pv 1) pa_nil))) (blkOk_by (N := ["_law_book", "_law_told", "_law_strange", "_law_found", "_law_one", "_law_due", "_law_walked", "_law_question", "_law_x"]) (sc := defScope (topS 97)) (by decide +kernel)) (fun _ _ _ _ _ => (kTg K 2 rfl (pgs_cons (pg_name (i := 8) nd rfl (Or.inl rfl)) (pgs_cons (pg_name (i := 5) nd rfl (Or.inl rfl)) pgs_nil)))) (fun _ _ _ _ _ => pts_nil) (fun _ _ _ _ _ => (pe_cmpR (op_neOwn GQE bQE pass0 hrQE cQE mQE.fn) (pv 8) (pe_ix (kIxT K) (pv 5) pe_int (fun _ _ => rfl)) (nomark _)))) pa_nil)))))) (pss_one (ps_ret pe_bl)) pss_nil)
      (Evl.pss_cut (ps_expr (pe_bm PySem.F.plainAttrs_list PySem.F.slot_list_append PySem.F.type_list_append mt_append (pv 3) (pa_cons pe_str pa_nil)))
      (pss_one (ps_ret (pe_call c__law_same.ok hr__law_same (by rfl) c__law_same.g c__law_same.kp c__law_same.b .nil pass0 (pa_cons (pe_op op_cat (pe_lc (own := [("_law_due", 5)]) rfl nd (kPiL K (pv 1)) (blkOk_by (N := ["_law_book", "_law_told", "_law_strange", "_law_found", "_law_one", "_law_due", "_law_walked", "_law_question", "_law_x"]) (sc := defScope (topS 97)) (by decide +kernel)) (fun _ _ _ _ _ => (pg_name (i := 5) nd rfl (Or.inl rfl))) (fun _ _ _ _ _ => pts_nil) (fun _ _ _ _ _ => (pe_cmpR (op_inOwn GI bI pass0 hrI mI) (pe_ix (kIxT K) (pv 5) pe_int (fun _ _ => rfl)) (pv 0) rfl))) (pe_lst (pa_cons (pe_cmpR (op_inOwn GI bI pass0 hrI mI) (pv 2) (pv 0) rfl) pa_nil))) (pa_cons (pe_op op_cat (pe_op op_rep (pe_lst (pa_cons pe_bl pa_nil)) (pe_callB (kLen K) (by rfl) B.len PySem.boot_len (pa_cons (pv 1) pa_nil))) (pe_lst (pa_cons pe_bl pa_nil))) pa_nil)))))))))))), ?_⟩
    have lw := al.len
    have lu := TU.1
    have lp : (ts.map fun t => t.2).length = ts.length := List.length_map ..
    have lz : (wts.zip (ts.map fun t => t.2)).length = ts.length := by rw [List.length_zip, lp, lw, Nat.min_self]
    obtain ⟨db, lq, le, hb, FA, ⟨qs, es, hq1, he1, QS, ES⟩, len⟩ := id BA
    have lqs := QS.1
    refine ⟨fun σ H1 => ∃ D ts1, σ = [some (.ref b), some (.ref tl), some (.ref sq), some (.ref D), none, none, none, none, none] ∧ Same H H1 ∧ H D = none ∧ H1 D = some (.lst ts1) ∧ Told (TelAt C CQ zs ch) H1 ts1 (wts.zip (ts.map fun t => t.2)), ?_, ?_⟩
    · exact ⟨_, rfl, b, db, _, rfl, hb, look_told _ _ _, b, x, zs, ch, wts, _, rfl, BA, by omega, fun L ts1 H1 nL e1 hL tt => ⟨L, ts1, rfl, e1, nL, hL, tt⟩⟩
    rintro σ H1 ⟨D, ts1, rfl, e1, nD, hD, TT⟩
    have lt := TT.1
    have kl : kitB "list" "list" = some true := by decide +kernel
    have kt : kitB "tuple" "tuple" = some true := by decide +kernel
    refine ⟨fun σ H2 => σ = [some (.ref b), some (.ref tl), some (.ref sq), some (.ref D), none, none, none, none, none] ∧ H2 = H1, ?_, ?_⟩
    · refine ⟨_, rfl, .ref D, .ty "list", .type "list", .type "list", true, rfl, .ty _, tyx_l (SqL.of hD), kit_ty kl, _, rfl, ?_⟩
      refine iteF ?_
      refine ⟨_, rfl, b, db, _, rfl, e1 _ _ hb, b, x, zs, ch, wts, _, rfl, BA.same e1, (wts.length : Int), rfl, by omega, by omega, ?_⟩
      refine ⟨_, rfl, .ref tl, us.length, rfl, .inl ⟨us, SqL.of (e1 _ _ hU), rfl⟩, rfl, _, rfl, ?_⟩
      refine if_no (by rw [lw, lu, decide_eq_true rfl]; rfl) ?_
      refine ⟨_, rfl, .ref D, ts1.length, rfl, .inl ⟨ts1, SqL.of hD, rfl⟩, _, rfl, .ref tl, us.length, rfl, .inl ⟨us, SqL.of (e1 _ _ hU), rfl⟩, rfl, _, rfl, ?_⟩
      refine if_no (by rw [lt, lz, lu, decide_eq_true rfl]; rfl) ?_
      exact ⟨rfl, rfl⟩
    rintro σ H2 ⟨rfl, rfl⟩
    have TU2 := stays_tu TU e1
    have hU2 := e1 _ _ hU
    refine ⟨fun σ H3 => ∃ v4 v5, σ = [some (.ref b), some (.ref tl), some (.ref sq), some (.ref D), v4, v5, none, none, none] ∧ Same H2 H3, ?_, ?_⟩
    · refine ⟨_, rfl, _, rfl, D, tl, ts1, us, rfl, .inl ⟨SqL.of hD, SqL.of hU2, ?_⟩⟩
      refine for_it (walk_zip (xs := ts1) (ys := us) (n := ts.length) (by rw [lt, lz, lu, Nat.min_self])) (fun j σ H3 => ∃ v4 v5, σ = [some (.ref b), some (.ref tl), some (.ref sq), some (.ref D), v4, v5, none, none, none] ∧ Same H2 H3) ⟨none, none, rfl, Same.refl _⟩ (fun j σ H3 _ ⟨_, _, _, e⟩ => ⟨SqL.of (e _ _ hD), SqL.of (e _ _ hU2)⟩) ?_ fun σ H3 h => h
      rintro j y σ H3 H4 hj ⟨v4, v5, rfl, e3⟩ ⟨T, y1, y2, rfl, nT, rfl, hy1, hy2⟩
      have eT := same_upd (o := HO.tup [y1, y2]) nT
      have e4 := Same.trans e3 eT
      have htj : ts[j]? = some ts[j] := List.getElem?_eq_getElem hj
      have hwj : wts[j]? = some (wts[j]'(by omega)) := List.getElem?_eq_getElem (by omega)
      have hzj : (wts.zip (ts.map fun t => t.2))[j]? = some (wts[j]'(by omega), ts[j].2) := List.getElem?_zip_eq_some.mpr ⟨hwj, by rw [List.getElem?_map, htj]; rfl⟩
      obtain ⟨T1, q, x1, rfl, hT1, Q1⟩ := TT.2 j y1 _ hy1 hzj
      obtain ⟨T2, q2, x2, r2, rfl, hT2, Q2, _⟩ := TU2.2 j y2 _ hy2 htj
      refine ⟨T, _, rfl, SqT.of upd_same, rfl, _, _, rfl, _, _, rfl, rfl, ?_⟩
      generalize upd H3 T (.tup [.ref T1, .ref T2]) = H4 at eT e4 ⊢
      have Q1 := Q1.same e4
      have Q2 := Q2.same e4
      obtain ⟨d1, td1, a1, _⟩ := id Q1
      obtain ⟨d2, td2, a2, _⟩ := id Q2
      refine ⟨_, rfl, .ref T1, .ty "tuple", .type "tuple", .type "tuple", true, rfl, .ty _, tyx_t (SqT.of (e4 _ _ hT1)), kit_ty kt, _, rfl, ?_⟩
      refine iteF ?_
      refine ⟨_, rfl, _, 3, rfl, .inr ⟨_, SqT.of (e4 _ _ hT1), rfl⟩, rfl, _, rfl, ?_⟩
      refine if_no (by decide) ?_
      refine ⟨_, rfl, T1, _, 0, .ref q, rfl, rfl, SqT.of (e4 _ _ hT1), rfl, _, rfl, T2, _, 0, .ref q2, rfl, rfl, SqT.of (e4 _ _ hT2), rfl, q, d1, q2, d2, _, _, rfl, rfl, a1, a2, q, x1, q2, x2, zs, zs, ch, ch, _, _, rfl, Q1, Q2, nm, nm, fun H6 e6 => ⟨_, rfl, _, rfl, ?_⟩⟩
      refine if_no (by
        have h := eq_alike (al.at_ j _ _ hwj htj)
        unfold eqQ at h
        rw [h]
        rfl) ?_
      have e46 := Same.trans e4 e6
      obtain ⟨v1, v2⟩ := (eo _ (List.mem_of_getElem? htj)).v
      refine ⟨_, rfl, 1, rfl, ?_⟩
      dsimp only [tNoPart]
      refine slA_from (k := 1) (e46 _ _ hT1) fun p1 H7 e7 h7 => ?_
      refine ⟨_, rfl, 2, rfl, ?_⟩
      dsimp only [tNoPart, tNil]
      refine slA_from (k := 2) ((Same.trans e46 e7) _ _ hT2) fun p2 H8 e8 h8 => ?_
      refine ⟨.ref p1, .ref p2, dP ts[j].2, rfl, .tup (SqT.of (e8 _ _ h7)) (.cons (dp_end v1) (.cons (dp_end v2) .nil)), .tup (SqT.of h8) (.cons (dp_end v1) (.cons (dp_end v2) .nil)), Nat.le_trans (depth_p _) (by decide), Nat.le_trans (wide_p _) (by decide), fun H9 e9 => ⟨true, rfl, ?_⟩⟩
      refine iteF ?_
      exact ⟨_, _, rfl, Same.trans e46 (Same.trans e7 (Same.trans e8 e9))⟩
    rintro σ H3 ⟨v4, v5, rfl, e3⟩
    have e03 := Same.trans e1 e3
    have ev : ∀ p ∈ ts.map (fun t => t.2), EndV p.1 ∧ EndV p.2 := fun p m => by
      obtain ⟨t, mt, rfl⟩ := List.mem_map.mp m
      exact (eo t mt).v
    refine ⟨fun σ H4 => σ = [some (.ref b), some (.ref tl), some (.ref sq), some (.ref D), v4, v5, none, none, none] ∧ Same H3 H4, ?_, ?_⟩
    · dsimp only [tIfS, tNot, tB, tCall, tCons, tNil]
      refine map_told (Rel := EndAt) (ls := ts.map fun t => t.2) stays_end (by rfl) (e03 _ _ hU) (by rw [lp, lu]) (by omega) (fun k y p H5 R hy hp e5 r => ?_) fun D1 us1 H5 nD1 e5 hD1 t1 => ?_
      · obtain ⟨tk, htk⟩ : ∃ tk, ts[k]? = some tk := ⟨_, List.getElem?_eq_getElem (by have := (List.getElem?_eq_some_iff.mp hp).1; omega)⟩
        rw [List.getElem?_map, htk] at hp
        have hp := (Option.some.inj hp).symm
        subst hp
        have e05 := Same.trans e03 e5
        obtain ⟨T2, q2, x2, r2, rfl, hT2, Q2, _⟩ := (stays_tu TU e05).2 k y _ hy htk
        refine ⟨rfl, _, rfl, _, rfl, T2, _, 0, .ref q2, rfl, rfl, SqT.of hT2, rfl, b, db, _, rfl, e05 _ _ hb, b, x, q2, x2, zs, zs, ch, ch, wts, _, _, k, rfl, BA.same e05, Q2, nm, nm, place_told ndz al on htk, fun T p H6 e6 hp hT => ?_⟩
        rw [List.getElem?_map, htk] at hp
        have hp := (Option.some.inj hp).symm
        subst hp
        exact r _ H6 e6 ⟨T, rfl, hT⟩
      · refine map_told (Rel := EndAt) (ls := ts.map fun t => t.2) stays_end (by rfl) ((Same.trans e03 e5) _ _ hU) (by rw [lp, lu]) (by omega) (fun k y p H6 R hy hp e6 r => ?_) fun D2 us2 H6 nD2 e6 hD2 t2 => ?_
        · obtain ⟨tk, htk⟩ : ∃ tk, ts[k]? = some tk := ⟨_, List.getElem?_eq_getElem (by have := (List.getElem?_eq_some_iff.mp hp).1; omega)⟩
          rw [List.getElem?_map, htk] at hp
          have hp := (Option.some.inj hp).symm
          subst hp
          obtain ⟨T2, q2, x2, r2, rfl, hT2, _⟩ := (stays_tu TU (Same.trans e03 (Same.trans e5 e6))).2 k y _ hy htk
          refine ⟨rfl, _, rfl, 2, rfl, ?_⟩
          dsimp only [tNoPart]
          exact slA_from (k := 2) hT2 fun p H7 e7 h7 => r _ H7 e7 ⟨p, rfl, h7⟩
        · refine ⟨.ref D1, .ref D2, .list ((ts.map fun t => t.2).map dP), rfl, .lst (SqL.of (e6 _ _ hD1)) (dp_ends (t1.same stays_end e6) ev), .lst (SqL.of hD2) (dp_ends t2 ev), ?_, ?_, fun H7 e7 => ⟨true, rfl, ?_⟩⟩
          · exact depth_lps _
          · refine Nat.le_trans (wide_lps _) ?_
            rw [lp]
            omega
          · refine iteF ?_
            exact ⟨rfl, Same.trans e5 (Same.trans e6 e7)⟩
    rintro σ H4 ⟨rfl, e4⟩
    have e04 := Same.trans e03 e4
    -- the walk over the book
    refine ⟨fun σ H5 => ∃ W, σ = [some (.ref b), some (.ref tl), some (.ref sq), some (.ref D), v4, v5, some (.ref W), none, none] ∧ Same H4 H5 ∧ H5 W = some (.lst qs), ?_, ?_⟩
    · refine ⟨_, rfl, b, db, _, rfl, e04 _ _ hb, fun m => ⟨b, x, db, lq, le, qs, rfl, e04 _ _ hb, e04 _ _ hq1, fun it ni hi => ⟨it, lq, rfl, upd_same, hi, ?_⟩⟩⟩
      rw [ItX.dropH_upd ni]
      refine fun W nW => lc_it walk_listF (Upto H4 W qs fun v => v) (.zero nW) (fun i H' _ u => SqL.of ((Same.trans e04 u.sm) _ _ hq1)) ?_ ?_
      · rintro k v H' H'' hk u ⟨rfl, hv⟩
        exact ⟨rfl, yes2 ⟨_, rfl, u.next nW hv (Same.refl _) (by omega)⟩⟩
      · intro H' u
        have h := u.all rfl
        rw [List.map_id'] at h
        exact ⟨W, rfl, u.sm, h⟩
    rintro σ H5 ⟨W, rfl, e5, hW⟩
    have e05 := Same.trans e04 e5
    refine ⟨fun σ H6 => σ = [some (.ref b), some (.ref tl), some (.ref sq), some (.ref D), v4, v5, some (.ref W), none, none] ∧ Same H5 H6, ?_, ?_⟩
    · refine ⟨_, rfl, .ref W, qs.length, rfl, .inl ⟨qs, SqL.of hW, rfl⟩, _, rfl, .ref tl, us.length, rfl, .inl ⟨us, SqL.of (e05 _ _ hU), rfl⟩, rfl, _, rfl, ?_⟩
      refine if_no (by rw [lqs, lw, lu, decide_eq_true rfl]; rfl) ?_
      dsimp only [tB, tCB, tCons, tNil]
      refine zip_rel (xs := qs) (ys := us) (ls := ts) stays_false (by rfl) (by rfl) (.inl ⟨SqL.of hW, SqL.of (e05 _ _ hU)⟩) (by rw [lqs, lw]) lu (by omega) (fun k t y1 y2 T H6 R htk hy1 hy2 e6 hT r => ?_) fun D2 us2 H6 nD2 e6 hD2 t2 => ?_
      · have e06 := Same.trans e05 e6
        obtain ⟨wk, hwk⟩ : ∃ wk, wts[k]? = some wk := ⟨_, List.getElem?_eq_getElem (by rw [lw]; exact (List.getElem?_eq_some_iff.mp htk).1)⟩
        obtain ⟨q, x1, rfl, Q1⟩ := (QS.same e06).2 k _ _ hy1 hwk
        obtain ⟨T2, q2, x2, r2, rfl, hT2, Q2, _⟩ := (stays_tu TU e06).2 k _ _ hy2 htk
        obtain ⟨d1, td1, a1, _⟩ := id Q1
        obtain ⟨d2, td2, a2, _⟩ := id Q2
        refine ⟨T, _, rfl, SqT.of hT, rfl, _, _, rfl, _, _, rfl, rfl, rfl, _, rfl, _, rfl, T2, _, 0, .ref q2, rfl, rfl, SqT.of hT2, rfl, q, d1, q2, d2, _, _, rfl, rfl, a1, a2, q, x1, q2, x2, zs, zs, ch, ch, _, _, rfl, Q1, Q2, nm, nm, fun H7 e7 => ⟨_, rfl, r _ H7 e7 ?_⟩⟩
        have h := eq_alike (al.at_ k _ _ hwk htk)
        unfold eqQ at h
        rw [h]
        rfl
      · have hus := told_all t2
        subst hus
        refine ⟨D2, List.replicate ts.length false, rfl, by rw [List.map_replicate]; exact SqL.of hD2, _, rfl, ?_⟩
        refine if_no (by
          rw [List.any_eq_false]
          intro z hz
          rw [List.eq_of_mem_replicate hz]
          exact Bool.false_ne_true) ?_
        exact ⟨rfl, e6⟩
    rintro σ H6 ⟨rfl, e6⟩
    refine ⟨fun σ H7 => σ = [some (.ref b), some (.ref tl), some (.ref sq), some (.ref D), v4, v5, some (.ref W), none, none] ∧ Same H H7, ?_, ?_⟩
    · have hD6 := (Same.trans e3 (Same.trans e4 (Same.trans e5 e6))) _ _ hD
      refine ⟨_, rfl, .inl ⟨rfl, _, SqL.of hD6⟩, D, ts1, _, rfl, rfl, hD6, Evl.sz_lt (by omega), rfl, Same.grow (Same.trans e05 e6) nD⟩
    rintro σ H7 ⟨rfl, e7⟩
    dsimp only [tRet, tCall, tCons, tNil, tOp]
    refine map_told (Rel := fun _ u _ => u = .bl true) (ls := ts) stays_true (by rfl) (e7 _ _ hU) lu (by omega) (fun k y t H8 R hy htk e8 r => ?_) fun D1 us1 H8 nD1 e8 hD1 t1 => ?_
    · have e08 := Same.trans e7 e8
      obtain ⟨T2, q2, x2, r2, rfl, hT2, Q2, _⟩ := (stays_tu TU e08).2 k _ _ hy htk
      refine ⟨rfl, _, rfl, T2, _, 0, .ref q2, rfl, rfl, SqT.of hT2, rfl, _, rfl, b, db, _, rfl, e08 _ _ hb, b, x, q2, x2, zs, zs, ch, ch, wts, _, _, rfl, BA.same e08, Q2, nm, nm, fun H9 e9 => ⟨_, rfl, r _ H9 e9 ?_⟩⟩
      rw [place_told ndz al on htk]
      rfl
    · have hus := told_all t1
      subst hus
      have e08 := Same.trans e7 e8
      refine ⟨_, rfl, _, rfl, b, db, _, rfl, e08 _ _ hb, b, x, sq, xs, zs, zs', ch, ch', wts, _, w', rfl, BA.same e08, SQ.same e08, nm, nm', fun H9 e9 => ⟨_, rfl, by show 1 ≤ sizeLine; decide, fun p np => ?_⟩⟩
      rw [place_strange nzz]
      have ep := same_upd (o := HO.lst [V.bl false]) np
      refine ⟨D1, p, _, [.bl false], rfl, rfl, (Same.trans e9 ep) _ _ hD1, upd_same, by rw [sizeLine_eq, List.length_replicate]; show ts.length + 1 ≤ _; omega, fun A nA => ?_⟩
      have eA := same_upd (o := HO.lst (List.replicate ts.length (V.bl true) ++ [.bl false])) nA
      have hA : upd (upd H9 p (.lst [V.bl false])) A (.lst (List.replicate ts.length (V.bl true) ++ [.bl false])) A = some (.lst (List.replicate ts.length (V.bl true) ++ [.bl false])) := upd_same
      have e0A := Same.trans e08 (Same.trans e9 (Same.trans ep eA))
      refine ⟨by show 1 ≤ sizeLine; decide, fun p1 np1 => ?_⟩
      have e1' := same_upd (o := HO.lst [V.bl true]) np1
      refine ⟨_, rfl, .ref tl, us.length, rfl, .inl ⟨us, SqL.of ((Same.trans e0A e1') _ _ hU), rfl⟩, p1, (us.length : Int), [.bl true], rfl, rfl, upd_same, by omega, by omega, by rw [sizeLine_eq, Int.toNat_natCast]; show 1 * us.length ≤ _; omega, fun p2 np2 => ?_⟩
      rw [Int.toNat_natCast, List.flatten_replicate_singleton, lu]
      have e2' := same_upd (o := HO.lst (List.replicate ts.length (V.bl true))) np2
      refine ⟨by show 1 ≤ sizeLine; decide, fun p3 np3 => ?_⟩
      have e3' := same_upd (o := HO.lst [V.bl false]) np3
      refine ⟨p2, p3, _, [.bl false], rfl, rfl, e3' _ _ upd_same, upd_same, by rw [sizeLine_eq, List.length_replicate]; show ts.length + 1 ≤ _; omega, fun A2 nA2 => ?_⟩
      have e4' := same_upd (o := HO.lst (List.replicate ts.length (V.bl true) ++ [.bl false])) nA2
      have e14 := Same.trans e1' (Same.trans e2' (Same.trans e3' e4'))
      refine ⟨.ref A, .ref A2, .list (List.replicate ts.length (PyData.bool true) ++ [PyData.bool false]), rfl, .lst (SqL.of (e14 _ _ hA)) (dp_tf _), .lst (SqL.of upd_same) (dp_tf _), depth_ltf _, Nat.le_trans (wide_ltf _) (by omega), fun H' e' => ?_⟩
      exact qq H' (Same.trans e0A (Same.trans e14 e'))
end
end Bk

namespace Bk
open PySem PySem.Spec PyProof.Rows L2
section
variable {P : Program} {w : World} {K : PySem.W.Frag} {mg : Str → Option Value} {base : Heap}
theorem scHouse : FnScope ["_law_stream", "_law_most", "_law_names_here", "_law_is_chain"] ["_law_stream", "_law_most"] (defScope (topS 91)) := ⟨rfl, rfl, rfl, by decide +kernel, rfl, by decide +kernel, by decide +kernel⟩
theorem ok_house (B : Bi mg) {C CB fF f f1 f2 f3 : Addr} {fdF fd fd1 fd2 fd3 : FuncData} {gk : List Value → List Value → List Value} (T : FolT K mg C fF) (GF : FnOk P w K mg base (L2.CX P w) 3 fF fdF ["self", "names", "chain"] (spFolders K C CB))
    (bK : KBn K fdF ["self", "names", "chain"] 2 ["chain"] gk (fun vs zs => vs ++ zs))
    (c__law_draw : Cal P w K mg base CX0 1 "_law_draw" f1 fd1 ["_law_stream", "_law_many"] spDraw) (c__law_names : Cal P w K mg base CX0 4 "_law_names" f2 fd2 ["_law_stream", "_law_many"] (spNames K)) (c__law_b_lots : Cal P w K mg base CX0 8 "_law_b_lots" f3 fd3 ["_law_names_here", "_law_is_chain"] (spBlots K))
    (F : Fun K "_law_b_house" "_law_b_house" (topS 91) f fd) : FnOk P w K mg base CX0 9 f fd ["_law_stream", "_law_most"] (spHouse K C) := by
  refine F.ok scHouse (fun vs H Q E h => ?_) (fun cdv A outer s H vs Q E hr h => ?_)
  · obtain ⟨st, c, n, most, rfl, _⟩ := h
    rfl
  · obtain ⟨st, c, n, most, rfl, S, hn, m1, m5, q⟩ := h
    have nd := scHouse.nd
    have hu := hu_of hr
    have hr__law_b_lots := hr
    have hr__law_names : Room 4 _ := hr.mono (by decide)
    have hrF := hr__law_names
    have hr__law_draw : Room 1 _ := hr.mono (by decide)
    refine ⟨_, (pss_cons (ps_par (i := 2) (j := 3) rfl nd rfl rfl (by decide) rfl rfl (pa_cons (pe_call c__law_names.ok hr__law_names (by rfl) c__law_names.g c__law_names.kp c__law_names.b .nil pass0 (pa_cons (pv 0) (pa_cons (pe_op op_add pe_int (pe_call c__law_draw.ok hr__law_draw (by rfl) c__law_draw.g c__law_draw.kp c__law_draw.b .nil pass0 (pa_cons (pv 0) (pa_cons (pv 1) pa_nil)))) pa_nil))) (pa_cons (pe_cmpR op_eq (pe_call c__law_draw.ok hr__law_draw (by rfl) c__law_draw.g c__law_draw.kp c__law_draw.b .nil pass0 (pa_cons (pv 0) (pa_cons pe_int pa_nil))) pe_int (nomark _)) pa_nil)) (by rfl))
      (pss_one (ps_ret (pe_tup (pa_cons (pv 2) (pa_cons (pv 3) (pa_cons (pe_makeK T.make GF hrF (by rfl) T.g bK passL (pa_cons (pv 2) pa_nil) (pk_cons (pv 3) pk_nil)) (pa_cons (pe_call c__law_b_lots.ok hr__law_b_lots (by rfl) c__law_b_lots.g c__law_b_lots.kp c__law_b_lots.b .nil pass0 (pa_cons (pv 2) (pa_cons (pv 3) pa_nil))) pa_nil)))))))), ?_⟩
    refine ⟨_, rfl, _, rfl, _, rfl, st, c, n, most, rfl, S, by omega, by omega, by omega, fun d H1 d0 d1 S1 k1 => ⟨_, _, rfl, rfl, ?_⟩⟩
    refine ⟨st, c, n + 1, (1 + d).toNat, by rw [show (((1 + d).toNat : Nat) : Int) = 1 + d by omega]; rfl, S1, by omega, by omega, fun nl zs H2 nnl hl hnd hnm S2 k2 hnl => ?_⟩
    obtain ⟨nl1, nl2⟩ := S1.notfree nnl
    refine ⟨_, rfl, st, c, n + 201, 4, rfl, S2, by omega, by decide, by decide, fun d2 H3 _ _ S3 k3 => ⟨rfl, _, _, rfl, ?_⟩⟩
    have k13 := (k1.trans k2).trans k3
    have hnl3 := k3 _ _ nl1 nl2 hnl
    generalize hch : decide (V.int d2 = V.int 0) = ch
    have lz : zs.length ≤ mostFor ch := by
      have : 5 ≤ mostFor ch := by cases ch <;> decide
      omega
    have zne : zs ≠ [] := fun e => by
      rw [e] at hl
      simp at hl
      omega
    have hw := wrong_ok (most := mostFor ch) zne lz hnm hnd
    have lz5 : (zs.map V.str).length ≤ 100000 := names_small lz
    have Th : Thing K H3 (.ref nl) (some (zs.map V.str)) := (thf_lst hnl3 nl1 nl2 lz5 (far_names hnm)).1
    refine ⟨_, rfl, _, rfl, _, rfl, _, rfl, rfl, rfl, make_fold Th hw fun x H4 nx e4 FA => ?_⟩
    have hnl4 := e4 _ _ hnl3
    refine ⟨_, rfl, _, rfl, nl, zs, ch, rfl, hnl4, lz, fun D ws H5 nD e5 hD at5 => ?_⟩
    have nD3 : H3 D = none := e4.free nD
    obtain ⟨D1, D2⟩ := S3.notfree nD3
    refine ⟨by show 4 ≤ sizeLine; rw [sizeLine_eq]; omega, fun p np => ?_⟩
    have ep := same_upd (o := HO.tup [.ref nl, .bl ch, .ref x, .ref D]) np
    have e35 := Same.trans e4 e5
    have np3 : H3 p = none := e35.free np
    obtain ⟨p1, p2⟩ := S3.notfree np3
    obtain ⟨x1, x2⟩ := S3.notfree nx
    have fr : ∀ {b : Addr}, H3 b = none → b ≠ st → b ≠ c → H b = none := fun h n1 n2 => k13.free h n1 n2
    refine q p nl x D zs ch ws _ (fr np3 p1 p2) (k1.free nnl nl1 nl2) (fr nx x1 x2) (fr nD3 D1 D2) (by rw [hl]; omega) upd_same ⟨nl1, nl2, D1, D2, (ne_of_none hnl4 nD).symm, ep _ _ (e5 _ _ hnl4), (FA.same e5).same ep, ep _ _ hD, at5.same ep, by omega, lz, hnd, hnm⟩ ((S3.same e35).same ep |>.more (by omega)) ?_
    exact k13.trans (Same.kept (Same.trans e35 ep))
end
end Bk

namespace Bk
open PySem PySem.Spec PyProof.Rows L2
section
variable {P : Program} {w : World} {K : PySem.W.Frag} {mg : Str → Option Value} {base : Heap}
theorem scCounted : FnScope ["_law_word", "_law_names_here", "_law_lots", "_law_name_here", "_law_lot"] ["_law_word", "_law_names_here", "_law_lots"] (defScope (topS 92)) := ⟨rfl, rfl, rfl, by decide +kernel, rfl, by decide +kernel, by decide +kernel⟩
theorem ok_counted (B : Bi mg) {f : Addr} {fd : FuncData} (F : Fun K "_law_q_counted" "_law_q_counted" (topS 92) f fd) : FnOk P w K mg base CX0 1 f fd ["_law_word", "_law_names_here", "_law_lots"] (spCounted K) := by
  refine F.ok scCounted (fun vs H Q E h => ?_) (fun cdv A outer s H vs Q E hr h => ?_)
  · obtain ⟨j, a, D, ks, ws, ls, rfl, _⟩ := h
    rfl
  · obtain ⟨j, a, D, ks, ws, ls, rfl, hj, ha, hk, h2, hD, at0, hl, hll, q⟩ := h
    have nd := scCounted.nd
    have hu := hu_of hr
    refine ⟨_, (pss_cons (ps_if (pt_cmpR op_eq (pv 0) pe_str (nomark _)) (pss_one (ps_ret (pe_lc (own := [("_law_lot", 4)]) rfl nd (kPiL K (pv 2)) (blkOk_by (N := ["_law_word", "_law_names_here", "_law_lots", "_law_name_here", "_law_lot"]) (sc := defScope (topS 92)) (by decide +kernel)) (fun _ _ _ _ _ => (pg_name (i := 4) nd rfl (Or.inl rfl))) (fun _ _ _ _ _ => pts_nil) (fun _ _ _ _ _ => (pe_callTy call_int1 (by rfl) B.int (by decide +kernel) (pa_cons (pe_callB (kAny K rfl) (by rfl) B.any (by decide +kernel) (pa_cons (pe_lc (own := [("_law_name_here", 3)]) rfl nd (kPiT K (pv 4)) (blkOk_by (by with_unfolding_all rfl)) (fun _ _ _ _ _ => (pg_name (i := 3) nd rfl (Or.inl rfl))) (fun _ _ _ _ _ => pts_nil) (fun _ _ _ _ _ => (pe_cmpR (kIn K) (pv 3) (pv 1) rfl))) pa_nil)) pa_nil)))))) pss_nil)
      (pss_cons (ps_if (pt_cmpR op_eq (pv 0) pe_str (nomark _)) (pss_one (ps_ret (pe_lc (own := [("_law_lot", 4)]) rfl nd (kPiL K (pv 2)) (blkOk_by (N := ["_law_word", "_law_names_here", "_law_lots", "_law_name_here", "_law_lot"]) (sc := defScope (topS 92)) (by decide +kernel)) (fun _ _ _ _ _ => (pg_name (i := 4) nd rfl (Or.inl rfl))) (fun _ _ _ _ _ => pts_nil) (fun _ _ _ _ _ => (pe_callTy call_int1 (by rfl) B.int (by decide +kernel) (pa_cons (pe_callB (kAll K rfl) (by rfl) B.all (by decide +kernel) (pa_cons (pe_lc (own := [("_law_name_here", 3)]) rfl nd (kPiT K (pv 4)) (blkOk_by (by with_unfolding_all rfl)) (fun _ _ _ _ _ => (pg_name (i := 3) nd rfl (Or.inl rfl))) (fun _ _ _ _ _ => pts_nil) (fun _ _ _ _ _ => (pe_cmpR (kIn K) (pv 3) (pv 1) rfl))) pa_nil)) pa_nil)))))) pss_nil)
      (pss_cons (ps_if (pt_cmpR op_eq (pv 0) pe_str (nomark _)) (pss_one (ps_ret (pe_lc (own := [("_law_lot", 4)]) rfl nd (kPiL K (pv 2)) (blkOk_by (N := ["_law_word", "_law_names_here", "_law_lots", "_law_name_here", "_law_lot"]) (sc := defScope (topS 92)) (by decide +kernel)) (fun _ _ _ _ _ => (pg_name (i := 4) nd rfl (Or.inr rfl))) (fun _ _ _ _ _ => pts_nil) (fun _ _ _ _ _ => (pe_callTy call_int1 (by rfl) B.int (by decide +kernel) (pa_cons (pe_callB (kAll K rfl) (by rfl) B.all (by decide +kernel) (pa_cons (pe_lc (own := [("_law_name_here", 3)]) rfl nd (kPiL K (pv 1)) (blkOk_by (by with_unfolding_all rfl)) (fun _ _ _ _ _ => (pg_name (i := 3) nd rfl (Or.inl rfl))) (fun _ _ _ _ _ => pts_nil) (fun _ _ _ _ _ => (pe_cmpR (kIn K) (pv 3) (pv 4) rfl))) pa_nil)) pa_nil)))))) pss_nil)
      (pss_cons (ps_if (pt_cmpR op_eq (pv 0) pe_str (nomark _)) (pss_one (ps_ret (pe_lc (own := [("_law_lot", 4)]) rfl nd (kPiL K (pv 2)) (blkOk_by (N := ["_law_word", "_law_names_here", "_law_lots", "_law_name_here", "_law_lot"]) (sc := defScope (topS 92)) (by decide +kernel)) (fun _ _ _ _ _ => (pg_name (i := 4) nd rfl (Or.inr rfl))) (fun _ _ _ _ _ => pts_nil) (fun _ _ _ _ _ => (pe_callTy call_int1 (by rfl) B.int (by decide +kernel) (pa_cons (pe_and (pe_cmpR op_eq (pe_callB (kLen K) (by rfl) B.len PySem.boot_len (pa_cons (pv 4) pa_nil)) (pe_callB (kLen K) (by rfl) B.len PySem.boot_len (pa_cons (pv 1) pa_nil)) (nomark _)) (pe_one (pe_callB (kAll K rfl) (by rfl) B.all (by decide +kernel) (pa_cons (pe_lc (own := [("_law_name_here", 3)]) rfl nd (kPiL K (pv 1)) (blkOk_by (by with_unfolding_all rfl)) (fun _ _ _ _ _ => (pg_name (i := 3) nd rfl (Or.inl rfl))) (fun _ _ _ _ _ => pts_nil) (fun _ _ _ _ _ => (pe_cmpR (kIn K) (pv 3) (pv 4) rfl))) pa_nil)))) pa_nil)))))) pss_nil)
      (pss_cons (ps_if (pt_cmpR op_eq (pv 0) pe_str (nomark _)) (pss_one (ps_ret (pe_lc (own := [("_law_lot", 4)]) rfl nd (kPiL K (pv 2)) (blkOk_by (N := ["_law_word", "_law_names_here", "_law_lots", "_law_name_here", "_law_lot"]) (sc := defScope (topS 92)) (by decide +kernel)) (fun _ _ _ _ _ => (pg_name (i := 4) nd rfl (Or.inl rfl))) (fun _ _ _ _ _ => pts_nil) (fun _ _ _ _ _ => (pe_callTy call_int1 (by rfl) B.int (by decide +kernel) (pa_cons (pe_and (pe_cmpR (kIn K) (pe_ix (kIxL K) (pv 1) pe_int (fun _ _ => rfl)) (pv 4) rfl) (pe_one (pe_cmpR (kNotIn K) (pe_ix (kIxL K) (pv 1) pe_int (fun _ _ => rfl)) (pv 4) rfl))) pa_nil)))))) pss_nil)
      (pss_one (ps_ret (pe_lc (own := [("_law_lot", 4)]) rfl nd (kPiL K (pv 2)) (blkOk_by (N := ["_law_word", "_law_names_here", "_law_lots", "_law_name_here", "_law_lot"]) (sc := defScope (topS 92)) (by decide +kernel)) (fun _ _ _ _ _ => (pg_name (i := 4) nd rfl (Or.inl rfl))) (fun _ _ _ _ _ => pts_nil) (fun _ _ _ _ _ => pe_int))))))))), ?_⟩
    have hl' : ls.length ≤ 100000 := by omega
    have hkl : (ks.map V.str).length ≤ 100000 := by rw [List.length_map]; omega
    match j, hj with
    | 0, _ =>
      refine ⟨_, rfl, rfl, _, rfl, ?_⟩
      rw [show decide (V.str (W6 0) = V.str (Str.ofString "refers")) = true from decide_eq_true rfl]
      refine iteT ?_
      refine map_ats (fun l => V.int (if lawCnt 0 ks l then 1 else 0)) (by rfl) (SqL.of hD) at0 hl' (fun l qa H1 R ml e1 hq hR => ⟨rfl, ?_⟩) q
      refine cb1 ?_
      refine cb1 ?_
      refine map_T (fun v => V.bl (inV v (ks.map V.str))) (by rfl) (SqT.of hq) (by rw [List.length_map]; have := hll l ml; omega) (fun v H3 R' mv e3 hR' => ?_) fun D2 H3 nD2 e3 hD2 => ?_
      · obtain ⟨k, _, rfl⟩ := List.mem_map.mp mv
        exact ⟨rfl, _, rfl, _, rfl, a, _, rfl, .inl (SqL.of (e3 _ _ (e1 _ _ ha))), rfl, flat_strs _, hR' H3 (Same.refl _)⟩
      · rw [mem_map_any] at hD2
        refine ⟨D2, _, rfl, SqL.of hD2, .inr ⟨_, rfl, ?_⟩⟩
        rw [any_map]
        exact hR H3 e3
    | 1, _ =>
      refine ⟨_, rfl, rfl, _, rfl, ?_⟩
      rw [str_ne (show ¬ W6 1 = Str.ofString "refers" by decide +kernel)]
      refine iteF ?_
      refine ⟨_, rfl, rfl, _, rfl, ?_⟩
      rw [show decide (V.str (W6 1) = V.str (Str.ofString "freed")) = true from decide_eq_true rfl]
      refine iteT ?_
      refine map_ats (fun l => V.int (if lawCnt 1 ks l then 1 else 0)) (by rfl) (SqL.of hD) at0 hl' (fun l qa H1 R ml e1 hq hR => ⟨rfl, ?_⟩) q
      refine cb1 ?_
      refine cb1 ?_
      refine map_T (fun v => V.bl (inV v (ks.map V.str))) (by rfl) (SqT.of hq) (by rw [List.length_map]; have := hll l ml; omega) (fun v H3 R' mv e3 hR' => ?_) fun D2 H3 nD2 e3 hD2 => ?_
      · obtain ⟨k, _, rfl⟩ := List.mem_map.mp mv
        exact ⟨rfl, _, rfl, _, rfl, a, _, rfl, .inl (SqL.of (e3 _ _ (e1 _ _ ha))), rfl, flat_strs _, hR' H3 (Same.refl _)⟩
      · rw [mem_map_any] at hD2
        refine ⟨D2, _, rfl, SqL.of hD2, .inr ⟨_, rfl, ?_⟩⟩
        rw [all_map]
        exact hR H3 e3
    | 2, _ =>
      refine ⟨_, rfl, rfl, _, rfl, ?_⟩
      rw [str_ne (show ¬ W6 2 = Str.ofString "refers" by decide +kernel)]
      refine iteF ?_
      refine ⟨_, rfl, rfl, _, rfl, ?_⟩
      rw [str_ne (show ¬ W6 2 = Str.ofString "freed" by decide +kernel)]
      refine iteF ?_
      refine ⟨_, rfl, rfl, _, rfl, ?_⟩
      rw [show decide (V.str (W6 2) = V.str (Str.ofString "shared")) = true from decide_eq_true rfl]
      refine iteT ?_
      refine map_ats (fun l => V.int (if lawCnt 2 ks l then 1 else 0)) (by rfl) (SqL.of hD) at0 hl' (fun l qa H1 R ml e1 hq hR => ⟨rfl, ?_⟩) q
      refine cb1 ?_
      refine cb1 ?_
      refine map_L (fun v => V.bl (inV v (l.map V.str))) (by rfl) (SqL.of (e1 _ _ ha)) hkl (fun v H3 R' mv e3 hR' => ?_) fun D2 H3 nD2 e3 hD2 => ?_
      · obtain ⟨k, _, rfl⟩ := List.mem_map.mp mv
        exact ⟨rfl, _, rfl, _, rfl, qa, _, rfl, .inr (SqT.of (e3 _ _ hq)), rfl, flat_strs _, hR' H3 (Same.refl _)⟩
      · rw [mem_map_any] at hD2
        refine ⟨D2, _, rfl, SqL.of hD2, .inr ⟨_, rfl, ?_⟩⟩
        rw [all_map]
        exact hR H3 e3
    | 3, _ =>
      refine ⟨_, rfl, rfl, _, rfl, ?_⟩
      rw [str_ne (show ¬ W6 3 = Str.ofString "refers" by decide +kernel)]
      refine iteF ?_
      refine ⟨_, rfl, rfl, _, rfl, ?_⟩
      rw [str_ne (show ¬ W6 3 = Str.ofString "freed" by decide +kernel)]
      refine iteF ?_
      refine ⟨_, rfl, rfl, _, rfl, ?_⟩
      rw [str_ne (show ¬ W6 3 = Str.ofString "shared" by decide +kernel)]
      refine iteF ?_
      refine ⟨_, rfl, rfl, _, rfl, ?_⟩
      rw [show decide (V.str (W6 3) = V.str (Str.ofString "just")) = true from decide_eq_true rfl]
      refine iteT ?_
      refine map_ats (fun l => V.int (if lawCnt 3 ks l then 1 else 0)) (by rfl) (SqL.of hD) at0 hl' (fun l qa H1 R ml e1 hq hR => ⟨rfl, ?_⟩) q
      refine cb1 ?_
      refine ⟨_, rfl, .ref qa, l.length, rfl, .inr ⟨_, SqT.of hq, by rw [List.length_map]⟩, _, rfl, .ref a, ks.length, rfl, .inl ⟨_, SqL.of (e1 _ _ ha), by rw [List.length_map]⟩, rfl, ?_⟩
      have hR : ∀ H2, Same H1 H2 → R (V.int (if (decide (l.length = ks.length) && ks.all fun k => decide (k ∈ l)) then 1 else 0)) H2 := hR
      by_cases hlen : l.length = ks.length
      · rw [decide_eq_true hlen] at hR
        rw [hlen, decide_eq_true rfl]
        refine ⟨_, rfl, ?_⟩
        refine iteT ?_
        refine cb1 ?_
        refine map_L (fun v => V.bl (inV v (l.map V.str))) (by rfl) (SqL.of (e1 _ _ ha)) hkl (fun v H3 R' mv e3 hR' => ?_) fun D2 H3 nD2 e3 hD2 => ?_
        · obtain ⟨k, _, rfl⟩ := List.mem_map.mp mv
          exact ⟨rfl, _, rfl, _, rfl, qa, _, rfl, .inr (SqT.of (e3 _ _ hq)), rfl, flat_strs _, hR' H3 (Same.refl _)⟩
        · rw [mem_map_any] at hD2
          refine ⟨D2, _, rfl, SqL.of hD2, .inr ⟨_, rfl, ?_⟩⟩
          rw [all_map]
          exact hR H3 e3
      · rw [decide_eq_false hlen] at hR
        rw [decide_eq_false (fun z => hlen (by injection z with z; omega))]
        refine ⟨_, rfl, ?_⟩
        refine iteF ?_
        exact .inr ⟨_, rfl, hR H1 (Same.refl _)⟩
    | 4, _ =>
      refine ⟨_, rfl, rfl, _, rfl, ?_⟩
      rw [str_ne (show ¬ W6 4 = Str.ofString "refers" by decide +kernel)]
      refine iteF ?_
      refine ⟨_, rfl, rfl, _, rfl, ?_⟩
      rw [str_ne (show ¬ W6 4 = Str.ofString "freed" by decide +kernel)]
      refine iteF ?_
      refine ⟨_, rfl, rfl, _, rfl, ?_⟩
      rw [str_ne (show ¬ W6 4 = Str.ofString "shared" by decide +kernel)]
      refine iteF ?_
      refine ⟨_, rfl, rfl, _, rfl, ?_⟩
      rw [str_ne (show ¬ W6 4 = Str.ofString "just" by decide +kernel)]
      refine iteF ?_
      refine ⟨_, rfl, rfl, _, rfl, ?_⟩
      rw [show decide (V.str (W6 4) = V.str (Str.ofString "sent")) = true from decide_eq_true rfl]
      refine iteT ?_
      refine map_ats (fun l => V.int (if lawCnt 4 ks l then 1 else 0)) (by rfl) (SqL.of hD) at0 hl' (fun l qa H1 R ml e1 hq hR => ⟨rfl, ?_⟩) q
      obtain ⟨k0, k1, rfl⟩ : ∃ k0 k1, ks = [k0, k1] := by
        match ks, h2 rfl with
        | [k0, k1], _ => exact ⟨k0, k1, rfl⟩
      have hR : ∀ H2, Same H1 H2 → R (V.int (if (decide (k1 ∈ l) && !decide (k0 ∈ l)) then 1 else 0)) H2 := hR
      have ha1 := e1 _ _ ha
      refine cb1 ?_
      refine ⟨_, rfl, a, _, 1, .str k1, rfl, rfl, SqL.of ha1, atI_nat (j := 1) rfl, _, rfl, qa, _, rfl, .inr (SqT.of hq), rfl, flat_strs _, ?_⟩
      rw [inV_str]
      by_cases h1 : k1 ∈ l
      · rw [decide_eq_true h1] at hR ⊢
        refine ⟨_, rfl, ?_⟩
        refine iteT ?_
        refine ⟨_, rfl, a, _, 0, .str k0, rfl, rfl, SqL.of ha1, atI_nat (j := 0) rfl, _, rfl, qa, _, rfl, .inr (SqT.of hq), rfl, flat_strs _, ?_⟩
        rw [inV_str]
        exact .inr ⟨_, rfl, hR H1 (Same.refl _)⟩
      · rw [decide_eq_false h1] at hR ⊢
        refine ⟨_, rfl, ?_⟩
        refine iteF ?_
        exact .inr ⟨_, rfl, hR H1 (Same.refl _)⟩
    | 5, _ =>
      refine ⟨_, rfl, rfl, _, rfl, ?_⟩
      rw [str_ne (show ¬ W6 5 = Str.ofString "refers" by decide +kernel)]
      refine iteF ?_
      refine ⟨_, rfl, rfl, _, rfl, ?_⟩
      rw [str_ne (show ¬ W6 5 = Str.ofString "freed" by decide +kernel)]
      refine iteF ?_
      refine ⟨_, rfl, rfl, _, rfl, ?_⟩
      rw [str_ne (show ¬ W6 5 = Str.ofString "shared" by decide +kernel)]
      refine iteF ?_
      refine ⟨_, rfl, rfl, _, rfl, ?_⟩
      rw [str_ne (show ¬ W6 5 = Str.ofString "just" by decide +kernel)]
      refine iteF ?_
      refine ⟨_, rfl, rfl, _, rfl, ?_⟩
      rw [str_ne (show ¬ W6 5 = Str.ofString "sent" by decide +kernel)]
      refine iteF ?_
      refine map_ats (fun l => V.int (if lawCnt 5 ks l then 1 else 0)) (by rfl) (SqL.of hD) at0 hl' (fun l qa H1 R ml e1 hq hR => ⟨rfl, ?_⟩) q
      exact hR H1 (Same.refl _)
end
end Bk

namespace Bk
open PySem PySem.Spec PyProof.Rows L2
def progCnt : Nat → Cnt
  | 0 => cRefers
  | 1 => cFreed
  | 2 => cShared
  | 3 => cJust
  | 4 => cSent
  | _ => fun _ _ _ => true
def spMade (K : PySem.W.Frag) (C CQ CN : Addr) : Sp := fun vs H Q E => ∃ (j : Nat) (x a : Addr) (xs : List V) (zs : List Str) (ch : Bool), vs = [.str (W6 j), .ref x, .ref a] ∧ j < 6 ∧ FoldersAt C H x zs ch ∧ zs.Nodup ∧ zs.length ≤ mostFor ch ∧ (∀ z ∈ zs, isNameS z = true) ∧ Sqs K H (.ref a) true ∧ (SqL K H a xs ∨ SqT K H a xs) ∧ (∀ v ∈ xs, Ask H v) ∧ xs.length ≤ 1000 ∧ (j = 4 → xs.length = 2) ∧
  (∀ v d H', j ≠ 5 → firstNot zs xs = some v → ExcAt H d "name" v H' → E (.ref CN) (some d) H') ∧ ∀ ks q H', (j ≠ 5 → xs = ks.map V.str ∧ ∀ k ∈ ks, k ∈ zs) → H q = none → Same H H' → QuestAt C CQ H' q x zs ch (cntF (progCnt j) ch zs ks) → Q (.ref q) H'
theorem cnt_whole (ch : Bool) (zs ks : List Str) : cntF (fun _ _ _ => true) ch zs ks = cnt (lotsFor ch zs) := by
  unfold cntF
  rw [List.filter_eq_self.mpr fun _ _ => rfl]
section
variable {P : Program} {w : World} {K : PySem.W.Frag} {mg : Str → Option Value} {base : Heap}
theorem scMade : FnScope ["_law_word", "_law_house", "_law_names_here"] ["_law_word", "_law_house", "_law_names_here"] (defScope (topS 93)) := ⟨rfl, rfl, rfl, by decide +kernel, rfl, by decide +kernel, by decide +kernel⟩
theorem ok_made (B : Bi mg) {C CQ CN f1 f2 f3 f4 f5 f6 f : Addr} {fd1 fd2 fd3 fd4 fd5 fd6 fd : FuncData}
    (c_refers : Cal P w K mg base (L2N.CX P w) 7 "refers" f1 fd1 ["folders", "names"] (spFn K C CQ CN cRefers))
    (c_freed : Cal P w K mg base (L2N.CX P w) 7 "freed" f2 fd2 ["folders", "names"] (spFn K C CQ CN cFreed))
    (c_shared : Cal P w K mg base (L2N.CX P w) 7 "shared" f3 fd3 ["folders", "names"] (spFn K C CQ CN cShared))
    (c_just : Cal P w K mg base (L2N.CX P w) 7 "just" f4 fd4 ["folders", "names"] (spFn K C CQ CN cJust))
    (c_sent : Cal P w K mg base (L2N.CX P w) 7 "sent" f5 fd5 ["folders", "one", "other"] (spSent K C CQ CN)) (c_whole : Cal P w K mg base CX0 7 "whole" f6 fd6 ["folders"] (spWhole C CQ))
    (F : Fun K "_law_q_made" "_law_q_made" (topS 93) f fd) : FnOk P w K mg base (L2N.CX P w) 8 f fd ["_law_word", "_law_house", "_law_names_here"] (spMade K C CQ CN) := by
  refine Fun.okN F scMade (fun vs H Q E h => ?_) (fun cdv A outer s H vs Q E hr h => ?_)
  · obtain ⟨j, x, a, xs, zs, ch, rfl, _⟩ := h
    rfl
  · obtain ⟨j, x, a, xs, zs, ch, rfl, hj, FA, nz, lz, nm, b, hS, hA, lx, h2, kE, kQ⟩ := h
    have nd := scMade.nd
    have hu := hu_of hr
    have hr_whole := hr
    refine ⟨_, (pss_cons (ps_if (pt_cmpR op_eq (pv 0) pe_str (nomark _)) (pss_one (ps_ret (pe_call c_refers.ok hr (by rfl) c_refers.g c_refers.kp c_refers.b .nil (L2N.passes_call (L2N.takes_of rfl rfl rfl rfl) (fun _ _ _ _ h => h)) (pa_cons (pv 1) (pa_cons (pv 2) pa_nil))))) pss_nil)
      (pss_cons (ps_if (pt_cmpR op_eq (pv 0) pe_str (nomark _)) (pss_one (ps_ret (pe_call c_freed.ok hr (by rfl) c_freed.g c_freed.kp c_freed.b .nil (L2N.passes_call (L2N.takes_of rfl rfl rfl rfl) (fun _ _ _ _ h => h)) (pa_cons (pv 1) (pa_cons (pv 2) pa_nil))))) pss_nil)
      (pss_cons (ps_if (pt_cmpR op_eq (pv 0) pe_str (nomark _)) (pss_one (ps_ret (pe_call c_shared.ok hr (by rfl) c_shared.g c_shared.kp c_shared.b .nil (L2N.passes_call (L2N.takes_of rfl rfl rfl rfl) (fun _ _ _ _ h => h)) (pa_cons (pv 1) (pa_cons (pv 2) pa_nil))))) pss_nil)
      (pss_cons (ps_if (pt_cmpR op_eq (pv 0) pe_str (nomark _)) (pss_one (ps_ret (pe_call c_just.ok hr (by rfl) c_just.g c_just.kp c_just.b .nil (L2N.passes_call (L2N.takes_of rfl rfl rfl rfl) (fun _ _ _ _ h => h)) (pa_cons (pv 1) (pa_cons (pv 2) pa_nil))))) pss_nil)
      (pss_one (ps_ret (pe_ifExp (pt_cmpR op_eq (pv 0) pe_str (nomark _)) (pe_call c_sent.ok hr (by rfl) c_sent.g c_sent.kp c_sent.b .nil (L2N.passes_call (L2N.takes_of rfl rfl rfl rfl) (fun _ _ _ _ h => h)) (pa_cons (pv 1) (pa_cons (pe_ix (kIx K) (pv 2) pe_int (fun _ _ => rfl)) (pa_cons (pe_ix (kIx K) (pv 2) pe_int (fun _ _ => rfl)) pa_nil)))) (pe_call c_whole.ok hr_whole (by rfl) c_whole.g c_whole.kp c_whole.b .nil pass0 (pa_cons (pv 1) pa_nil))))))))), ?_⟩
    match j, hj with
    | 0, _ =>
      refine ⟨_, rfl, rfl, _, rfl, ?_⟩
      rw [show decide (V.str (W6 0) = V.str (Str.ofString "refers")) = true from decide_eq_true rfl]
      refine iteT ?_
      exact ⟨_, rfl, _, rfl, x, a, xs, zs, ch, rfl, FA, nz, lz, nm, b, hS, hA, lx, fun v d H' hv h => kE v d H' (by decide) hv h, fun ks q H' e hk nq e1 QA => kQ ks q H' (fun _ => ⟨e, hk⟩) nq e1 QA⟩
    | 1, _ =>
      refine ⟨_, rfl, rfl, _, rfl, ?_⟩
      rw [str_ne (show ¬ W6 1 = Str.ofString "refers" by decide +kernel)]
      refine iteF ?_
      refine ⟨_, rfl, rfl, _, rfl, ?_⟩
      rw [show decide (V.str (W6 1) = V.str (Str.ofString "freed")) = true from decide_eq_true rfl]
      refine iteT ?_
      exact ⟨_, rfl, _, rfl, x, a, xs, zs, ch, rfl, FA, nz, lz, nm, b, hS, hA, lx, fun v d H' hv h => kE v d H' (by decide) hv h, fun ks q H' e hk nq e1 QA => kQ ks q H' (fun _ => ⟨e, hk⟩) nq e1 QA⟩
    | 2, _ =>
      refine ⟨_, rfl, rfl, _, rfl, ?_⟩
      rw [str_ne (show ¬ W6 2 = Str.ofString "refers" by decide +kernel)]
      refine iteF ?_
      refine ⟨_, rfl, rfl, _, rfl, ?_⟩
      rw [str_ne (show ¬ W6 2 = Str.ofString "freed" by decide +kernel)]
      refine iteF ?_
      refine ⟨_, rfl, rfl, _, rfl, ?_⟩
      rw [show decide (V.str (W6 2) = V.str (Str.ofString "shared")) = true from decide_eq_true rfl]
      refine iteT ?_
      exact ⟨_, rfl, _, rfl, x, a, xs, zs, ch, rfl, FA, nz, lz, nm, b, hS, hA, lx, fun v d H' hv h => kE v d H' (by decide) hv h, fun ks q H' e hk nq e1 QA => kQ ks q H' (fun _ => ⟨e, hk⟩) nq e1 QA⟩
    | 3, _ =>
      refine ⟨_, rfl, rfl, _, rfl, ?_⟩
      rw [str_ne (show ¬ W6 3 = Str.ofString "refers" by decide +kernel)]
      refine iteF ?_
      refine ⟨_, rfl, rfl, _, rfl, ?_⟩
      rw [str_ne (show ¬ W6 3 = Str.ofString "freed" by decide +kernel)]
      refine iteF ?_
      refine ⟨_, rfl, rfl, _, rfl, ?_⟩
      rw [str_ne (show ¬ W6 3 = Str.ofString "shared" by decide +kernel)]
      refine iteF ?_
      refine ⟨_, rfl, rfl, _, rfl, ?_⟩
      rw [show decide (V.str (W6 3) = V.str (Str.ofString "just")) = true from decide_eq_true rfl]
      refine iteT ?_
      exact ⟨_, rfl, _, rfl, x, a, xs, zs, ch, rfl, FA, nz, lz, nm, b, hS, hA, lx, fun v d H' hv h => kE v d H' (by decide) hv h, fun ks q H' e hk nq e1 QA => kQ ks q H' (fun _ => ⟨e, hk⟩) nq e1 QA⟩
    | 4, _ =>
      refine ⟨_, rfl, rfl, _, rfl, ?_⟩
      rw [str_ne (show ¬ W6 4 = Str.ofString "refers" by decide +kernel)]
      refine iteF ?_
      refine ⟨_, rfl, rfl, _, rfl, ?_⟩
      rw [str_ne (show ¬ W6 4 = Str.ofString "freed" by decide +kernel)]
      refine iteF ?_
      refine ⟨_, rfl, rfl, _, rfl, ?_⟩
      rw [str_ne (show ¬ W6 4 = Str.ofString "shared" by decide +kernel)]
      refine iteF ?_
      refine ⟨_, rfl, rfl, _, rfl, ?_⟩
      rw [str_ne (show ¬ W6 4 = Str.ofString "just" by decide +kernel)]
      refine iteF ?_
      refine ⟨_, rfl, rfl, _, rfl, ?_⟩
      rw [show decide (V.str (W6 4) = V.str (Str.ofString "sent")) = true from decide_eq_true rfl]
      refine iteT ?_
      obtain ⟨y1, y2, rfl⟩ : ∃ y1 y2, xs = [y1, y2] := by
        match xs, h2 rfl with
        | [y1, y2], _ => exact ⟨y1, y2, rfl⟩
      have ix : ∀ (k : Nat) (v : V) (R : VK), [y1, y2][k]? = some v → R v H → rIx K (.ref a) (.int (k : Int)) H R := fun k v R hk r => by
        rcases hS with h | h
        · exact .inl ⟨a, _, _, v, rfl, rfl, h, atI_nat hk, r⟩
        · exact .inr (.inl ⟨a, _, _, v, rfl, rfl, h, atI_nat hk, r⟩)
      refine ⟨_, rfl, _, rfl, ix 0 y1 _ rfl ?_⟩
      refine ⟨_, rfl, ix 1 y2 _ rfl ?_⟩
      exact ⟨x, y1, y2, zs, ch, rfl, FA, nz, lz, nm, hA y1 List.mem_cons_self, hA y2 (List.mem_cons_of_mem _ List.mem_cons_self), fun v d H' hv h => kE v d H' (by decide) hv h, fun k1 k2 q H' e1 e2 h1 h2 nq e QA => kQ [k1, k2] q H' (fun _ => ⟨by rw [e1, e2]; rfl, fun k m => by
        rcases List.mem_cons.mp m with rfl | m
        · exact h1
        · rw [List.mem_singleton.mp m]; exact h2⟩) nq e QA⟩
    | 5, _ =>
      refine ⟨_, rfl, rfl, _, rfl, ?_⟩
      rw [str_ne (show ¬ W6 5 = Str.ofString "refers" by decide +kernel)]
      refine iteF ?_
      refine ⟨_, rfl, rfl, _, rfl, ?_⟩
      rw [str_ne (show ¬ W6 5 = Str.ofString "freed" by decide +kernel)]
      refine iteF ?_
      refine ⟨_, rfl, rfl, _, rfl, ?_⟩
      rw [str_ne (show ¬ W6 5 = Str.ofString "shared" by decide +kernel)]
      refine iteF ?_
      refine ⟨_, rfl, rfl, _, rfl, ?_⟩
      rw [str_ne (show ¬ W6 5 = Str.ofString "just" by decide +kernel)]
      refine iteF ?_
      refine ⟨_, rfl, rfl, _, rfl, ?_⟩
      rw [str_ne (show ¬ W6 5 = Str.ofString "sent" by decide +kernel)]
      refine iteF ?_
      exact ⟨_, rfl, x, zs, ch, rfl, FA, nz, lz, fun q H' nq e QA => kQ [] q H' (fun z => absurd rfl z) nq e (by rw [show progCnt 5 = fun _ _ _ => true from rfl, cnt_whole]; exact QA)⟩
end
end Bk

namespace Bk
open PySem PySem.Spec PyProof.Rows L2
theorem passLN {X : Cx} : Passes (L2N.CX X.prog X.w) X E0 := fun _ _ _ _ _ _ _ h => by
  obtain ⟨_, _, _, _, _, _, _, _, _, _, _, _, z⟩ := h
  exact z.elim
/-- the names of zs that stand in ks -/
def unlike (zs ks : List Str) : List Str := zs.filter fun n => decide (n ∈ ks)
theorem mem_unlike {zs ks : List Str} {n : Str} : n ∈ unlike zs ks ↔ n ∈ zs ∧ n ∈ ks := by
  unfold unlike
  rw [List.mem_filter, decide_eq_true_iff]
/-- what the law hands its own count -/
def lawArg (j : Nat) (zs ks : List Str) : List Str := if j = 4 then ks else unlike zs ks
theorem bool_iff {a b : Bool} (h : a = true ↔ b = true) : a = b := by cases a <;> cases b <;> simp_all
/-- the law counts what the functions count -/
theorem law_prog {j : Nat} {ch : Bool} {zs ks l : List Str} (hj : j < 6) (nz : zs.Nodup) (lz : zs.length ≤ mostFor ch) (sub : ∀ k ∈ ks, k ∈ zs) (m : l ∈ lotsFor ch zs) : lawCnt j (lawArg j zs ks) l = progCnt j zs ks l := by
  have ls := lots_sub lz m
  match j, hj with
  | 0, _ =>
    refine bool_iff ?_
    show (l.any fun k => decide (k ∈ unlike zs ks)) = true ↔ (ks.any fun k => decide (k ∈ l)) = true
    rw [List.any_eq_true, List.any_eq_true]
    constructor
    · rintro ⟨k, h1, h2⟩
      exact ⟨k, (mem_unlike.mp (of_decide_eq_true h2)).2, decide_eq_true h1⟩
    · rintro ⟨k, h1, h2⟩
      exact ⟨k, of_decide_eq_true h2, decide_eq_true (mem_unlike.mpr ⟨sub k h1, h1⟩)⟩
  | 1, _ =>
    refine bool_iff ?_
    show (l.all fun k => decide (k ∈ unlike zs ks)) = true ↔ (l.all fun k => decide (k ∈ ks)) = true
    rw [List.all_eq_true, List.all_eq_true]
    constructor
    · exact fun h k hk => decide_eq_true (mem_unlike.mp (of_decide_eq_true (h k hk))).2
    · exact fun h k hk => decide_eq_true (mem_unlike.mpr ⟨ls.subset hk, of_decide_eq_true (h k hk)⟩)
  | 2, _ =>
    refine bool_iff ?_
    show ((unlike zs ks).all fun k => decide (k ∈ l)) = true ↔ (ks.all fun k => decide (k ∈ l)) = true
    rw [List.all_eq_true, List.all_eq_true]
    constructor
    · exact fun h k hk => h k (mem_unlike.mpr ⟨sub k hk, hk⟩)
    · exact fun h k hk => h k (mem_unlike.mp hk).2
  | 3, _ =>
    refine bool_iff ?_
    show (decide (l.length = (unlike zs ks).length) && (unlike zs ks).all fun k => decide (k ∈ l)) = true ↔ decide (l = zs.filter fun n => decide (n ∈ ks)) = true
    rw [Bool.and_eq_true, decide_eq_true_iff, List.all_eq_true, decide_eq_true_iff]
    constructor
    · rintro ⟨h1, h2⟩
      have nu : (unlike zs ks).Nodup := nz.filter _
      have back : ∀ k ∈ l, k ∈ unlike zs ks := fun k hk => by
        by_cases z : k ∈ unlike zs ks
        · exact z
        · exfalso
          have p := pigeon (unlike zs ks) (l.erase k) nu fun x hx => (List.mem_erase_of_ne (fun (e : x = k) => z (e ▸ hx))).mpr (of_decide_eq_true (h2 x hx))
          rw [List.length_erase_of_mem hk] at p
          have := List.length_pos_of_mem hk
          omega
      rw [← lotS_sub ls nz]
      unfold lotS
      refine List.filter_congr fun n hn => ?_
      refine bool_iff ?_
      rw [decide_eq_true_iff, decide_eq_true_iff]
      exact ⟨fun h => (mem_unlike.mp (back n h)).2, fun h => of_decide_eq_true (h2 n (mem_unlike.mpr ⟨hn, h⟩))⟩
    · intro h
      have h : l = unlike zs ks := h
      exact ⟨by rw [h], fun k hk => decide_eq_true (by rw [h]; exact hk)⟩
  | 4, _ => rfl
  | 5, _ => rfl
theorem eqv_strsL (a b : List Str) : PyData.eqv (.list (a.map PyData.str)) (.list (b.map PyData.str)) = decide (a = b) := by
  simp [PyData.eqv, eqvAll_strs]
theorem shaped_strsL (l : List Str) (h : ∀ z ∈ l, isNameS z = true) : SeqAt.shaped (.list (l.map PyData.str)) = true := by
  have := shaped_strs l h
  simp only [SeqAt.shaped, PyData.canLay0, PyData.depth] at this ⊢
  exact this
theorem sent_at {j : Nat} (h : j < 6) : decide (V.str (W6 j) = V.str (Str.ofString "sent")) = decide (j = 4) := by
  match j, h with
  | 0, _ => exact str_ne (show ¬ W6 0 = Str.ofString "sent" by decide +kernel)
  | 1, _ => exact str_ne (show ¬ W6 1 = Str.ofString "sent" by decide +kernel)
  | 2, _ => exact str_ne (show ¬ W6 2 = Str.ofString "sent" by decide +kernel)
  | 3, _ => exact str_ne (show ¬ W6 3 = Str.ofString "sent" by decide +kernel)
  | 4, _ => exact decide_eq_true rfl
  | 5, _ => exact str_ne (show ¬ W6 5 = Str.ofString "sent" by decide +kernel)
theorem QuestAt.congr {CF CQ : Addr} {H : Hp} {q x : Addr} {zs : List Str} {ch : Bool} {wt wt' : List Str → Int} (h : QuestAt CF CQ H q x zs ch wt) (e : ∀ l ∈ lotsFor ch zs, wt l = wt' l) : QuestAt CF CQ H q x zs ch wt' := by
  obtain ⟨dq, td, h1, h2, h3⟩ := h
  exact ⟨dq, td, h1, h2, by rw [← tableOf_congr e]; exact h3⟩
theorem perm_strs {ys : List V} {ks : List Str} (h : ys.Perm (ks.map V.str)) : ∃ zs : List Str, ys = zs.map V.str ∧ zs.Perm ks := by
  have all : ∀ y ∈ ys, ∃ k, y = V.str k := fun y m => by
    obtain ⟨k, _, rfl⟩ := List.mem_map.mp (h.mem_iff.mp m)
    exact ⟨k, rfl⟩
  have e : (ys.map fun v => match v with | V.str k => k | _ => Str.empty).map V.str = ys := by
    rw [List.map_map]
    conv => rhs; rw [← List.map_id ys]
    refine List.map_congr_left fun y m => ?_
    obtain ⟨k, rfl⟩ := all y m
    rfl
  refine ⟨_, e.symm, ?_⟩
  have p := h.map fun v => match v with | V.str k => k | _ => Str.empty
  rw [List.map_map] at p
  have e2 : ks.map ((fun v => match v with | V.str k => k | _ => Str.empty) ∘ V.str) = ks := by
    conv => rhs; rw [← List.map_id ks]
    exact List.map_congr_left fun k _ => rfl
  rw [e2] at p
  exact p
theorem lawArg_of {j : Nat} {zs ks ks' : List Str} (nz : zs.Nodup) (h4 : j = 4 → ks' = ks) (hp : ks'.Perm ks) (hs : j ≠ 4 → ks.Sublist zs) : lawArg j zs ks' = ks := by
  unfold lawArg
  by_cases c : j = 4
  · rw [if_pos c, h4 c]
  · rw [if_neg c]
    refine Eq.trans (List.filter_congr fun n _ => ?_) (lotS_sub (hs c) nz)
    exact bool_iff (by rw [decide_eq_true_iff, decide_eq_true_iff]; exact hp.mem_iff)
theorem set_at {σ : L2.St} {i : Nat} {v : V} (h : i < σ.length) : (σ.set i (some v))[i]? = some (some v) := by simp [h]
def named8 : List V := [.str (W6 0), .str (W6 0), .str (W6 1), .str (W6 1), .str (W6 2), .str (W6 3), .str (W6 4), .str (W6 5)]
/-- _law_q_named(stream, house, names, lots) -/
def spNamed (K : PySem.W.Frag) (C CQ : Addr) : Sp := fun vs H Q _ => ∃ (st c x nl D : Addr) (n : Nat) (zs : List Str) (ch : Bool) (ws : List V), vs = [.ref st, .ref x, .ref nl, .ref D] ∧ HouseAt C H st c nl x D zs ch ws ∧ Strm H st c n ∧ n ≤ 800000 ∧
  ∀ (p q r : Addr) (f : List Str → Int) (H' : Hp), H p = none → H q = none → H r = none → H' p = some (.tup [.ref q, .ref r]) → QuestAt C CQ H' q x zs ch f → H' r = some (.lst ((lotsFor ch zs).map fun l => V.int (f l))) → (∀ l, -1 ≤ f l ∧ f l ≤ 1) → Strm H' st c (n + 30) → Kept st c H H' → Q (.ref p) H'
section
variable {P : Program} {w : World} {K : PySem.W.Frag} {mg : Str → Option Value} {base : Heap}
theorem scNamed : FnScope ["_law_stream", "_law_house", "_law_names_here", "_law_lots", "_law_word", "_law_some", "_law_name_here", "_law_asked"] ["_law_stream", "_law_house", "_law_names_here", "_law_lots"] (defScope (topS 94)) := ⟨rfl, rfl, rfl, by decide +kernel, rfl, by decide +kernel, by decide +kernel⟩
theorem ok_named (B : Bi mg) {C CQ CN f f1 f2 f3 f4 f5 : Addr} {fd fd1 fd2 fd3 fd4 fd5 : FuncData} (c__law_draw : Cal P w K mg base CX0 1 "_law_draw" f1 fd1 ["_law_stream", "_law_many"] spDraw) (c__law_pick : Cal P w K mg base CX0 2 "_law_pick" f2 fd2 ["_law_stream", "_law_some"] (spPick K)) (c__law_mixed : Cal P w K mg base CX0 2 "_law_mixed" f3 fd3 ["_law_stream", "_law_some"] (spMixed K))
    (c__law_q_made : Cal P w K mg base (L2N.CX P w) 8 "_law_q_made" f4 fd4 ["_law_word", "_law_house", "_law_names_here"] (spMade K C CQ CN)) (c__law_q_counted : Cal P w K mg base CX0 1 "_law_q_counted" f5 fd5 ["_law_word", "_law_names_here", "_law_lots"] (spCounted K))
    (F : Fun K "_law_q_named" "_law_q_named" (topS 94) f fd) : FnOk P w K mg base CX0 9 f fd ["_law_stream", "_law_house", "_law_names_here", "_law_lots"] (spNamed K C CQ) := by
  refine F.ok scNamed (fun vs H Q E h => ?_) (fun cdv A outer s H vs Q E hr h => ?_)
  · obtain ⟨st, c, x, nl, D, n, zs, ch, ws, rfl, _⟩ := h
    rfl
  · obtain ⟨st, c, x, nl, D, n, zs, ch, ws, rfl, HA, S, hn, q⟩ := h
    have nd := scNamed.nd
    have hu := hu_of hr
    have hr__law_q_made := hr
    have hr__law_pick : Room 2 _ := hr.mono (by decide)
    have hr__law_mixed := hr__law_pick
    have hr__law_draw : Room 1 _ := hr.mono (by decide)
    have hr__law_q_counted := hr__law_draw
    refine ⟨_, (Evl.pss_cut (ps_set (i := 4) nd rfl (Or.inl rfl) (pe_call c__law_pick.ok hr__law_pick (by rfl) c__law_pick.g c__law_pick.kp c__law_pick.b .nil pass0 (pa_cons (pv 0) (pa_cons (pe_lst (pa_cons pe_str (pa_cons pe_str (pa_cons pe_str (pa_cons pe_str (pa_cons pe_str (pa_cons pe_str (pa_cons pe_str (pa_cons pe_str pa_nil))))))))) pa_nil))))
      (Evl.pss_cut (ps_setLc (i := 5) (own := [("_law_name_here", 6)]) rfl nd rfl rfl (sw_true rfl rfl rfl (by decide +kernel)) (kPiL K (pv 2)) (blkOk_by (N := ["_law_stream", "_law_house", "_law_names_here", "_law_lots", "_law_word", "_law_some", "_law_name_here", "_law_asked"]) (sc := defScope (topS 94)) (by decide +kernel)) (fun _ _ _ _ _ => (pg_name (i := 6) nd rfl (Or.inl rfl))) (fun _ _ _ _ _ => (pts_one (pt_cmpR op_eq (pe_call c__law_draw.ok hr__law_draw (by rfl) c__law_draw.g c__law_draw.kp c__law_draw.b .nil pass0 (pa_cons (pv 0) (pa_cons pe_int pa_nil))) pe_int (nomark _)))) (fun _ _ _ _ _ => (pv 6)))
      (Evl.pss_cut (ps_if (PW.pt (pw_and (pt_cmpR (kIn K) (pv 4) (pe_tup (pa_cons pe_str (pa_cons pe_str pa_nil))) rfl) (pw_and1 (pt_cmpR (kEqD K hr.units) (pv 5) (pe_lst pa_nil) (nomark _))))) (pss_one (ps_set (i := 5) nd rfl (Or.inl rfl) (pe_lst (pa_cons (pe_call c__law_pick.ok hr__law_pick (by rfl) c__law_pick.g c__law_pick.kp c__law_pick.b .nil pass0 (pa_cons (pv 0) (pa_cons (pv 2) pa_nil))) pa_nil)))) pss_nil)
      (Evl.pss_cut (ps_if (pt_cmpR op_eq (pv 4) pe_str (nomark _)) (pss_one (ps_set (i := 5) nd rfl (Or.inl rfl) (pe_lst (pa_cons (pe_call c__law_pick.ok hr__law_pick (by rfl) c__law_pick.g c__law_pick.kp c__law_pick.b .nil pass0 (pa_cons (pv 0) (pa_cons (pv 2) pa_nil))) (pa_cons (pe_call c__law_pick.ok hr__law_pick (by rfl) c__law_pick.g c__law_pick.kp c__law_pick.b .nil pass0 (pa_cons (pv 0) (pa_cons (pv 2) pa_nil))) pa_nil))))) pss_nil)
      (Evl.pss_cut (ps_set (i := 7) nd rfl (Or.inl rfl) (pe_ifExp (pt_cmpR op_eq (pv 4) pe_str (nomark _)) (pv 5) (pe_call c__law_mixed.ok hr__law_mixed (by rfl) c__law_mixed.g c__law_mixed.kp c__law_mixed.b .nil pass0 (pa_cons (pv 0) (pa_cons (pv 5) pa_nil)))))
      (pss_one (ps_ret (pe_tup (pa_cons (pe_call c__law_q_made.ok hr__law_q_made (by rfl) c__law_q_made.g c__law_q_made.kp c__law_q_made.b .nil passLN (pa_cons (pv 4) (pa_cons (pv 1) (pa_cons (pv 7) pa_nil)))) (pa_cons (pe_call c__law_q_counted.ok hr__law_q_counted (by rfl) c__law_q_counted.g c__law_q_counted.kp c__law_q_counted.b .nil pass0 (pa_cons (pv 4) (pa_cons (pv 5) (pa_cons (pv 3) pa_nil)))) pa_nil)))))))))), ?_⟩
    have hz : zs.length ≤ 12 := by
      have := HA.le
      unfold mostFor at this
      split at this <;> omega
    -- the word
    refine ⟨fun σ H1 => ∃ j, j < 6 ∧ σ = [some (.ref st), some (.ref x), some (.ref nl), some (.ref D), some (.str (W6 j)), none, none, none] ∧ HouseAt C H1 st c nl x D zs ch ws ∧ Strm H1 st c (n + 1) ∧ Kept st c H H1, ?_, ?_⟩
    · refine ⟨_, rfl, by show 8 ≤ sizeLine; rw [sizeLine_eq]; omega, fun l nl0 => ?_⟩
      obtain ⟨l1, l2⟩ := S.notfree nl0
      have e1 := same_upd (o := HO.lst named8) nl0
      refine ⟨st, c, n, _, .ref l, _, rfl, S.same e1, by omega, by show 0 < 8; decide, by show 8 < 1000000; decide, pk_lst (SqL.of upd_same) l1 l2, fun b H1 hb S1 k1 => ?_⟩
      have k01 := (Same.kept e1).trans k1
      have HA1 := HA.kept S k01
      match b, hb with
      | 0, _ => exact ⟨0, by decide, rfl, HA1, S1, k01⟩
      | 1, _ => exact ⟨0, by decide, rfl, HA1, S1, k01⟩
      | 2, _ => exact ⟨1, by decide, rfl, HA1, S1, k01⟩
      | 3, _ => exact ⟨1, by decide, rfl, HA1, S1, k01⟩
      | 4, _ => exact ⟨2, by decide, rfl, HA1, S1, k01⟩
      | 5, _ => exact ⟨3, by decide, rfl, HA1, S1, k01⟩
      | 6, _ => exact ⟨4, by decide, rfl, HA1, S1, k01⟩
      | 7, _ => exact ⟨5, by decide, rfl, HA1, S1, k01⟩
    rintro σ H1 ⟨j, hj, rfl, HA1, S1, k1⟩
    -- some of the names
    refine ⟨fun σ H2 => ∃ (so : Addr) (ks : List Str), σ = [some (.ref st), some (.ref x), some (.ref nl), some (.ref D), some (.str (W6 j)), some (.ref so), none, none] ∧ HouseAt C H2 st c nl x D zs ch ws ∧ Strm H2 st c (n + 13) ∧ Kept st c H H2 ∧ H so = none ∧ so ≠ st ∧ so ≠ c ∧ H2 so = some (.lst (ks.map V.str)) ∧ ks.Sublist zs, ?_, ?_⟩
    · refine ⟨_, rfl, nl, rfl, ⟨_, SqL.of HA1.nm⟩, fun D0 nD0 => ?_⟩
      obtain ⟨d1, d2⟩ := S1.notfree nD0
      refine lc_it walk_list (fun k H5 => ∃ ks : List Str, ks.Sublist (zs.take k) ∧ H5 D0 = some (.lst (ks.map V.str)) ∧ Strm H5 st c (n + 1 + k) ∧ Kept st c H1 H5) ⟨[], List.nil_sublist _, upd_same, S1.same (same_upd nD0), Same.kept (same_upd nD0)⟩ (fun k H5 _ ⟨_, _, _, _, k5⟩ => SqL.of (k5 _ _ HA1.n1 HA1.n2 HA1.nm)) ?_ ?_
      · rintro k y H5 H6 hk ⟨ks, hsub, hD0, S5, k5⟩ ⟨rfl, hy⟩
        rw [List.length_map] at hk
        obtain ⟨z, hz2, rfl⟩ : ∃ z, zs[k]? = some z ∧ y = V.str z := by
          rw [List.getElem?_map, List.getElem?_eq_getElem hk] at hy
          exact ⟨zs[k], List.getElem?_eq_getElem hk, by cases hy; rfl⟩
        refine ⟨rfl, _, rfl, st, c, n + 1 + k, 2, rfl, S5, by omega, by decide, by decide, fun d H7 d0 d2' S7 k7 => ⟨rfl, _, rfl, ?_⟩⟩
        have tk : zs.take (k + 1) = zs.take k ++ [z] := by
          rw [List.take_add_one, hz2]; rfl
        refine ite2 (fun _ => ?_) (fun _ => ?_)
        · refine ⟨_, rfl, _, k7 _ _ d1 d2 hD0, Evl.sz_lt (by rw [List.length_map]; have := hsub.length_le; rw [List.length_take] at this; omega), ks ++ [z], ?_, ?_, S7.upd d1 d2, (k5.trans k7).grow nD0⟩
          · rw [tk]
            exact hsub.append (List.Sublist.refl _)
          · rw [upd_same, List.map_append]
            rfl
        · exact ⟨ks, by rw [tk]; exact hsub.trans (List.sublist_append_left _ _), k7 _ _ d1 d2 hD0, S7, k5.trans k7⟩
      · rintro H5 ⟨ks, hsub, hD0, S5, k5⟩
        rw [List.length_map] at hsub S5
        rw [List.take_length] at hsub
        have k15 := k1.trans k5
        exact ⟨D0, ks, rfl, HA.kept S k15, S5.more (by omega), k15, k1.free nD0 d1 d2, d1, d2, hD0, hsub⟩
    rintro σ H2 ⟨so, ks, rfl, HA2, S2, k2, nso, so1, so2, hso, hsub⟩
    -- not none of them
    refine ⟨fun σ H3 => ∃ (so : Addr) (ks : List Str), σ = [some (.ref st), some (.ref x), some (.ref nl), some (.ref D), some (.str (W6 j)), some (.ref so), none, none] ∧ HouseAt C H3 st c nl x D zs ch ws ∧ Strm H3 st c (n + 14) ∧ Kept st c H H3 ∧ H so = none ∧ so ≠ st ∧ so ≠ c ∧ H3 so = some (.lst (ks.map V.str)) ∧ ks.Sublist zs, ?_, ?_⟩
    · refine ⟨_, rfl, by show 2 ≤ sizeLine; rw [sizeLine_eq]; omega, fun p np => ⟨p, _, rfl, .inr (SqT.of upd_same), rfl, rfl, _, rfl, ?_⟩⟩
      have e1 := same_upd (o := HO.tup [.str (Str.ofString "refers"), .str (Str.ofString "freed")]) np
      generalize upd H2 p (.tup [.str (Str.ofString "refers"), .str (Str.ofString "freed")]) = G1 at e1 ⊢
      have HB := HA2.same e1
      have SB := S2.same e1
      have kB := k2.trans (Same.kept e1)
      have stay : ∀ H3, Same G1 H3 → ∃ (so' : Addr) (ks' : List Str), [some (V.ref st), some (.ref x), some (.ref nl), some (.ref D), some (.str (W6 j)), some (.ref so), none, none] = [some (V.ref st), some (.ref x), some (.ref nl), some (.ref D), some (.str (W6 j)), some (.ref so'), none, none] ∧ HouseAt C H3 st c nl x D zs ch ws ∧ Strm H3 st c (n + 14) ∧ Kept st c H H3 ∧ H so' = none ∧ so' ≠ st ∧ so' ≠ c ∧ H3 so' = some (.lst (ks'.map V.str)) ∧ ks'.Sublist zs := fun H3 e =>
        ⟨so, ks, rfl, HB.same e, (SB.same e).more (by omega), kB.trans (Same.kept e), nso, so1, so2, e _ _ (e1 _ _ hso), hsub⟩
      refine ite2 (fun _ => ?_) (fun _ => stay _ (Same.refl _))
      refine ⟨_, rfl, Nat.zero_le _, fun p2 np2 => ⟨.list (ks.map PyData.str), .list ([].map PyData.str), .lst (SqL.of (same_upd np2 _ _ (e1 _ _ hso))) (dp_strs ks), .lst (SqL.of upd_same) (dp_strs []), shaped_strsL ks (fun k m => HA2.ok k (hsub.subset m)), shaped_strsL [] (fun _ m => nomatch m), _, rfl, ?_⟩⟩
      have e2 := same_upd (o := HO.lst []) np2
      generalize upd G1 p2 (.lst []) = G2 at e2 ⊢
      refine ite2 (fun _ => ?_) (fun _ => stay _ e2)
      have HC := HB.same e2
      refine ⟨_, rfl, _, rfl, ?_⟩
      refine ⟨st, c, n + 13, _, .ref nl, _, rfl, (SB.same e2), by omega, by rw [List.length_map]; exact HA.pos, by rw [List.length_map]; omega, pk_lst (SqL.of HC.nm) HA.n1 HA.n2, fun b H4 hb S4 k4 => ?_⟩
      obtain ⟨z, mz, ez⟩ := List.mem_map.mp (getD_mem hb)
      rw [← ez]
      have k5 := (kB.trans (Same.kept e2)).trans k4
      refine ⟨by show 1 ≤ sizeLine; rw [sizeLine_eq]; omega, fun a na => ?_⟩
      obtain ⟨a1, a2⟩ := S4.notfree na
      have e5 := same_upd (o := HO.lst [V.str z]) na
      exact ⟨a, [z], rfl, (HA.kept S k5).same e5, S4.same e5, k5.trans (Same.kept e5), k5.free na a1 a2, a1, a2, upd_same, List.singleton_sublist.mpr mz⟩
    rintro σ H3 ⟨so3, ks3, rfl, HA3, S3, k3, nso3, so31, so32, hso3, hsub3⟩
    -- two for what is sent
    refine ⟨fun σ H4 => ∃ (so : Addr) (ks : List Str), σ = [some (.ref st), some (.ref x), some (.ref nl), some (.ref D), some (.str (W6 j)), some (.ref so), none, none] ∧ HouseAt C H4 st c nl x D zs ch ws ∧ Strm H4 st c (n + 16) ∧ Kept st c H H4 ∧ H so = none ∧ so ≠ st ∧ so ≠ c ∧ H4 so = some (.lst (ks.map V.str)) ∧ (∀ k ∈ ks, k ∈ zs) ∧ ks.length ≤ 12 ∧ (j = 4 → ks.length = 2) ∧ (j ≠ 4 → ks.Sublist zs), ?_, ?_⟩
    · refine ⟨_, rfl, rfl, _, rfl, ?_⟩
      rw [sent_at hj]
      refine ite2 (fun c1 => ?_) (fun c1 => ?_)
      · have c1 := of_decide_eq_true c1
        refine ⟨_, rfl, _, rfl, ?_⟩
        refine ⟨st, c, n + 14, _, .ref nl, _, rfl, S3, by omega, by rw [List.length_map]; exact HA.pos, by rw [List.length_map]; omega, pk_lst (SqL.of HA3.nm) HA.n1 HA.n2, fun b H4 hb S4 k4 => ?_⟩
        obtain ⟨z1, mz1, ez⟩ := List.mem_map.mp (getD_mem hb)
        rw [← ez]
        have HA4 := HA3.kept S3 k4
        refine ⟨_, rfl, _, rfl, ?_⟩
        refine ⟨st, c, n + 15, _, .ref nl, _, rfl, S4, by omega, by rw [List.length_map]; exact HA.pos, by rw [List.length_map]; omega, pk_lst (SqL.of HA4.nm) HA.n1 HA.n2, fun b H5 hb S5 k5 => ?_⟩
        obtain ⟨z2, mz2, ez⟩ := List.mem_map.mp (getD_mem hb)
        rw [← ez]
        have HA5 := HA4.kept S4 k5
        have k35 := (k3.trans k4).trans k5
        refine ⟨by show 2 ≤ sizeLine; rw [sizeLine_eq]; omega, fun a na => ?_⟩
        obtain ⟨a1, a2⟩ := S5.notfree na
        have e5 := same_upd (o := HO.lst [V.str z1, .str z2]) na
        refine ⟨a, [z1, z2], rfl, HA5.same e5, S5.same e5, k35.trans (Same.kept e5), k35.free na a1 a2, a1, a2, upd_same, fun k m => ?_, by show 2 ≤ 12; decide, fun _ => rfl, fun z => absurd c1 z⟩
        rcases List.mem_cons.mp m with rfl | m
        · exact mz1
        · rw [List.mem_singleton.mp m]
          exact mz2
      · have c1 : ¬ j = 4 := fun z => c1 (decide_eq_true z)
        exact ⟨so3, ks3, rfl, HA3, S3.more (by omega), k3, nso3, so31, so32, hso3, fun k m => hsub3.subset m, by have := hsub3.length_le; omega, fun z => absurd z c1, fun _ => hsub3⟩
    rintro σ H4 ⟨so4, ks, rfl, HA4, S4, k4, nso4, so41, so42, hso4, msub, k12, h2, hsub4⟩
    have ksl : (ks.map V.str).length = ks.length := List.length_map ..
    -- in a drawn order
    refine ⟨fun σ H5 => ∃ (as : Addr) (ks' : List Str), σ = [some (.ref st), some (.ref x), some (.ref nl), some (.ref D), some (.str (W6 j)), some (.ref so4), none, some (.ref as)] ∧ HouseAt C H5 st c nl x D zs ch ws ∧ Strm H5 st c (n + 28) ∧ Kept st c H H5 ∧ H5 so4 = some (.lst (ks.map V.str)) ∧ H5 as = some (.lst (ks'.map V.str)) ∧ ks'.Perm ks ∧ (j = 4 → ks' = ks), ?_, ?_⟩
    · refine ⟨_, rfl, rfl, _, rfl, ?_⟩
      rw [sent_at hj]
      refine ite2 (fun c1 => ?_) (fun c1 => ?_)
      · exact ⟨_, rfl, so4, ks, rfl, HA4, S4.more (by omega), k4, hso4, hso4, List.Perm.refl _, fun _ => rfl⟩
      · have c1 : ¬ j = 4 := fun z => c1 (decide_eq_true z)
        refine ⟨_, rfl, _, rfl, st, c, so4, n + 16, _, rfl, S4, by omega, .inl (SqL.of hso4), by omega, fun D' ys H5 nD' hp hD' S5 k5 => ?_⟩
        obtain ⟨ks', rfl, hp'⟩ := perm_strs hp
        rw [ksl] at S5
        exact ⟨D', ks', rfl, HA4.kept S4 k5, S5.more (by omega), k4.trans k5, k5 _ _ so41 so42 hso4, hD', hp', fun z => absurd z c1⟩
    rintro σ H5 ⟨as, ks', rfl, HA5, S5, k5, hso5, has5, hperm, h4⟩
    have msub' : ∀ k ∈ ks', k ∈ zs := fun k m => msub k (hperm.mem_iff.mp m)
    have lsl : (ks'.map V.str).length = ks.length := by rw [List.length_map, hperm.length_eq]
    have kn : ∀ u ∈ ks'.map V.str, inV u (zs.map V.str) = true := fun u m => by
      obtain ⟨k, mk, rfl⟩ := List.mem_map.mp m
      rw [inV_strs, decide_eq_true (msub' k mk)]
    have lots2 := lots_few (ch := ch) HA5.le
    have lens : ∀ l ∈ lotsFor ch zs, l.length ≤ 1000 := fun l m => by
      have := lot_len m
      omega
    have e4 : ∀ l ∈ lotsFor ch zs, cntF (progCnt j) ch zs ks' l = if lawCnt j ks l then 1 else 0 := fun l m => by
      have p := law_prog (ks := ks') hj HA5.nd HA5.le msub' m
      rw [lawArg_of HA5.nd h4 hperm hsub4] at p
      rw [p]
      unfold cntF cnt
      by_cases h : progCnt j zs ks' l = true
      · rw [if_pos h, if_pos (List.mem_filter.mpr ⟨m, h⟩)]
      · rw [if_neg h, if_neg (fun z => h (List.mem_filter.mp z).2)]
    refine ⟨_, rfl, _, rfl, _, rfl, ?_⟩
    refine ⟨j, x, as, ks'.map V.str, zs, ch, rfl, hj, HA5.fo, HA5.nd, HA5.le, HA5.ok, sqs_kit (k := "list") (b1 := true) (b2 := false) (.base (.lst has5)) (by decide +kernel) (by decide +kernel), .inl (SqL.of has5), fun v m => ?_, by omega, fun z => by rw [lsl]; exact h2 z, fun v d H' _ hv _ => ?_, fun ks2 qa H6 hk nqa e56 QA => ?_⟩
    · obtain ⟨k, _, rfl⟩ := List.mem_map.mp m
      exact .inl rfl
    · rw [firstNot_none kn] at hv
      cases hv
    have QA6 : QuestAt C CQ H6 qa x zs ch (fun l => if lawCnt j ks l then 1 else 0) := by
      refine QuestAt.congr QA fun l m => ?_
      by_cases h5 : j = 5
      · subst h5
        exact e4 l m
      · rw [← str_map_inj (hk h5).1]
        exact e4 l m
    have HA6 := HA5.same e56
    have S6 := S5.same e56
    refine ⟨_, rfl, _, rfl, _, rfl, ?_⟩
    refine ⟨j, so4, D, ks, ws, lotsFor ch zs, rfl, hj, e56 _ _ hso5, by omega, h2, HA6.ld, HA6.at_, lots2, lens, fun r H7 nr e67 hr7 => ?_⟩
    refine ⟨by show 2 ≤ sizeLine; rw [sizeLine_eq]; omega, fun p np => ?_⟩
    have S7 := S6.same e67
    have k57 := (k5.trans (Same.kept e56)).trans (Same.kept e67)
    obtain ⟨p1, p2⟩ := S7.notfree np
    obtain ⟨r1, r2⟩ := S6.notfree nr
    obtain ⟨q1, q2⟩ := S5.notfree nqa
    have e7 := same_upd (o := HO.tup [.ref qa, .ref r]) np
    have k8 := k57.trans (Same.kept e7)
    exact q p qa r (fun l => if lawCnt j ks l then 1 else 0) _ (k57.free np p1 p2) (k5.free nqa q1 q2) ((k5.trans (Same.kept e56)).free nr r1 r2) upd_same ((QA6.same e67).same e7) (e7 _ _ hr7) (fun l => by split <;> omega) ((S7.same e7).more (by omega)) k8
end
end Bk

namespace Bk
open PySem PySem.Spec PyProof.Rows L2
/-! a table of distinct lots is laid as it is told -/
theorem merge_lots (f : List Str → Int) : ∀ (ls done : List (List Str)), (done ++ ls).Nodup → mergeT (tabV (tabL done f)) (tabV (tabL ls f)) = tabV (tabL (done ++ ls) f)
  | [], done, _ => by rw [List.append_nil]; rfl
  | l :: r, done, h => by
    have h2 : ((done ++ [l]) ++ r).Nodup := by rw [List.append_assoc]; exact h
    have hl : l ∉ done := fun m => by
      rw [List.nodup_append] at h
      exact h.2.2 l m l List.mem_cons_self rfl
    have e := merge_lots f r _ h2
    rw [List.append_assoc] at e
    show mergeT (putK (tabV (tabL done f)) (l.map Sum.inr) (V.int (f l))) (tabV (tabL r f)) = _
    rw [tab_put hl]
    exact e
theorem fun_ex : ∀ {ls : List (List Str)} {ns : List Int}, ls.Nodup → ns.length = ls.length → ∃ f : List Str → Int, ls.map f = ns ∧ ∀ l, f l = 0 ∨ f l ∈ ns
  | [], [], _, _ => ⟨fun _ => 0, rfl, fun _ => .inl rfl⟩
  | [], _ :: _, _, h => nomatch h
  | _ :: _, [], _, h => nomatch h
  | l :: r, n :: t, nd, h => by
    obtain ⟨h1, h2⟩ := List.nodup_cons.mp nd
    obtain ⟨f, hf, hb⟩ := fun_ex (ls := r) (ns := t) h2 (Nat.succ.inj h)
    refine ⟨fun m => if m = l then n else f m, ?_, fun m => ?_⟩
    · rw [List.map_cons, if_pos rfl, ← hf]
      congr 1
      exact List.map_congr_left fun m hm => if_neg fun (z : m = l) => h1 (z ▸ hm)
    · show (if m = l then n else f m) = 0 ∨ (if m = l then n else f m) ∈ n :: t
      by_cases c : m = l
      · rw [if_pos c]
        exact .inr List.mem_cons_self
      · rw [if_neg c]
        exact (hb m).imp (fun z => z) fun z => List.mem_cons_of_mem _ z
/-- _law_q_drawn(stream, house, names, lots) -/
def spAsked (K : PySem.W.Frag) (C CQ : Addr) : Sp := fun vs H Q _ => ∃ (st c x nl D : Addr) (n : Nat) (zs : List Str) (ch : Bool) (ws : List V), vs = [.ref st, .ref x, .ref nl, .ref D] ∧ HouseAt C H st c nl x D zs ch ws ∧ Strm H st c n ∧ n ≤ 600000 ∧
  ∀ (p q r : Addr) (f : List Str → Int) (H' : Hp), H p = none → H q = none → H r = none → H' p = some (.tup [.ref q, .ref r]) → QuestAt C CQ H' q x zs ch f → H' r = some (.lst ((lotsFor ch zs).map fun l => V.int (f l))) → (∀ l, -3 ≤ f l ∧ f l ≤ 3) → Strm H' st c (n + 2100) → Kept st c H H' → Q (.ref p) H'
theorem tcb_one {R : List V → Hp → VK → Prop} {t : TE} {σ : L2.St} {H : Hp} {Q : VK} (h : t σ H fun x H1 => R [x] H1 Q) : tCB R (tCons t tNil) σ H Q := h
theorem tcons_go {t : TE} {ts : TA} {σ : L2.St} {H : Hp} {R : List V → Hp → Prop} (h : t σ H fun x H1 => ts σ H1 fun vs H2 => R (x :: vs) H2) : tCons t ts σ H R := h
section
variable {P : Program} {w : World} {K : PySem.W.Frag} {mg : Str → Option Value} {base : Heap}
theorem scAsked : FnScope ["_law_stream", "_law_house", "_law_names_here", "_law_lots", "_law_way", "_law_one", "_law_row", "_law_other", "_law_more", "_law_x", "_law_y", "_law_lot"] ["_law_stream", "_law_house", "_law_names_here", "_law_lots"] (defScope (topS 95)) := ⟨rfl, rfl, rfl, by decide +kernel, rfl, by decide +kernel, by decide +kernel⟩
theorem ok_asked (B : Bi mg) {C CQ fQ fP fS f f1 f2 : Addr} {fdQ fdP fdS fd fd1 fd2 : FuncData} (TQ : QueT K mg CQ fQ) (sf : PySem.W.selfFirst K CQ = true) (GQ : FnOk P w K mg base CX0 4 fQ fdQ ["self", "folders", "weights"] (spQuest K C CQ)) (bQ : Binds K fdQ ["self", "folders", "weights"] [])
    (GP : FnOk P w K mg base CX0 6 fP fdP ["self", "other"] (spPlus C CQ 1)) (bP : Binds K fdP ["self", "other"] []) (mP : Own K CQ "__add__" fP) (GS : FnOk P w K mg base CX0 6 fS fdS ["self", "other"] (spPlus C CQ (-1))) (bS : Binds K fdS ["self", "other"] []) (mS : Own K CQ "__sub__" fS)
    (c__law_draw : Cal P w K mg base CX0 1 "_law_draw" f1 fd1 ["_law_stream", "_law_many"] spDraw) (c__law_q_named : Cal P w K mg base CX0 9 "_law_q_named" f2 fd2 ["_law_stream", "_law_house", "_law_names_here", "_law_lots"] (spNamed K C CQ))
    (F : Fun K "_law_q_drawn" "_law_q_drawn" (topS 95) f fd) : FnOk P w K mg base CX0 10 f fd ["_law_stream", "_law_house", "_law_names_here", "_law_lots"] (spAsked K C CQ) := by
  refine F.ok scAsked (fun vs H Q E h => ?_) (fun cdv A outer s H vs Q E hr h => ?_)
  · obtain ⟨st, c, x, nl, D, n, zs, ch, ws, rfl, _⟩ := h
    rfl
  · obtain ⟨st, c, x, nl, D, n, zs, ch, ws, rfl, HA, S, hn, q⟩ := h
    have nd := scAsked.nd
    have hu := hu_of hr
    have hr__law_q_named := hr
    have hrO : Room 6 _ := hr.mono (by decide)
    have hrQ : Room 5 _ := hr.mono (by decide)
    have hr__law_draw : Room 1 _ := hr.mono (by decide)
    refine ⟨_, (Evl.pss_cut (ps_set (i := 4) nd rfl (Or.inl rfl) (pe_call c__law_draw.ok hr__law_draw (by rfl) c__law_draw.g c__law_draw.kp c__law_draw.b .nil pass0 (pa_cons (pv 0) (pa_cons pe_int pa_nil))))
      (Evl.pss_cut (ps_asg (pe_call c__law_q_named.ok hr__law_q_named (by rfl) c__law_q_named.g c__law_q_named.kp c__law_q_named.b .nil pass0 (pa_cons (pv 0) (pa_cons (pv 1) (pa_cons (pv 2) (pa_cons (pv 3) pa_nil))))) (kTg K 2 rfl (pgs_cons (pg_name (i := 5) nd rfl (Or.inl rfl)) (pgs_cons (pg_name (i := 6) nd rfl (Or.inl rfl)) pgs_nil))))
      (Evl.pss_cut (ps_if (pt_cmpR op_lt (pv 4) pe_int (nomark _)) (pss_one (ps_ret (pe_tup (pa_cons (pv 5) (pa_cons (pv 6) pa_nil))))) pss_nil)
      (Evl.pss_cut (ps_if (pt_cmpR op_lt (pv 4) pe_int (nomark _)) (pss_cons (ps_asg (pe_call c__law_q_named.ok hr__law_q_named (by rfl) c__law_q_named.g c__law_q_named.kp c__law_q_named.b .nil pass0 (pa_cons (pv 0) (pa_cons (pv 1) (pa_cons (pv 2) (pa_cons (pv 3) pa_nil))))) (kTg K 2 rfl (pgs_cons (pg_name (i := 7) nd rfl (Or.inl rfl)) (pgs_cons (pg_name (i := 8) nd rfl (Or.inl rfl)) pgs_nil))))
      (pss_cons (ps_if (pt_cmpR op_eq (pv 4) pe_int (nomark _)) (pss_one (ps_ret (pe_tup (pa_cons (pe_op (op_binOwn GP bP pass0 hrO mP sf) (pv 5) (pv 7)) (pa_cons (pe_lc (own := [("_law_x", 9), ("_law_y", 10)]) rfl nd (kPiZ K (by rfl) B.zip (pa_cons (pv 6) (pa_cons (pv 8) pa_nil))) (blkOk_by (N := ["_law_stream", "_law_house", "_law_names_here", "_law_lots", "_law_way", "_law_one", "_law_row", "_law_other", "_law_more", "_law_x", "_law_y", "_law_lot"]) (sc := defScope (topS 95)) (by decide +kernel)) (fun _ _ _ _ _ => (kTg K 2 rfl (pgs_cons (pg_name (i := 9) nd rfl (Or.inl rfl)) (pgs_cons (pg_name (i := 10) nd rfl (Or.inl rfl)) pgs_nil)))) (fun _ _ _ _ _ => pts_nil) (fun _ _ _ _ _ => (pe_op op_add (pv 9) (pv 10)))) pa_nil))))) pss_nil)
      (pss_one (ps_ret (pe_tup (pa_cons (pe_op (op_binOwn GS bS pass0 hrO mS sf) (pv 5) (pv 7)) (pa_cons (pe_lc (own := [("_law_x", 9), ("_law_y", 10)]) rfl nd (kPiZ K (by rfl) B.zip (pa_cons (pv 6) (pa_cons (pv 8) pa_nil))) (blkOk_by (N := ["_law_stream", "_law_house", "_law_names_here", "_law_lots", "_law_way", "_law_one", "_law_row", "_law_other", "_law_more", "_law_x", "_law_y", "_law_lot"]) (sc := defScope (topS 95)) (by decide +kernel)) (fun _ _ _ _ _ => (kTg K 2 rfl (pgs_cons (pg_name (i := 9) nd rfl (Or.inl rfl)) (pgs_cons (pg_name (i := 10) nd rfl (Or.inl rfl)) pgs_nil)))) (fun _ _ _ _ _ => pts_nil) (fun _ _ _ _ _ => (pe_op op_sub (pv 9) (pv 10)))) pa_nil))))))) pss_nil)
      (Evl.pss_cut (ps_setLc (i := 6) (own := [("_law_lot", 11)]) rfl nd rfl rfl (sw_true rfl rfl rfl (by decide +kernel)) (kPiL K (pv 3)) (blkOk_by (N := ["_law_stream", "_law_house", "_law_names_here", "_law_lots", "_law_way", "_law_one", "_law_row", "_law_other", "_law_more", "_law_x", "_law_y", "_law_lot"]) (sc := defScope (topS 95)) (by decide +kernel)) (fun _ _ _ _ _ => (pg_name (i := 11) nd rfl (Or.inl rfl))) (fun _ _ _ _ _ => pts_nil) (fun _ _ _ _ _ => (pe_op op_sub (pe_call c__law_draw.ok hr__law_draw (by rfl) c__law_draw.g c__law_draw.kp c__law_draw.b .nil pass0 (pa_cons (pv 0) (pa_cons pe_int pa_nil))) pe_int)))
      (pss_one (ps_ret (pe_tup (pa_cons (pe_make TQ.make GQ hrQ (by rfl) TQ.g bQ .nil pass0 (pa_cons (pv 1) (pa_cons (pe_callTy (kDictPT K rfl hr.units) (by rfl) B.dict (by decide +kernel) (pa_cons (pe_lc (own := [("_law_lot", 11), ("_law_x", 9)]) rfl nd (kPiZ K (by rfl) B.zip (pa_cons (pv 3) (pa_cons (pv 6) pa_nil))) (blkOk_by (N := ["_law_stream", "_law_house", "_law_names_here", "_law_lots", "_law_way", "_law_one", "_law_row", "_law_other", "_law_more", "_law_x", "_law_y", "_law_lot"]) (sc := defScope (topS 95)) (by decide +kernel)) (fun _ _ _ _ _ => (kTg K 2 rfl (pgs_cons (pg_name (i := 11) nd rfl (Or.inl rfl)) (pgs_cons (pg_name (i := 9) nd rfl (Or.inl rfl)) pgs_nil)))) (fun _ _ _ _ _ => pts_nil) (fun _ _ _ _ _ => (pe_tup (pa_cons (pv 11) (pa_cons (pv 9) pa_nil))))) pa_nil)) pa_nil))) (pa_cons (pv 6) pa_nil)))))))))), ?_⟩
    have few := lots_few (ch := ch) HA.le
    -- the way
    refine ⟨fun σ H1 => ∃ d : Int, 0 ≤ d ∧ d < 6 ∧ σ = [some (.ref st), some (.ref x), some (.ref nl), some (.ref D), some (.int d), none, none, none, none, none, none, none] ∧ HouseAt C H1 st c nl x D zs ch ws ∧ Strm H1 st c (n + 1) ∧ Kept st c H H1, ?_, ?_⟩
    · exact ⟨_, rfl, st, c, n, 6, rfl, S, by omega, by decide, by decide, fun d H1 d0 d6 S1 k1 => ⟨d, d0, d6, rfl, HA.kept S k1, S1, k1⟩⟩
    rintro σ H1 ⟨d, d0, d6, rfl, HA1, S1, k1⟩
    -- a question
    refine ⟨fun σ H2 => ∃ (q1 r1 : Addr) (f : List Str → Int), σ = [some (.ref st), some (.ref x), some (.ref nl), some (.ref D), some (.int d), some (.ref q1), some (.ref r1), none, none, none, none, none] ∧ HouseAt C H2 st c nl x D zs ch ws ∧ Strm H2 st c (n + 31) ∧ Kept st c H H2 ∧ (H q1 = none ∧ H r1 = none) ∧ QuestAt C CQ H2 q1 x zs ch f ∧ H2 r1 = some (.lst ((lotsFor ch zs).map fun l => V.int (f l))) ∧ (∀ l, -1 ≤ f l ∧ f l ≤ 1) ∧ r1 ≠ st ∧ r1 ≠ c, ?_, ?_⟩
    · refine ⟨_, rfl, _, rfl, _, rfl, _, rfl, st, c, x, nl, D, n + 1, zs, ch, ws, rfl, HA1, S1, by omega, fun p q1 r1 f H2 np nq nr hp QA hr1 bd S2 k2 => ?_⟩
      obtain ⟨q1', q2'⟩ := S1.notfree nq
      obtain ⟨r1', r2'⟩ := S1.notfree nr
      exact ⟨p, _, rfl, SqT.of hp, rfl, _, _, rfl, _, _, rfl, rfl, q1, r1, f, rfl, HA1.kept S1 k2, S2, k1.trans k2, ⟨k1.free nq q1' q2', k1.free nr r1' r2'⟩, QA, hr1, bd, r1', r2'⟩
    rintro σ H2 ⟨q1, r1, f, rfl, HA2, S2, k2, ⟨nq1, nr1⟩, QA2, hr1, bd1, r1s, r1c⟩
    -- three ways tell it
    refine ⟨fun σ H3 => σ = [some (.ref st), some (.ref x), some (.ref nl), some (.ref D), some (.int d), some (.ref q1), some (.ref r1), none, none, none, none, none] ∧ H2 = H3, ?_, ?_⟩
    · refine ⟨_, rfl, d, 3, rfl, rfl, _, rfl, ?_⟩
      refine ite2 (fun _ => ?_) (fun _ => ⟨rfl, rfl⟩)
      refine ⟨_, rfl, _, rfl, by show 2 ≤ sizeLine; rw [sizeLine_eq]; omega, fun p np => ?_⟩
      obtain ⟨p1, p2⟩ := S2.notfree np
      have e := same_upd (o := HO.tup [.ref q1, .ref r1]) np
      exact q p q1 r1 f _ (k2.free np p1 p2) nq1 nr1 upd_same (QA2.same e) (e _ _ hr1) (fun l => by have := bd1 l; omega) ((S2.same e).more (by omega)) (k2.trans (Same.kept e))
    rintro σ _ ⟨rfl, rfl⟩
    -- two add or take away another one
    refine ⟨fun σ H3 => σ = [some (.ref st), some (.ref x), some (.ref nl), some (.ref D), some (.int d), some (.ref q1), some (.ref r1), none, none, none, none, none] ∧ H2 = H3, ?_, ?_⟩
    · refine ⟨_, rfl, d, 5, rfl, rfl, _, rfl, ?_⟩
      refine ite2 (fun _ => ?_) (fun _ => ⟨rfl, rfl⟩)
      refine ⟨_, rfl, _, rfl, _, rfl, _, rfl, st, c, x, nl, D, n + 31, zs, ch, ws, rfl, HA2, S2, by omega, fun p q2 r2 g H3 np nq nr hp QB hr2 bd2 S3 k3 => ?_⟩
      obtain ⟨q21, q22⟩ := S2.notfree nq
      obtain ⟨r21, r22⟩ := S2.notfree nr
      have QA3 := QA2.kept S2 k3
      have hr13 := k3 _ _ r1s r1c hr1
      have k23 := k2.trans k3
      obtain ⟨dq1, td1, a1, _, _⟩ := id QA3
      obtain ⟨dq2, td2, a2, _, _⟩ := id QB
      refine ⟨p, _, rfl, SqT.of hp, rfl, _, _, rfl, _, _, rfl, rfl, ?_⟩
      have ends : ∀ (sg : Int) (h : List Str → Int) (p y R : Addr) (H6 : Hp), (∀ l, h l = f l + sg * g l) → -1 ≤ sg → sg ≤ 1 → H3 p = none → H3 y = none → H3 R = none → Same H3 H6 → H6 p = some (.tup [.ref y, .ref R]) → QuestAt C CQ H6 y x zs ch (fun l => f l + sg * g l) → H6 R = some (.lst ((lotsFor ch zs).map fun l => V.int (h l))) → Q (.ref p) H6 := fun sg h p y R H6 hh s1 s2 np ny nR e hp QY hR => by
        have hy : sg = -1 ∨ sg = 0 ∨ sg = 1 := by omega
        obtain ⟨p1, p2⟩ := S3.notfree np
        obtain ⟨y1, y2⟩ := S3.notfree ny
        obtain ⟨R1, R2⟩ := S3.notfree nR
        refine q p y R h H6 (k23.free np p1 p2) (k23.free ny y1 y2) (k23.free nR R1 R2) hp (QY.congr fun l _ => (hh l).symm) hR (fun l => ?_) ((S3.same e).more (by omega)) (k23.trans (Same.kept e))
        rw [hh l]
        have b1 := bd1 l
        have b2 := bd2 l
        rcases hy with rfl | rfl | rfl <;> omega
      refine ⟨_, rfl, rfl, _, rfl, ?_⟩
      have lm1 : ((lotsFor ch zs).map fun l => V.int (f l)).length = (lotsFor ch zs).length := List.length_map ..
      have lm2 : ((lotsFor ch zs).map fun l => V.int (g l)).length = (lotsFor ch zs).length := List.length_map ..
      refine ite2 (fun _ => ?_) (fun _ => ?_)
      · refine ⟨_, rfl, _, rfl, q1, dq1, q2, dq2, _, _, rfl, rfl, a1, a2, q1, x, q2, x, zs, ch, f, g, rfl, QA3, QB, HA.ok, HA.nd, HA.le, fun y H4 ny e4 QY => ⟨y, rfl, ?_⟩⟩
        refine zip_map (ls := lotsFor ch zs) (fun l => V.int (f l + g l)) rfl rfl (.inl ⟨SqL.of (e4 _ _ hr13), SqL.of (e4 _ _ hr2)⟩) lm1 lm2 (by omega) (fun k l u v T H5 R h1 h2 h3 e5 hT hR => ?_) fun R H5 nR e5 hR => ?_
        · rw [List.getElem?_map, h1] at h2 h3
          cases h2
          cases h3
          exact ⟨_, _, rfl, SqT.of hT, rfl, _, _, rfl, _, _, rfl, rfl, rfl, _, rfl, _, rfl, _, _, rfl, rfl, hR _ (Same.refl _)⟩
        · refine ⟨by show 2 ≤ sizeLine; rw [sizeLine_eq]; omega, fun p np => ?_⟩
          have e6 := same_upd (o := HO.tup [.ref y, .ref R]) np
          exact ends 1 (fun l => f l + g l) p y R _ (fun l => by omega) (by decide) (by decide) ((Same.trans e4 e5).free np) ny (e4.free nR) (Same.trans e4 (Same.trans e5 e6)) upd_same ((QY.same e5).same e6) (e6 _ _ hR)
      · refine ⟨_, rfl, _, rfl, q1, dq1, q2, dq2, _, _, rfl, rfl, a1, a2, q1, x, q2, x, zs, ch, f, g, rfl, QA3, QB, HA.ok, HA.nd, HA.le, fun y H4 ny e4 QY => ⟨y, rfl, ?_⟩⟩
        refine zip_map (ls := lotsFor ch zs) (fun l => V.int (f l - g l)) rfl rfl (.inl ⟨SqL.of (e4 _ _ hr13), SqL.of (e4 _ _ hr2)⟩) lm1 lm2 (by omega) (fun k l u v T H5 R h1 h2 h3 e5 hT hR => ?_) fun R H5 nR e5 hR => ?_
        · rw [List.getElem?_map, h1] at h2 h3
          cases h2
          cases h3
          exact ⟨_, _, rfl, SqT.of hT, rfl, _, _, rfl, _, _, rfl, rfl, rfl, _, rfl, _, rfl, _, _, rfl, rfl, hR _ (Same.refl _)⟩
        · refine ⟨by show 2 ≤ sizeLine; rw [sizeLine_eq]; omega, fun p np => ?_⟩
          have e6 := same_upd (o := HO.tup [.ref y, .ref R]) np
          exact ends (-1) (fun l => f l - g l) p y R _ (fun l => by omega) (by decide) (by decide) ((Same.trans e4 e5).free np) ny (e4.free nR) (Same.trans e4 (Same.trans e5 e6)) upd_same ((QY.same e5).same e6) (e6 _ _ hR)
    rintro σ _ ⟨rfl, rfl⟩
    -- the last one draws its numbers
    refine ⟨fun σ H3 => ∃ (r2 : Addr) (ns : List Int), σ = [some (.ref st), some (.ref x), some (.ref nl), some (.ref D), some (.int d), some (.ref q1), some (.ref r2), none, none, none, none, none] ∧ HouseAt C H3 st c nl x D zs ch ws ∧ Strm H3 st c (n + 2100) ∧ Kept st c H H3 ∧ H r2 = none ∧ r2 ≠ st ∧ r2 ≠ c ∧ H3 r2 = some (.lst (ns.map V.int)) ∧ ns.length = (lotsFor ch zs).length ∧ (∀ m ∈ ns, -3 ≤ m ∧ m ≤ 3), ?_, ?_⟩
    · have wsl : ws.length = (lotsFor ch zs).length := HA2.at_.1
      refine ⟨_, rfl, D, rfl, ⟨_, SqL.of HA2.ld⟩, fun D0 nD0 => ?_⟩
      obtain ⟨e1, e2⟩ := S2.notfree nD0
      refine lc_it walk_list (fun k H5 => ∃ ns : List Int, ns.length = k ∧ (∀ m ∈ ns, -3 ≤ m ∧ m ≤ 3) ∧ H5 D0 = some (.lst (ns.map V.int)) ∧ Strm H5 st c (n + 31 + k) ∧ Kept st c H2 H5) ⟨[], rfl, (fun m h => nomatch h), upd_same, S2.same (same_upd nD0), Same.kept (same_upd nD0)⟩ (fun k H5 _ ⟨_, _, _, _, _, k5⟩ => SqL.of (k5 _ _ HA2.d1 HA2.d2 HA2.ld)) ?_ ?_
      · rintro k y H5 H6 hk ⟨ns, hn2, bd, hD0, S5, k5⟩ ⟨rfl, hy⟩
        refine ⟨rfl, yes2 ?_⟩
        refine ⟨_, rfl, st, c, n + 31 + k, 7, rfl, S5, by omega, by decide, by decide, fun m H7 m0 m7 S7 k7 => ⟨m, 3, rfl, rfl, _, k7 _ _ e1 e2 hD0, Evl.sz_lt (by rw [List.length_map]; omega), ns ++ [m - 3], by rw [List.length_append, hn2]; rfl, fun i hi => ?_, ?_, S7.upd e1 e2, (k5.trans k7).grow nD0⟩⟩
        · rcases List.mem_append.mp hi with hi | hi
          · exact bd i hi
          · rw [List.mem_singleton.mp hi]
            omega
        · rw [upd_same, List.map_append]
          rfl
      · rintro H5 ⟨ns, hn2, bd, hD0, S5, k5⟩
        have k25 := k2.trans k5
        exact ⟨D0, ns, rfl, HA.kept S k25, S5.more (by omega), k25, k2.free nD0 e1 e2, e1, e2, hD0, by omega, bd⟩
    rintro σ H3 ⟨r2, ns, rfl, HA3, S3, k3, nr2, r21, r22, hr2, hns, bd⟩
    obtain ⟨f2, hf2, hb2⟩ := fun_ex (lots_nodup (ch := ch) HA.nd) hns
    have hr2' : H3 r2 = some (.lst ((lotsFor ch zs).map fun l => V.int (f2 l))) := by
      rw [hr2, ← hf2, List.map_map]
      rfl
    have wsl : ws.length = (lotsFor ch zs).length := HA3.at_.1
    have lm2 : ((lotsFor ch zs).map fun l => V.int (f2 l)).length = (lotsFor ch zs).length := List.length_map ..
    have lme : ((lotsFor ch zs).map fun l => (l, f2 l)).length = (lotsFor ch zs).length := List.length_map ..
    refine ⟨_, rfl, ?_⟩
    refine tcons_go (tcb_one ?_)
    refine zip_rel (ls := (lotsFor ch zs).map fun l => (l, f2 l)) stays_pair rfl rfl (.inl ⟨SqL.of HA3.ld, SqL.of hr2'⟩) (by omega) (by omega) (by omega) (fun k e u v T H5 R h1 h2 h3 e5 hT hR => ?_) fun D1 us H5 nD1 e5 hD1 tus => ?_
    · rw [List.getElem?_map] at h1 h3
      obtain ⟨l, hl, rfl⟩ : ∃ l, (lotsFor ch zs)[k]? = some l ∧ (l, f2 l) = e := by
        cases hl : (lotsFor ch zs)[k]? with
        | none => rw [hl] at h1; cases h1
        | some l => exact ⟨l, rfl, by rw [hl] at h1; cases h1; rfl⟩
      rw [hl] at h3
      cases h3
      obtain ⟨b, rfl, hb⟩ := HA3.at_.2 k u l h2 hl
      refine ⟨_, _, rfl, SqT.of hT, rfl, _, _, rfl, _, _, rfl, rfl, rfl, _, rfl, _, rfl, by show 2 ≤ sizeLine; rw [sizeLine_eq]; omega, fun p np => ?_⟩
      have e6 := same_upd (o := HO.tup [.ref b, .int (f2 l)]) np
      exact hR (.ref p) _ e6 ⟨p, b, rfl, upd_same, e6 _ _ (e5 _ _ hb)⟩
    · obtain ⟨ps, rfl, hps⟩ := told_pairs tus
      refine ⟨D1, ps, _, rfl, SqL.of hD1, hps, fun b nb => ?_⟩
      have kv : ((lotsFor ch zs).map fun l => (l, f2 l)).map (fun e => ((e.1.map Sum.inr : List Key), V.int e.2)) = tabV (tabL (lotsFor ch zs) f2) := by
        unfold tabV tabL
        rw [List.map_map, List.map_map]
        rfl
      rw [kv]
      have m : mergeT [] (tabV (tabL (lotsFor ch zs) f2)) = tabV (tabL (lotsFor ch zs) f2) := merge_lots f2 (lotsFor ch zs) [] (lots_nodup HA.nd)
      rw [m]
      have e6 := same_upd (o := HO.dT (tabV (tabL (lotsFor ch zs) f2))) nb
      have hb : upd H5 b (.dT (tabV (tabL (lotsFor ch zs) f2))) b = some (.dT (tabV (tabL (lotsFor ch zs) f2))) := upd_same
      generalize upd H5 b (.dT (tabV (tabL (lotsFor ch zs) f2))) = H6 at e6 hb ⊢
      have e36 := Same.trans e5 e6
      refine make_quest (wt := f2) ((HA3.fo.same e5).same e6) HA.nd HA.le hb (far_new (HA3.fo.same e5) nb e6) (fun l m => m) (lots_nodup HA.nd) (fun l m => by rw [if_pos m]) fun y H7 ny e7 QY => ?_
      refine ⟨_, rfl, by show 2 ≤ sizeLine; rw [sizeLine_eq]; omega, fun p np => ?_⟩
      have e37 := Same.trans e36 e7
      obtain ⟨p1, p2⟩ := (S3.same e37).notfree np
      obtain ⟨y1, y2⟩ := (S3.same e36).notfree ny
      have e8 := same_upd (o := HO.tup [.ref y, .ref r2]) np
      exact q p y r2 f2 _ ((k3.trans (Same.kept e37)).free np p1 p2) ((k3.trans (Same.kept e36)).free ny y1 y2) nr2 upd_same (QY.same e8) (e8 _ _ (e37 _ _ hr2')) (fun l => by
        rcases hb2 l with h | h
        · omega
        · exact bd _ h) ((S3.same e37).same e8) ((k3.trans (Same.kept e37)).trans (Same.kept e8))
end
end Bk

/-! x != [], whatever stands in x -/
namespace Bk
open PySem PySem.Spec PyProof.Rows L2
section
variable {X : Cx}
def rNeMt (K : PySem.W.Frag) : R2 := fun x y H Q => ∃ (a b : Addr) (xs : List V), x = .ref a ∧ y = .ref b ∧ SqL K H a xs ∧ SqL K H b [] ∧ Q (.bl (!xs.isEmpty)) H
theorem op_neMt (hu : X.A.units + 64 < cLine) : OpR X (compareOp .NotEq) (rNeMt X.K) := by
  intro pins s σ H x y v u Q I rx ry h
  obtain ⟨a, b, xs, rfl, rfl, ha, hb, q⟩ := h
  cases xs with
  | nil => exact op_neD hu pins s σ H (.ref a) (.ref b) v u Q I rx ry ⟨.list [], .list [], .lst ha .nil, .lst hb .nil, rfl, rfl, q⟩
  | cons x0 r =>
    cases rx
    cases ry
    obtain ⟨i1, r1, p1, z1⟩ := I.list ha
    obtain ⟨i2, r2, p2, z2⟩ := I.list hb
    have l1 := r1.length
    have l2 := r2.length
    have ne : i1.toArray.size ≠ i2.toArray.size := by
      rw [List.size_toArray, List.size_toArray, ← l1, ← l2]
      exact Nat.succ_ne_zero _
    exact PySem.SeqAt.RcNeAt.lists_lengths p1.isList p2.isList (by simpa using ne) (by omega) _ _ _ _ ⟨.bl true, H, I, rfl, q⟩
end
theorem kNeMt {X : Cx} (K : PySem.W.Frag) (hu : X.A.units + 64 < cLine) (e : X.K = K := by rfl) : OpR X (compareOp .NotEq) (rNeMt K) := e ▸ op_neMt hu
end Bk

/-! a book and what the law keeps of it, while the stream goes on and other books are written -/
namespace Bk
open PySem PySem.Spec PyProof.Rows L2
/-- a telling as the law keeps it -/
def TuAt (C CQ st c : Addr) (zs : List Str) (ch : Bool) (H : Hp) (u : V) (t : (List Str → Int) × V × V) : Prop := ∃ T q x r, u = .ref T ∧ H T = some (.tup [.ref q, .ref r, t.2.1, t.2.2]) ∧ QuestAt C CQ H q x zs ch t.1 ∧ H r = some (.lst ((lotsFor ch zs).map fun l => V.int (t.1 l))) ∧ r ≠ st ∧ r ≠ c
/-- all but the object at b and the stream stays -/
def KeptB (b st c : Addr) (H H' : Hp) : Prop := ∀ a u, a ≠ b → a ≠ st → a ≠ c → H a = some u → H' a = some u
section
variable {b st c : Addr} {H H' H2 : Hp}
theorem KeptB.trans (h1 : KeptB b st c H H') (h2 : KeptB b st c H' H2) : KeptB b st c H H2 := fun a u n1 n2 n3 h => h2 _ _ n1 n2 n3 (h1 _ _ n1 n2 n3 h)
theorem KeptB.of (k : Kept st c H H') : KeptB b st c H H' := fun a u _ n2 n3 h => k _ _ n2 n3 h
theorem KeptB.off (e : OffB b H H') : KeptB b st c H H' := fun a u n1 _ _ h => e _ _ n1 h
theorem KeptB.same (e : Same H H') : KeptB b st c H H' := fun a u _ _ _ h => e _ _ h
/-- a book's own lists are not the stream's -/
def ApartB (H : Hp) (b st c : Addr) : Prop := ∀ CB db x lq le, H b = some (.ins CB db (bookF x lq le)) → (lq ≠ st ∧ lq ≠ c) ∧ (le ≠ st ∧ le ≠ c)
theorem ApartB.new {n : Nat} (S : Strm H st c n) (a : ApartB H b st c) (nw : NewL H H' b) : ApartB H' b st c := fun CB db x lq le h => by
  obtain ⟨h1, h2⟩ := nw CB db x lq le h
  refine ⟨?_, ?_⟩
  · rcases h1 with h1 | ⟨d, x', l, h1⟩
    · exact S.notfree h1
    · exact (a _ _ _ _ _ h1).1
  · rcases h2 with h2 | ⟨d, x', l, h2⟩
    · exact S.notfree h2
    · exact (a _ _ _ _ _ h2).2
variable {C CQ CB db xb lq le b2 : Addr} {zs : List Str} {ch : Bool} {n : Nat}
theorem FoldersAt.keptB {x : Addr} (h : FoldersAt C H x zs ch) (S : Strm H st c n) (hb : H b = some (.ins CB db (bookF xb lq le))) (k : KeptB b st c H H') : FoldersAt C H' x zs ch := by
  obtain ⟨dx, t, pd, h1, h2, h3⟩ := h
  have g : ∀ {a : Addr} {o : HO}, H a = some o → (∀ l, o ≠ .lst l) → a ≠ b → H' a = some o := fun e n z => k _ _ z (S.far e n).1 (S.far e n).2 e
  exact ⟨dx, t, pd, g h1 (fun _ z => nomatch z) (ins_ne h1 hb (fold_noq _ _ _)), g h2 (fun _ z => nomatch z) (ne_of h2 hb (fun z => nomatch z)), g h3 (fun _ z => nomatch z) (ne_of h3 hb (fun z => nomatch z))⟩
theorem QuestAt.keptB {q x : Addr} {wt : List Str → Int} (h : QuestAt C CQ H q x zs ch wt) (S : Strm H st c n) (hb : H b = some (.ins CB db (bookF xb lq le))) (k : KeptB b st c H H') : QuestAt C CQ H' q x zs ch wt := by
  obtain ⟨dq, td, h1, h2, h3⟩ := h
  have g : ∀ {a : Addr} {o : HO}, H a = some o → (∀ l, o ≠ .lst l) → a ≠ b → H' a = some o := fun e n z => k _ _ z (S.far e n).1 (S.far e n).2 e
  exact ⟨dq, td, g h1 (fun _ z => nomatch z) (ins_ne h1 hb (quest_noq _ _)), h2.keptB S hb k, g h3 (fun _ z => nomatch z) (ne_of h3 hb (fun z => nomatch z))⟩
theorem TuAt.keptB {u : V} {t : (List Str → Int) × V × V} (h : TuAt C CQ st c zs ch H u t) (S : Strm H st c n) (hb : H b = some (.ins CB db (bookF xb lq le))) (k : KeptB b st c H H') : TuAt C CQ st c zs ch H' u t := by
  obtain ⟨T, q, x, r, e, h1, h2, h3, n1, n2⟩ := h
  have f := S.far h1 (fun _ z => nomatch z)
  exact ⟨T, q, x, r, e, k _ _ (ne_of h1 hb (fun z => nomatch z)) f.1 f.2 h1, h2.keptB S hb k, k _ _ (ne_of h3 hb (fun z => nomatch z)) n1 n2 h3, n1, n2⟩
theorem told_keptB {us : List V} {ts : List ((List Str → Int) × V × V)} (h : Told (TuAt C CQ st c zs ch) H us ts) (S : Strm H st c n) (hb : H b = some (.ins CB db (bookF xb lq le))) (k : KeptB b st c H H') : Told (TuAt C CQ st c zs ch) H' us ts := ⟨h.1, fun i u t h1 h2 => (h.2 i u t h1 h2).keptB S hb k⟩
theorem QtsAt.keptB {us : List V} {wts : List (List Str → Int)} (h : QtsAt C CQ H zs ch us wts) (S : Strm H st c n) (hb : H b = some (.ins CB db (bookF xb lq le))) (k : KeptB b st c H H') : QtsAt C CQ H' zs ch us wts := ⟨h.1, fun i u wt h1 h2 => let ⟨q, x, a, d⟩ := h.2 i u wt h1 h2; ⟨q, x, a, d.keptB S hb k⟩⟩
theorem ends_keptB {es : List V} {ps : List (V × V)} (h : Told EndAt H es ps) (S : Strm H st c n) (hb : H b = some (.ins CB db (bookF xb lq le))) (k : KeptB b st c H H') : Told EndAt H' es ps := ⟨h.1, fun i u p h1 h2 => let ⟨T, a, d⟩ := h.2 i u p h1 h2; ⟨T, a, k _ _ (ne_of d hb (fun z => nomatch z)) (S.far d (fun _ z => nomatch z)).1 (S.far d (fun _ z => nomatch z)).2 d⟩⟩
/-- another book stays -/
theorem BookAt.keptB {x : Addr} {wts : List (List Str → Int)} {ps : List (V × V)} (h : BookAt C CQ CB H b2 x zs ch wts ps) (a : ApartB H b2 st c) (nb : b2 ≠ b) (S : Strm H st c n) (hb : H b = some (.ins CB db (bookF xb lq le))) (k : KeptB b st c H H') : BookAt C CQ CB H' b2 x zs ch wts ps := by
  obtain ⟨d2, q2, e2, a1, a2, ⟨qs, es, h1, h2, h3, h4⟩, l⟩ := h
  obtain ⟨⟨n1, n2⟩, n3, n4⟩ := a _ _ _ _ _ a1
  have f := S.far a1 (fun _ z => nomatch z)
  exact ⟨d2, q2, e2, k _ _ nb f.1 f.2 a1, a2.keptB S hb k, ⟨qs, es, k _ _ (ne_of h1 hb (fun z => nomatch z)) n1 n2 h1, k _ _ (ne_of h2 hb (fun z => nomatch z)) n3 n4 h2, h3.keptB S hb k, ends_keptB h4 S hb k⟩, l⟩
/-- a book stays while the stream goes on -/
theorem BookAt.kept {x : Addr} {wts : List (List Str → Int)} {ps : List (V × V)} (h : BookAt C CQ CB H b2 x zs ch wts ps) (a : ApartB H b2 st c) (S : Strm H st c n) (k : Kept st c H H') : BookAt C CQ CB H' b2 x zs ch wts ps := by
  obtain ⟨d2, q2, e2, a1, a2, ⟨qs, es, h1, h2, h3, h4⟩, l⟩ := h
  obtain ⟨⟨n1, n2⟩, n3, n4⟩ := a _ _ _ _ _ a1
  obtain ⟨dx, t, pd, f1, f2, f3⟩ := a2
  refine ⟨d2, q2, e2, S.hold k a1 (fun _ z => nomatch z), ⟨dx, t, pd, S.hold k f1 (fun _ z => nomatch z), S.hold k f2 (fun _ z => nomatch z), S.hold k f3 (fun _ z => nomatch z)⟩, ⟨qs, es, k _ _ n1 n2 h1, k _ _ n3 n4 h2, ⟨h3.1, fun i u wt g1 g2 => ?_⟩, ⟨h4.1, fun i u p g1 g2 => ?_⟩⟩, l⟩
  · obtain ⟨q, xq, e, d⟩ := h3.2 i u wt g1 g2
    exact ⟨q, xq, e, d.kept S k⟩
  · obtain ⟨T, e, d⟩ := h4.2 i u p g1 g2
    exact ⟨T, e, S.hold k d (fun _ z => nomatch z)⟩
theorem TuAt.kept {u : V} {t : (List Str → Int) × V × V} (h : TuAt C CQ st c zs ch H u t) (S : Strm H st c n) (k : Kept st c H H') : TuAt C CQ st c zs ch H' u t := by
  obtain ⟨T, q, x, r, e, h1, h2, h3, n1, n2⟩ := h
  exact ⟨T, q, x, r, e, S.hold k h1 (fun _ z => nomatch z), h2.kept S k, k _ _ n1 n2 h3, n1, n2⟩
theorem TuAt.same {u : V} {t : (List Str → Int) × V × V} (h : TuAt C CQ st c zs ch H u t) (e : Same H H') : TuAt C CQ st c zs ch H' u t := by
  obtain ⟨T, q, x, r, e1, h1, h2, h3, n⟩ := h
  exact ⟨T, q, x, r, e1, e _ _ h1, h2.same e, e _ _ h3, n⟩
end
/-- a book, and the list in which the law keeps its tellings -/
structure ToldAt (C CQ CB st c : Addr) (H : Hp) (b x tl : Addr) (zs : List Str) (ch : Bool) (wts : List (List Str → Int)) (ts : List ((List Str → Int) × V × V)) (us : List V) : Prop where
  book : BookAt C CQ CB H b x zs ch wts (ts.map fun t => t.2)
  apart : ApartB H b st c
  list : H tl = some (.lst us)
  n1 : tl ≠ st
  n2 : tl ≠ c
  told : Told (TuAt C CQ st c zs ch) H us ts
  al : Alike zs ch wts ts
  once : Once zs ch ts
  ends : ∀ t ∈ ts, EndOk t.2.1 t.2.2
theorem ToldAt.kept {C CQ CB st c b x tl : Addr} {H H' : Hp} {zs : List Str} {ch : Bool} {wts : List (List Str → Int)} {ts : List ((List Str → Int) × V × V)} {us : List V} {n : Nat} (h : ToldAt C CQ CB st c H b x tl zs ch wts ts us) (S : Strm H st c n) (k : Kept st c H H') : ToldAt C CQ CB st c H' b x tl zs ch wts ts us :=
  ⟨h.book.kept h.apart S k, fun CB' db' x' lq' le' hb' => by
    obtain ⟨d2, q2, e2, a1, _⟩ := h.book
    have hb := S.hold k a1 (fun _ z => nomatch z)
    rw [hb] at hb'
    injection hb' with hb'
    injection hb' with c1 c2 c3
    obtain ⟨_, rfl, rfl⟩ := bookF_inj c3
    exact h.apart _ _ _ _ _ a1, k _ _ h.n1 h.n2 h.list, h.n1, h.n2, ⟨h.told.1, fun i u t h1 h2 => (h.told.2 i u t h1 h2).kept S k⟩, h.al, h.once, h.ends⟩
theorem del_at {α : Type} {l : List α} {i : Nat} (h : i ≤ l.length) (j : Nat) : (l.take i ++ l.drop (i + 1))[j]? = if j < i then l[j]? else l[j + 1]? := by
  have ll : (l.take i).length = i := by rw [List.length_take]; omega
  by_cases c : j < i
  · rw [if_pos c, List.getElem?_append_left (by omega), List.getElem?_take, if_pos c]
  · rw [if_neg c, List.getElem?_append_right (by omega), ll, List.getElem?_drop]
    congr 1
    omega
theorem Alike.del {zs : List Str} {ch : Bool} {wts : List (List Str → Int)} {ts : List ((List Str → Int) × V × V)} {i : Nat} (h : Alike zs ch wts ts) (hi : i < ts.length) : Alike zs ch (wts.take i ++ wts.drop (i + 1)) (ts.take i ++ ts.drop (i + 1)) := by
  have l := h.len
  refine ⟨by rw [List.length_append, List.length_append, List.length_take, List.length_take, List.length_drop, List.length_drop, l], fun j w t h1 h2 => ?_⟩
  rw [del_at (by omega)] at h1 h2
  by_cases c : j < i
  · rw [if_pos c] at h1 h2
    exact h.at_ _ w t h1 h2
  · rw [if_neg c] at h1 h2
    exact h.at_ _ w t h1 h2
theorem Once.del {zs : List Str} {ch : Bool} {ts : List ((List Str → Int) × V × V)} {i : Nat} (h : Once zs ch ts) (hi : i < ts.length) : Once zs ch (ts.take i ++ ts.drop (i + 1)) := fun a b t u ab h1 h2 => by
  rw [del_at (by omega)] at h1 h2
  by_cases c1 : a < i <;> by_cases c2 : b < i
  · rw [if_pos c1] at h1
    rw [if_pos c2] at h2
    exact h a b t u ab h1 h2
  · rw [if_pos c1] at h1
    rw [if_neg c2] at h2
    exact h a (b + 1) t u (by omega) h1 h2
  · omega
  · rw [if_neg c1] at h1
    rw [if_neg c2] at h2
    exact h (a + 1) (b + 1) t u (by omega) h1 h2
theorem Strm.offB {H H' : Hp} {st c b : Addr} {n : Nat} {u : HO} (S : Strm H st c n) (hb : H b = some u) (hu : ∀ l, u ≠ .lst l) (e : OffB b H H') : Strm H' st c n := by
  obtain ⟨n1, n2⟩ := S.far hb hu
  obtain ⟨ne, cells, a, k, m, h1, h2, h3⟩ := S
  exact ⟨ne, cells, a, k, m, e _ _ n2.symm h1, e _ _ n1.symm h2, h3⟩
theorem BookAt.upA {C CQ CB b x a : Addr} {H : Hp} {zs : List Str} {ch : Bool} {wts : List (List Str → Int)} {ps : List (V × V)} {xs ys : List V} (h : BookAt C CQ CB H b x zs ch wts ps) (ha : H a = some (.lst xs)) (n : ∀ CB db x lq le, H b = some (.ins CB db (bookF x lq le)) → lq ≠ a ∧ le ≠ a) : BookAt C CQ CB (upd H a (.lst ys)) b x zs ch wts ps := by
  obtain ⟨d2, q2, e2, a1, a2, ⟨qs, es, h1, h2, h3, h4⟩, l⟩ := h
  obtain ⟨n1, n2⟩ := n _ _ _ _ _ a1
  refine ⟨d2, q2, e2, by rw [upd_ne (ne_of a1 ha (fun z => nomatch z))]; exact a1, a2.updL ha, ⟨qs, es, by rw [upd_ne n1]; exact h1, by rw [upd_ne n2]; exact h2, ⟨h3.1, fun i u wt g1 g2 => ?_⟩, h4.up stays_end ha⟩, l⟩
  obtain ⟨q, xq, e, d⟩ := h3.2 i u wt g1 g2
  exact ⟨q, xq, e, d.upLs ha⟩
/-- the lists of a book that was written are not a's, a list that is new since before -/
theorem NewL.away {H3 H4 H5 : Hp} {b a CB db x lq le : Addr} {xs qs es : List V} (nw : NewL H4 H5 b) (h4 : H4 a = some (.lst xs)) (h3 : H3 a = none) (hb : H4 b = some (.ins CB db (bookF x lq le))) (hq : H3 lq = some (.lst qs)) (he : H3 le = some (.lst es)) : ∀ CB' db' x' lq' le', H5 b = some (.ins CB' db' (bookF x' lq' le')) → lq' ≠ a ∧ le' ≠ a := fun CB' db' x' lq' le' h => by
  obtain ⟨n1, n2⟩ := nw _ _ _ _ _ h
  refine ⟨?_, ?_⟩
  · rcases n1 with n1 | ⟨d, x2, l, n1⟩
    · exact (ne_of_none h4 n1).symm
    · rw [hb] at n1
      injection n1 with n1
      injection n1 with c1 c2 c3
      obtain ⟨_, rfl, _⟩ := bookF_inj c3
      exact ne_of_none hq h3
  · rcases n2 with n2 | ⟨d, x2, l, n2⟩
    · exact (ne_of_none h4 n2).symm
    · rw [hb] at n2
      injection n2 with n2
      injection n2 with c1 c2 c3
      obtain ⟨_, _, rfl⟩ := bookF_inj c3
      exact ne_of_none he h3
theorem Alike.snoc {zs : List Str} {ch : Bool} {wts : List (List Str → Int)} {ts : List ((List Str → Int) × V × V)} {w : List Str → Int} {t : (List Str → Int) × V × V} (h : Alike zs ch wts ts) (e : ∀ l ∈ lotsFor ch zs, w l = t.1 l) : Alike zs ch (wts ++ [w]) (ts ++ [t]) := by
  have l := h.len
  refine ⟨by rw [List.length_append, List.length_append, l]; rfl, fun i w' t' h1 h2 => ?_⟩
  by_cases c : i < ts.length
  · rw [List.getElem?_append_left (by omega)] at h1
    rw [List.getElem?_append_left c] at h2
    exact h.at_ i _ _ h1 h2
  · rw [List.getElem?_append_right (by omega)] at h1
    rw [List.getElem?_append_right (by omega), ← l] at h2
    have z := (List.getElem?_eq_some_iff.mp h1).1
    have z : i - wts.length = 0 := by
      have z : i - wts.length < 1 := z
      omega
    rw [z] at h1 h2
    cases h1
    cases h2
    exact e
theorem Once.snoc {zs : List Str} {ch : Bool} {ts : List ((List Str → Int) × V × V)} {u : (List Str → Int) × V × V} (h : Once zs ch ts) (n : ∀ (j : Nat) (t : (List Str → Int) × V × V), ts[j]? = some t → ∃ l ∈ lotsFor ch zs, t.1 l ≠ u.1 l) : Once zs ch (ts ++ [u]) := fun i j t t' ij h1 h2 => by
  have lj := (List.getElem?_eq_some_iff.mp h2).1
  rw [List.length_append] at lj
  have lj : j < ts.length + 1 := lj
  rw [List.getElem?_append_left (by omega)] at h1
  by_cases c : j < ts.length
  · rw [List.getElem?_append_left c] at h2
    exact h i j t t' ij h1 h2
  · rw [List.getElem?_append_right (by omega), show j - ts.length = 0 from by omega] at h2
    cases h2
    exact n i t h1
theorem setL_at {α : Type} {l : List α} {i : Nat} {x : α} (h : i < l.length) (j : Nat) : (l.take i ++ [x] ++ l.drop (i + 1))[j]? = if j = i then some x else l[j]? := by
  have ll : (l.take i).length = i := by rw [List.length_take]; omega
  have l2 : (l.take i ++ [x]).length = i + 1 := by rw [List.length_append, ll]; rfl
  by_cases c : j < i
  · rw [if_neg (by omega), List.getElem?_append_left (by omega), List.getElem?_append_left (by omega), List.getElem?_take, if_pos c]
  · by_cases c2 : j = i
    · subst c2
      rw [if_pos rfl, List.getElem?_append_left (by omega), List.getElem?_append_right (by omega), ll, Nat.sub_self]
      rfl
    · rw [if_neg c2, List.getElem?_append_right (by omega), l2, List.getElem?_drop]
      congr 1
      omega
theorem inV_nats (j : Nat) : ∀ ns : List Nat, inV (.int ((j : Nat) : Int)) (ns.map fun i => V.int ((i : Nat) : Int)) = decide (j ∈ ns)
  | [] => rfl
  | n :: r => by
    have ih := inV_nats j r
    unfold inV at ih ⊢
    rw [List.map_cons, List.any_cons, ih]
    have ev : eqV (V.int (n : Int)) (V.int (j : Int)) = decide (n = j) := by
      show decide ((n : Int) = (j : Int)) = decide (n = j)
      exact decide_eq_decide.mpr Int.ofNat_inj
    rw [ev]
    by_cases e : n = j
    · subst e
      simp
    · have e2 : ¬ j = n := fun q => e q.symm
      rw [decide_eq_false e, Bool.false_or]
      simp [e2]
end Bk

namespace Bk
open PySem PySem.Spec PyProof.Rows L2
theorem merge_zipL {ls : List (List Str)} (f : List Str → Int) (nd : ls.Nodup) : mergeT [] ((ls.map fun l => (l.map Sum.inr : List Key)).zip (ls.map fun l => V.int (f l))) = tabV (tabL ls f) := by
  have e : (ls.map fun l => (l.map Sum.inr : List Key)).zip (ls.map fun l => V.int (f l)) = tabV (tabL ls f) := by
    rw [List.zip_map']
    unfold tabV tabL
    rw [List.map_map]
    rfl
  rw [e]
  exact merge_lots f ls [] nd
theorem ats_refs {H : Hp} : ∀ {ls : List (List Str)} {ws : List V}, Ats H (fun l : List Str => l.map V.str) ws ls → ∃ ps : List Addr, ws = ps.map V.ref ∧ Paired (fun p k => H p = some (.tup (k.map kV))) ps (ls.map fun l => (l.map Sum.inr : List Key))
  | [], [], _ => ⟨[], rfl, .nil⟩
  | [], _ :: _, t => by cases t.1
  | _ :: _, [], t => by cases t.1
  | l :: r, u :: us, t => by
    obtain ⟨b, rfl, h1⟩ := t.2 0 u l rfl rfl
    obtain ⟨ps, rfl, hp⟩ := ats_refs (ls := r) (ws := us) ⟨Nat.succ.inj t.1, fun k u l a b => t.2 (k + 1) u l a b⟩
    exact ⟨b :: ps, rfl, .cons (by rw [str_key]; exact h1) hp⟩
theorem eqv_intsL : ∀ a b : List Int, PyData.eqvAll (a.map PyData.int) (b.map PyData.int) = decide (a = b)
  | [], [] => by simp [PyData.eqvAll]
  | [], _ :: _ => by simp [PyData.eqvAll]
  | _ :: _, [] => by simp [PyData.eqvAll]
  | x :: r, y :: t => by
    have ih := eqv_intsL r t
    simp only [List.map_cons, PyData.eqvAll, PyData.eqv, ih]
    by_cases h1 : x = y
    · subst h1
      by_cases h2 : r = t
      · subst h2
        simp
      · simp [h2]
    · simp [h1]
theorem eqv_rows (a b : List Int) : PyData.eqv (.list (a.map PyData.int)) (.list (b.map PyData.int)) = decide (a = b) := by
  simp [PyData.eqv, eqv_intsL]
theorem same_rows {ch : Bool} {zs : List Str} (nz : zs.Nodup) (f g : List Str → Int) : sameT (tableOf ch zs f) (tableOf ch zs g) = decide ((lotsFor ch zs).map f = (lotsFor ch zs).map g) := by
  by_cases h : ∀ l ∈ lotsFor ch zs, f l = g l
  · rw [sameT_eq h, decide_eq_true (List.map_congr_left h)]
  · have h1 : sameT (tableOf ch zs f) (tableOf ch zs g) = false := by
      cases e : sameT (tableOf ch zs f) (tableOf ch zs g) with
      | false => rfl
      | true => exact absurd (sameT_ne nz e) h
    rw [h1, decide_eq_false]
    intro e
    exact h fun l m => List.map_inj_left.mp e l m
theorem five_val (j : Nat) (h : j < 5) : ∃ v : Int, [V.int 0, .int 3, .int (-7), .int 40, .int (10 ^ (11 : Int).toNat)].getD j .non = .int v ∧ v.natAbs < 2 ^ 60 := by
  match j, h with
  | 0, _ => exact ⟨0, rfl, by decide⟩
  | 1, _ => exact ⟨3, rfl, by decide⟩
  | 2, _ => exact ⟨-7, rfl, by decide⟩
  | 3, _ => exact ⟨40, rfl, by decide⟩
  | 4, _ => exact ⟨10 ^ (11 : Int).toNat, rfl, by decide⟩
  | j + 5, h => omega
theorem told_v {C CQ st c : Addr} {zs : List Str} {ch : Bool} {H : Hp} {us : List V} {ts : List ((List Str → Int) × V × V)} (h : Told (TuAt C CQ st c zs ch) H us ts) : Told (TvAt C CQ zs ch) H us ts := ⟨h.1, fun i u t h1 h2 => let ⟨T, q, x, r, a, b, d, e, _, _⟩ := h.2 i u t h1 h2; ⟨T, q, x, r, a, b, d, e⟩⟩
/-- _law_deed(stream, book, told, house, names, lots) -/
def spDeedB (C CQ CB : Addr) : Sp := fun vs H Q _ => ∃ (st c b tl x xb nl D : Addr) (n : Nat) (zs : List Str) (ch : Bool) (ws : List V) (wts : List (List Str → Int)) (ts : List ((List Str → Int) × V × V)) (us : List V), vs = [.ref st, .ref b, .ref tl, .ref x, .ref nl, .ref D] ∧ HouseAt C H st c nl x D zs ch ws ∧ Strm H st c n ∧ n ≤ 590000 ∧
  ToldAt C CQ CB st c H b xb tl zs ch wts ts us ∧ ts.length ≤ 50 ∧
  ∀ tl' wts' ts' us' H', ToldAt C CQ CB st c H' b xb tl' zs ch wts' ts' us' → ts'.length ≤ ts.length + 1 → Strm H' st c (n + 2200) → KeptB b st c H H' → Q (.ref tl') H'
section
variable {P : Program} {w : World} {K : PySem.W.Frag} {mg : Str → Option Value} {base : Heap}
theorem scDeedB : FnScope ["_law_stream", "_law_book", "_law_told", "_law_house", "_law_names_here", "_law_lots", "_law_at", "_law_question", "_law_row", "_law_low", "_law_high", "_law_handed", "_law_places", "_law_one"] ["_law_stream", "_law_book", "_law_told", "_law_house", "_law_names_here", "_law_lots"] (defScope (topS 98)) := ⟨rfl, rfl, rfl, by decide +kernel, rfl, by decide +kernel, by decide +kernel⟩
theorem ok_deedB (B : Bi mg) {C CQ CB fQ fB fD fS f f1 f2 f3 f4 : Addr} {fdQ fdD fdS fd fd1 fd2 fd3 fd4 : FuncData} (TQ : QueT K mg CQ fQ) (TB : BooT K mg CB fB) (GQ : FnOk P w K mg base CX0 4 fQ fdQ ["self", "folders", "weights"] (spQuest K C CQ)) (bQ : Binds K fdQ ["self", "folders", "weights"] [])
    (GD : FnOk P w K mg base CX0 4 fD fdD ["self", "question"] (spBDrop C CQ CB)) (bD : Binds K fdD ["self", "question"] []) (mD : Meth K CB "drop" fD) (GS : FnOk P w K mg base CX0 4 fS fdS ["self", "at", "worth"] (spBSet K C CQ CB)) (bS : Binds K fdS ["self", "at", "worth"] []) (mS : Own K CB "__setitem__" fS) (nS : PySem.W.noSeq K CB = true)
    (c__law_draw : Cal P w K mg base CX0 1 "_law_draw" f1 fd1 ["_law_stream", "_law_many"] spDraw) (c__law_pick : Cal P w K mg base CX0 2 "_law_pick" f2 fd2 ["_law_stream", "_law_some"] (spPick K)) (c__law_q_drawn : Cal P w K mg base CX0 10 "_law_q_drawn" f3 fd3 ["_law_stream", "_law_house", "_law_names_here", "_law_lots"] (spAsked K C CQ)) (c__law_k_ends : Cal P w K mg base CX0 3 "_law_k_ends" f4 fd4 ["_law_stream", "_law_value"] spKEnds)
    (F : Fun K "_law_deed" "_law_deed" (topS 98) f fd) : FnOk P w K mg base CX0 11 f fd ["_law_stream", "_law_book", "_law_told", "_law_house", "_law_names_here", "_law_lots"] (spDeedB C CQ CB) := by
  refine F.ok scDeedB (fun vs H Q E h => ?_) (fun cdv A outer s H vs Q E hr h => ?_)
  · obtain ⟨st, c, b, tl, x, xb, nl, D, n, zs, ch, ws, wts, ts, us, rfl, _⟩ := h
    rfl
  · obtain ⟨st, c, b, tl, x, xb, nl, D, n, zs, ch, ws, wts, ts, us, rfl, HA, S, hn, TA, few, qq⟩ := h
    have nd := scDeedB.nd
    have hu := hu_of hr
    have hr__law_q_drawn := hr
    have hrQ : Room 5 _ := hr.mono (by decide)
    have hrS : Room 4 _ := hr.mono (by decide)
    have hrD := hrS
    have hr__law_k_ends : Room 3 _ := hr.mono (by decide)
    have hr__law_pick : Room 2 _ := hr.mono (by decide)
    have hr__law_draw : Room 1 _ := hr.mono (by decide)
    refine ⟨_, (Evl.pss_cut (ps_if (PW.pt (pw_and (pt_cmpR (kNeMt K hr.units) (pv 2) (pe_lst pa_nil) (nomark _)) (pw_and1 (pt_cmpR op_eq (pe_call c__law_draw.ok hr__law_draw (by rfl) c__law_draw.g c__law_draw.kp c__law_draw.b .nil pass0 (pa_cons (pv 0) (pa_cons pe_int pa_nil))) pe_int (nomark _))))) (Evl.pss_cut (ps_set (i := 6) nd rfl (Or.inl rfl) (pe_call c__law_draw.ok hr__law_draw (by rfl) c__law_draw.g c__law_draw.kp c__law_draw.b .nil pass0 (pa_cons (pv 0) (pa_cons (pe_callB (kLen K) (by rfl) B.len PySem.boot_len (pa_cons (pv 2) pa_nil)) pa_nil))))
      (pss_cons (ps_if (pt_cmpR op_notN (pe_meth (pv 1) TB.cl mD GD hrD bD .nil pass0 (pa_cons (pe_ix (kIxT K) (pe_ix (kIxL K) (pv 2) (pv 6) (fun _ _ => rfl)) pe_int (fun _ _ => rfl)) pa_nil)) pe_non (nomark _)) (pss_one (ps_ret pe_non)) pss_nil)
      (pss_one (ps_ret (pe_op op_cat (pe_slice (kSlL K) (pv 2) po_none (po_some (pv 6))) (pe_slice (kSlL K) (pv 2) (po_some (pe_op op_add (pv 6) pe_int)) po_none)))))) pss_nil)
      (Evl.pss_cut (ps_asg (pe_call c__law_q_drawn.ok hr__law_q_drawn (by rfl) c__law_q_drawn.g c__law_q_drawn.kp c__law_q_drawn.b .nil pass0 (pa_cons (pv 0) (pa_cons (pv 3) (pa_cons (pv 4) (pa_cons (pv 5) pa_nil))))) (kTg K 2 rfl (pgs_cons (pg_name (i := 7) nd rfl (Or.inr rfl)) (pgs_cons (pg_name (i := 8) nd rfl (Or.inr rfl)) pgs_nil))))
      (Evl.pss_cut (ps_if (PW.pt (pw_and (pt_cmpR (kNeMt K hr.units) (pv 2) (pe_lst pa_nil) (nomark _)) (pw_and1 (pt_cmpR op_eq (pe_call c__law_draw.ok hr__law_draw (by rfl) c__law_draw.g c__law_draw.kp c__law_draw.b .nil pass0 (pa_cons (pv 0) (pa_cons pe_int pa_nil))) pe_int (nomark _))))) (Evl.pss_cut (ps_set (i := 8) nd rfl (Or.inr rfl) (pe_ix (kIx K) (pe_call c__law_pick.ok hr__law_pick (by rfl) c__law_pick.g c__law_pick.kp c__law_pick.b .nil pass0 (pa_cons (pv 0) (pa_cons (pv 2) pa_nil))) pe_int (fun _ _ => rfl)))
      (pss_one (ps_set (i := 7) nd rfl (Or.inr rfl) (pe_make TQ.make GQ hrQ (by rfl) TQ.g bQ .nil pass0 (pa_cons (pv 3) (pa_cons (pe_dictZip (by rfl) B.dict (by rfl) B.zip (pa_cons (pv 5) (pa_cons (pv 8) pa_nil)) rfl hr.units) pa_nil)))))) pss_nil)
      (Evl.pss_cut (ps_asg (pe_call c__law_k_ends.ok hr__law_k_ends (by rfl) c__law_k_ends.g c__law_k_ends.kp c__law_k_ends.b .nil pass0 (pa_cons (pv 0) (pa_cons (pe_call c__law_pick.ok hr__law_pick (by rfl) c__law_pick.g c__law_pick.kp c__law_pick.b .nil pass0 (pa_cons (pv 0) (pa_cons (pe_lst (pa_cons pe_int (pa_cons pe_int (pa_cons (pe_un un_neg pe_int) (pa_cons pe_int (pa_cons (pe_op op_pow pe_int pe_int) pa_nil)))))) pa_nil))) pa_nil))) (kTg K 3 rfl (pgs_cons (pg_name (i := 9) nd rfl (Or.inr rfl)) (pgs_cons (pg_name (i := 10) nd rfl (Or.inr rfl)) (pgs_cons (pg_name (i := 11) nd rfl (Or.inl rfl)) pgs_nil)))))
      (Evl.pss_cut (ps_asg (pv 11) (pg_sub (pv 1) (pv 7) (set_own GS bS pass0 hrS mS nS)))
      (Evl.pss_cut (ps_if (pt_val (pe_callB (kIsi K) (by rfl) B.isinstance (by decide +kernel) (pa_cons (pv 11) (pa_cons (pe_bltn (v := .ty "list") (by rfl) B.list (by decide +kernel) rfl) pa_nil)))) (pss_one (ps_asg pe_int (pg_sub (pv 11) pe_int set_list))) pss_nil)
      (Evl.pss_cut (ps_set (i := 12) nd rfl (Or.inr rfl) (pe_lc (own := [("_law_at", 6), ("_law_one", 13)]) rfl nd (kPiE K (by rfl) B.enumerate (pa_cons (pv 2) pa_nil)) (blkOk_by (N := ["_law_stream", "_law_book", "_law_told", "_law_house", "_law_names_here", "_law_lots", "_law_at", "_law_question", "_law_row", "_law_low", "_law_high", "_law_handed", "_law_places", "_law_one"]) (sc := defScope (topS 98)) (by decide +kernel)) (fun _ _ _ _ _ => (kTg K 2 rfl (pgs_cons (pg_name (i := 6) nd rfl (Or.inl rfl)) (pgs_cons (pg_name (i := 13) nd rfl (Or.inl rfl)) pgs_nil)))) (fun _ _ _ _ _ => (pts_one (pt_cmpR (kEqD K hr.units) (pe_ix (kIxT K) (pv 13) pe_int (fun _ _ => rfl)) (pv 8) (nomark _)))) (fun _ _ _ _ _ => (pv 6))))
      (Evl.pss_cut (ps_if (pt_cmpR (kEqD K hr.units) (pv 12) (pe_lst pa_nil) (nomark _)) (pss_one (ps_ret (pe_op op_cat (pv 2) (pe_lst (pa_cons (pe_tup (pa_cons (pv 7) (pa_cons (pv 8) (pa_cons (pv 9) (pa_cons (pv 10) pa_nil))))) pa_nil))))) pss_nil)
      (pss_one (ps_ret (pe_lc (own := [("_law_at", 6), ("_law_one", 13)]) rfl nd (kPiE K (by rfl) B.enumerate (pa_cons (pv 2) pa_nil)) (blkOk_by (N := ["_law_stream", "_law_book", "_law_told", "_law_house", "_law_names_here", "_law_lots", "_law_at", "_law_question", "_law_row", "_law_low", "_law_high", "_law_handed", "_law_places", "_law_one"]) (sc := defScope (topS 98)) (by decide +kernel)) (fun _ _ _ _ _ => (kTg K 2 rfl (pgs_cons (pg_name (i := 6) nd rfl (Or.inl rfl)) (pgs_cons (pg_name (i := 13) nd rfl (Or.inl rfl)) pgs_nil)))) (fun _ _ _ _ _ => pts_nil) (fun _ _ _ _ _ => (pe_ifExp (pt_cmpR (kIn K) (pv 6) (pv 12) rfl) (pe_tup (pa_cons (pv 7) (pa_cons (pv 8) (pa_cons (pv 9) (pa_cons (pv 10) pa_nil))))) (pv 13)))))))))))))), ?_⟩
    have lu := TA.told.1
    have ndz := HA.nd
    have nm := HA.ok
    -- a telling is dropped
    refine ⟨fun σ H1 => ∃ v6, σ = [some (.ref st), some (.ref b), some (.ref tl), some (.ref x), some (.ref nl), some (.ref D), v6, none, none, none, none, none, none, none] ∧ Strm H1 st c (n + 1) ∧ Kept st c H H1, ?_, ?_⟩
    · refine ⟨_, rfl, Nat.zero_le _, fun p0 np0 => ?_⟩
      have e0 := same_upd (o := HO.lst []) np0
      refine ⟨tl, p0, us, rfl, rfl, SqL.of (e0 _ _ TA.list), SqL.of upd_same, _, rfl, ?_⟩
      cases hz : (!us.isEmpty) with
      | false =>
        refine iteF ?_
        refine iteF ?_
        exact ⟨_, rfl, (S.same e0).more (by omega), Same.kept e0⟩
      | true =>
        refine iteT ?_
        have l0 : 0 < us.length := by
          cases us with
          | nil => cases hz
          | cons a r => exact Nat.succ_pos _
        refine ⟨_, rfl, st, c, n, 4, rfl, S.same e0, by omega, by decide, by decide, fun d H1 d0 d4 S1 k1 => ?_⟩
        have k01 := (Same.kept e0).trans k1
        refine ⟨rfl, _, rfl, ?_⟩
        refine ite2 (fun _ => ?_) (fun _ => ⟨_, rfl, S1, k01⟩)
        refine ⟨fun σ H2 => ∃ i : Nat, i < us.length ∧ σ = [some (.ref st), some (.ref b), some (.ref tl), some (.ref x), some (.ref nl), some (.ref D), some (.int (i : Int)), none, none, none, none, none, none, none] ∧ Strm H2 st c (n + 2) ∧ Kept st c H H2, ?_, ?_⟩
        · have TA1 := TA.kept S k01
          refine ⟨_, rfl, _, rfl, .ref tl, us.length, rfl, .inl ⟨us, SqL.of TA1.list, rfl⟩, st, c, n + 1, us.length, rfl, S1, by omega, by omega, by omega, fun e H2 d1 d5 S2 k2 => ?_⟩
          exact ⟨e.toNat, by omega, by rw [show e = ((e.toNat : Nat) : Int) from by omega]; rfl, S2, k01.trans k2⟩
        rintro σ H2 ⟨i, hi, rfl, S2, k2⟩
        have TA2 := TA.kept S k2
        obtain ⟨db, lq, le, hb2, _⟩ := id TA2.book
        have hti : ts[i]? = some (ts[i]'(by omega)) := List.getElem?_eq_getElem _
        have hui : us[i]? = some (us[i]) := List.getElem?_eq_getElem hi
        obtain ⟨T, q, xq, r, eT, hT, QA, hr2, _⟩ := TA2.told.2 i _ _ hui hti
        rw [eT] at hui
        have lw := TA2.al.len
        refine ⟨_, rfl, b, db, _, rfl, hb2, look_drop _ _ _, _, rfl, _, rfl, tl, us, (i : Int), .ref T, rfl, rfl, SqL.of TA2.list, atI_nat hui, T, _, 0, .ref q, rfl, rfl, SqT.of hT, rfl, b, xb, q, xq, zs, ch, wts, _, _, i, rfl, TA2.book, QA, nm, place_told ndz TA2.al TA2.once hti, by omega, fun H3 BK o nw => ⟨rfl, _, rfl, ?_⟩⟩
        refine iteF ?_
        have S3 := S2.offB hb2 (fun _ z => nomatch z) o
        have kb := (KeptB.of k2).trans (KeptB.off (st := st) (c := c) o)
        have ntl : tl ≠ b := ne_of TA2.list hb2 (fun z => nomatch z)
        have hU3 := o _ _ ntl TA2.list
        have TU3 := told_keptB TA2.told S2 hb2 (KeptB.off o)
        refine ⟨_, rfl, _, rfl, _, rfl, tl, us, rfl, SqL.of hU3, fun p1 np1 => ?_⟩
        rw [cut_upto]
        have e1 := same_upd (o := HO.lst (us.take i)) np1
        have hp1 : upd H3 p1 (.lst (us.take i)) p1 = some (.lst (us.take i)) := upd_same
        generalize upd H3 p1 (.lst (us.take i)) = G1 at e1 hp1 ⊢
        refine ⟨_, rfl, _, rfl, (i : Int), 1, rfl, rfl, _, rfl, tl, us, rfl, SqL.of (e1 _ _ hU3), fun p2 np2 => ?_⟩
        rw [show ((i : Int) + 1) = ((i + 1 : Nat) : Int) from rfl, cut_from]
        have e2 := Same.trans e1 (same_upd (o := HO.lst (us.drop (i + 1))) np2)
        have hp12 : upd G1 p2 (.lst (us.drop (i + 1))) p1 = some (.lst (us.take i)) := (same_upd np2) _ _ hp1
        have hp22 : upd G1 p2 (.lst (us.drop (i + 1))) p2 = some (.lst (us.drop (i + 1))) := upd_same
        generalize upd G1 p2 (.lst (us.drop (i + 1))) = G2 at e2 hp12 hp22 ⊢
        have l1 : (us.take i).length ≤ us.length := by rw [List.length_take]; omega
        have l2 : (us.drop (i + 1)).length ≤ us.length := by rw [List.length_drop]; omega
        refine ⟨p1, p2, _, _, rfl, rfl, hp12, hp22, by rw [sizeLine_eq]; omega, fun L nL => ?_⟩
        have e3 := Same.trans e2 (same_upd (o := HO.lst (us.take i ++ us.drop (i + 1))) nL)
        have nL2 := (S3.same e2).notfree nL
        refine qq L _ (ts.take i ++ ts.drop (i + 1)) _ _ ⟨?_, ?_, upd_same, nL2.1, nL2.2, ?_, TA2.al.del (by omega), TA2.once.del (by omega), fun t m => ?_⟩ ?_ ((S3.same e3).more (by omega)) (kb.trans (KeptB.same e3))
        · rw [List.map_append, List.map_take, List.map_drop]
          exact BK.same e3
        · have ap := ApartB.new S2 TA2.apart nw
          obtain ⟨d3, q3, l3, b3, _⟩ := id BK
          intro CB' db' x' lq' le' hb'
          rw [e3 _ _ b3] at hb'
          injection hb' with hb'
          injection hb' with c1 c2 c3
          obtain ⟨_, rfl, rfl⟩ := bookF_inj c3
          exact ap _ _ _ _ _ b3
        · have TU4 : Told (TuAt C CQ st c zs ch) _ us ts := ⟨TU3.1, fun j u t h1 h2 => (TU3.2 j u t h1 h2).same e3⟩
          exact (TU4.take i).app (TU4.drop (i + 1))
        · rcases List.mem_append.mp m with m | m
          · exact TA2.ends t (List.mem_of_mem_take m)
          · exact TA2.ends t (List.mem_of_mem_drop m)
        · rw [List.length_append, List.length_take, List.length_drop]
          omega
    rintro σ H1 ⟨v6, rfl, S1, k1⟩
    have HA1 := HA.kept S k1
    have TA1 := TA.kept S k1
    -- a question
    refine ⟨fun σ H2 => ∃ (q xq r : Addr) (f : List Str → Int), σ = [some (.ref st), some (.ref b), some (.ref tl), some (.ref x), some (.ref nl), some (.ref D), v6, some (.ref q), some (.ref r), none, none, none, none, none] ∧ QuestAt C CQ H2 q xq zs ch f ∧ H2 r = some (.lst ((lotsFor ch zs).map fun l => V.int (f l))) ∧ r ≠ st ∧ r ≠ c ∧ Strm H2 st c (n + 2101) ∧ Kept st c H H2, ?_, ?_⟩
    · refine ⟨_, rfl, _, rfl, _, rfl, _, rfl, st, c, x, nl, D, n + 1, zs, ch, ws, rfl, HA1, S1, by omega, fun p q r f H2 np nq nr hp QA hr2 bf S2 k2 => ?_⟩
      obtain ⟨r1, r2⟩ := S1.notfree nr
      exact ⟨p, _, rfl, SqT.of hp, rfl, _, _, rfl, _, _, rfl, rfl, q, x, r, f, rfl, QA, hr2, r1, r2, S2, k1.trans k2⟩
    rintro σ H2 ⟨q, xq, r, f, rfl, QA, hr2, r1, r2, S2, k2⟩
    have TA2 := TA.kept S k2
    have HA2 := HA.kept S k2
    refine ⟨fun σ H3 => ∃ (q xq r : Addr) (f : List Str → Int), σ = [some (.ref st), some (.ref b), some (.ref tl), some (.ref x), some (.ref nl), some (.ref D), v6, some (.ref q), some (.ref r), none, none, none, none, none] ∧ QuestAt C CQ H3 q xq zs ch f ∧ H3 r = some (.lst ((lotsFor ch zs).map fun l => V.int (f l))) ∧ r ≠ st ∧ r ≠ c ∧ Strm H3 st c (n + 2103) ∧ Kept st c H H3, ?_, ?_⟩
    · refine ⟨_, rfl, Nat.zero_le _, fun p0 np0 => ?_⟩
      have e0 := same_upd (o := HO.lst []) np0
      refine ⟨tl, p0, us, rfl, rfl, SqL.of (e0 _ _ TA2.list), SqL.of upd_same, _, rfl, ?_⟩
      cases hz : (!us.isEmpty) with
      | false =>
        refine iteF ?_
        refine iteF ?_
        exact ⟨q, xq, r, f, rfl, QA.same e0, e0 _ _ hr2, r1, r2, (S2.same e0).more (by omega), k2.trans (Same.kept e0)⟩
      | true =>
        refine iteT ?_
        have l0 : 0 < us.length := by
          cases us with
          | nil => cases hz
          | cons a r => exact Nat.succ_pos _
        refine ⟨_, rfl, st, c, n + 2101, 3, rfl, S2.same e0, by omega, by decide, by decide, fun d H3 d0 d4 S3 k3 => ?_⟩
        have k03 := (Same.kept e0).trans k3
        have k3' := k2.trans k03
        refine ⟨rfl, _, rfl, ?_⟩
        refine ite2 (fun _ => ?_) (fun _ => ⟨q, xq, r, f, rfl, QA.kept S2 k03, k03 _ _ r1 r2 hr2, r1, r2, S3.more (by omega), k3'⟩)
        have TA3 := TA.kept S k3'
        refine ⟨fun σ H4 => ∃ (r : Addr) (f : List Str → Int), σ = [some (.ref st), some (.ref b), some (.ref tl), some (.ref x), some (.ref nl), some (.ref D), v6, some (.ref q), some (.ref r), none, none, none, none, none] ∧ H4 r = some (.lst ((lotsFor ch zs).map fun l => V.int (f l))) ∧ r ≠ st ∧ r ≠ c ∧ Strm H4 st c (n + 2103) ∧ Kept st c H H4, ?_, ?_⟩
        · refine ⟨_, rfl, _, rfl, st, c, n + 2102, _, .ref tl, _, rfl, S3, by omega, l0, by omega, pk_lst (SqL.of TA3.list) TA3.n1 TA3.n2, fun j H4 hj S4 k4 => ?_⟩
          have TA4 := TA3.kept S3 k4
          have htj : ts[j]? = some (ts[j]'(by omega)) := List.getElem?_eq_getElem _
          have huj : us[j]? = some (us[j]) := List.getElem?_eq_getElem hj
          obtain ⟨T, q2, x2, rj, eT, hT, _, hrj, rj1, rj2⟩ := TA4.told.2 j _ _ huj htj
          have ed : us.getD j .non = .ref T := by rw [List.getD_eq_getElem?_getD, huj, eT]; rfl
          exact .inr (.inl ⟨T, _, 1, .ref rj, ed, rfl, SqT.of hT, rfl, rj, _, rfl, hrj, rj1, rj2, S4, k3'.trans k4⟩)
        rintro σ H4 ⟨rj, fj, rfl, hrj, rj1, rj2, S4, k4⟩
        have HA4 := HA.kept S k4
        obtain ⟨pl, ews, hpl⟩ := ats_refs HA4.at_
        refine ⟨_, rfl, _, rfl, _, rfl, D, rj, pl, _, _, rfl, SqL.of (by rw [← ews]; exact HA4.ld), SqL.of hrj, hpl, by rw [List.length_map, List.length_map], fun p np => ?_⟩
        rw [merge_zipL fj (lots_nodup ndz)]
        have e7 := same_upd (o := HO.dT (tabV (tabL (lotsFor ch zs) fj))) np
        have hb : upd H4 p (.dT (tabV (tabL (lotsFor ch zs) fj))) p = some (.dT (tabV (tabL (lotsFor ch zs) fj))) := upd_same
        generalize upd H4 p (.dT (tabV (tabL (lotsFor ch zs) fj))) = H7 at e7 hb ⊢
        refine make_quest (wt := fj) (HA4.fo.same e7) ndz HA.le hb (far_new HA4.fo np e7) (fun l m => m) (lots_nodup ndz) (fun l m => by rw [if_pos m]) fun y H8 ny e8 QY => ?_
        have e78 := Same.trans e7 e8
        exact ⟨y, x, rj, fj, rfl, QY, e78 _ _ hrj, rj1, rj2, S4.same e78, k4.trans (Same.kept e78)⟩
    rintro σ H3 ⟨q, xq, r, f, rfl, QA, hr3, r1, r2, S3, k3⟩
    have TA3 := TA.kept S k3
    -- its ends
    refine ⟨fun σ H4 => ∃ lo hi hv, σ = [some (.ref st), some (.ref b), some (.ref tl), some (.ref x), some (.ref nl), some (.ref D), v6, some (.ref q), some (.ref r), some lo, some hi, some hv, none, none] ∧ HandAt H3 H4 hv lo hi ∧ Strm H4 st c (n + 2108) ∧ Kept st c H3 H4, ?_, ?_⟩
    · refine ⟨_, rfl, _, rfl, 7, rfl, 10, 11, rfl, rfl, by first | decide | exact ⟨by decide, by decide⟩ | (unfold CPow; decide), by show 5 ≤ sizeLine; decide, fun p np => ?_⟩
      have ep := same_upd (o := HO.lst [V.int 0, .int 3, .int (-7), .int 40, .int (10 ^ (11 : Int).toNat)]) np
      obtain ⟨p1, p2⟩ := S3.notfree np
      refine ⟨st, c, n + 2103, _, .ref p, _, rfl, S3.same ep, by omega, by show 0 < 5; decide, by show 5 < 1000000; decide, pk_lst (SqL.of upd_same) p1 p2, fun j H4 hj S4 k4 => ?_⟩
      obtain ⟨v, ev, v60⟩ := five_val j hj
      have k34 := (Same.kept ep).trans k4
      refine ⟨st, c, n + 2104, v, by rw [ev]; rfl, S4, by omega, v60, fun T lo hi hv H5 S5 k5 hT ha => ?_⟩
      refine ⟨T, _, rfl, SqT.of hT, rfl, _, _, rfl, _, _, rfl, _, _, rfl, rfl, lo, hi, hv, rfl, ?_, S5, k34.trans k5⟩
      rcases ha with ha | ⟨a, e, eo, ha⟩
      · exact .inl ha
      · refine .inr ⟨a, e, eo, ha.imp id fun z => ⟨?_, z.2⟩⟩
        exact kept_new k34 S4 z.1
    rintro σ H4 ⟨lo, hi, hv, rfl, hand, S4, k34⟩
    have TA4 := TA3.kept S3 k34
    have QA4 := QA.kept S3 k34
    have eok : EndOk lo hi := by
      rcases hand with ⟨v, _, rfl, rfl⟩ | ⟨a, _, eo, _⟩
      · exact .inr (.inr ⟨v, v, rfl, rfl, Int.le_refl _⟩)
      · exact eo
    have lw := TA4.al.len
    obtain ⟨db, lq, le, hb4, _, ⟨qs, es, hq1, he1, _⟩, _⟩ := id TA4.book
    -- it is told
    refine ⟨fun σ H5 => σ = [some (.ref st), some (.ref b), some (.ref tl), some (.ref x), some (.ref nl), some (.ref D), v6, some (.ref q), some (.ref r), some lo, some hi, some hv, none, none] ∧ BookAt C CQ CB H5 b xb zs ch (putQs zs ch wts f) (putPs zs ch wts f (ts.map fun t => t.2) (lo, hi)) ∧ OffB b H4 H5 ∧ NewL H4 H5 b, ?_, ?_⟩
    · refine ⟨_, rfl, _, rfl, _, rfl, b, db, _, rfl, hb4, b, xb, q, xq, hv, lo, hi, zs, ch, wts, _, f, rfl, TA4.book, QA4, nm, ?_, by omega, fun H5 BK o nw => ⟨rfl, BK, o, nw⟩⟩
      rcases hand with ⟨v, h1, h2, h3⟩ | ⟨a, h1, eo, h2 | ⟨_, h2⟩⟩
      · exact .inl ⟨v, h1, h2, h3⟩
      · exact .inr ⟨a, h1, .inr (SqT.of h2), eo⟩
      · exact .inr ⟨a, h1, .inl (SqL.of h2), eo⟩
    rintro σ H5 ⟨rfl, BK5, o5, nw5⟩
    have S5 := S4.offB hb4 (fun _ z => nomatch z) o5
    have kb35 : KeptB b st c H3 H5 := (KeptB.of k34).trans (KeptB.off o5)
    have ap5 := ApartB.new S4 TA4.apart nw5
    -- a list that was handed over is changed
    refine ⟨fun σ H6 => σ = [some (.ref st), some (.ref b), some (.ref tl), some (.ref x), some (.ref nl), some (.ref D), v6, some (.ref q), some (.ref r), some lo, some hi, some hv, none, none] ∧ BookAt C CQ CB H6 b xb zs ch (putQs zs ch wts f) (putPs zs ch wts f (ts.map fun t => t.2) (lo, hi)) ∧ ApartB H6 b st c ∧ Strm H6 st c (n + 2108) ∧ KeptB b st c H3 H6, ?_, ?_⟩
    · have ki : kitB "int" "list" = some false := by decide +kernel
      have kt : kitB "tuple" "list" = some false := by decide +kernel
      have kl : kitB "list" "list" = some true := by decide +kernel
      rcases hand with ⟨v, rfl, _, _⟩ | ⟨a, rfl, eo, h2 | ⟨na, h2⟩⟩
      · refine ⟨_, rfl, .int v, .ty "list", .type "int", .type "list", false, rfl, .ty _, .base (.int _), kit_ty ki, _, rfl, ?_⟩
        refine iteF ?_
        exact ⟨rfl, BK5, ap5, S5, kb35⟩
      · have h5 := o5 _ _ (ne_of h2 hb4 (fun z => nomatch z)) h2
        refine ⟨_, rfl, .ref a, .ty "list", .type "tuple", .type "list", false, rfl, .ty _, tyx_t (SqT.of h5), kit_ty kt, _, rfl, ?_⟩
        refine iteF ?_
        exact ⟨rfl, BK5, ap5, S5, kb35⟩
      · have h5 := o5 _ _ (ne_of h2 hb4 (fun z => nomatch z)) h2
        have a12 := S3.notfree na
        refine ⟨_, rfl, .ref a, .ty "list", .type "list", .type "list", true, rfl, .ty _, tyx_l (SqL.of h5), kit_ty kl, _, rfl, ?_⟩
        refine iteT ?_
        have aw : ∀ CB' db' x' lq' le', H5 b = some (.ins CB' db' (bookF x' lq' le')) → lq' ≠ a ∧ le' ≠ a := by
          obtain ⟨db3, lq3, le3, b3, _, ⟨qs3, es3, q3, e3, _⟩, _⟩ := id TA3.book
          exact nw5.away h2 na (S3.hold k34 b3 (fun _ z => nomatch z)) q3 e3
        have nba : b ≠ a := by
          obtain ⟨d5, q5, l5, b5, _⟩ := id BK5
          exact ne_of b5 h5 (fun z => nomatch z)
        refine ⟨_, rfl, a, _, 0, 0, rfl, rfl, h5, rfl, rfl, BK5.upA h5 aw, fun CB' db' x' lq' le' hb' => ?_, S5.upd a12.1 a12.2, fun z u n1 n2 n3 h => ?_⟩
        · rw [upd_ne nba] at hb'
          exact ap5 _ _ _ _ _ hb'
        · rw [upd_ne (ne_of_none h na)]
          exact kb35 _ _ n1 n2 n3 h
    rintro σ H6 ⟨rfl, BK6, ap6, S6, kb6⟩
    obtain ⟨db3, lq3, le3, hb3, _⟩ := id TA3.book
    have ntl : tl ≠ b := ne_of TA3.list hb3 (fun z => nomatch z)
    have hU6 := kb6 _ _ ntl TA3.n1 TA3.n2 TA3.list
    have TU6 := told_keptB TA3.told S3 hb3 kb6
    have QA6 := QA.keptB S3 hb3 kb6
    have hr6 := kb6 _ _ (ne_of hr3 hb3 (fun z => nomatch z)) r1 r2 hr3
    have ri : ∀ g : List Str → Int, ((lotsFor ch zs).map fun l => V.int (g l)) = ((lotsFor ch zs).map g).map V.int := fun g => by rw [List.map_map]; rfl
    -- where it stands
    refine ⟨fun σ H7 => ∃ Pl, σ = [some (.ref st), some (.ref b), some (.ref tl), some (.ref x), some (.ref nl), some (.ref D), v6, some (.ref q), some (.ref r), some lo, some hi, some hv, some (.ref Pl), none] ∧ Same H6 H7 ∧ H7 Pl = some (.lst (((List.range ts.length).filter fun i => decide (((lotsFor ch zs).map ((ts.map fun t => t.1).getD i fun _ => 0)) = (lotsFor ch zs).map f)).map fun i => V.int ((i : Nat) : Int))), ?_, ?_⟩
    · refine ⟨_, rfl, tl, rfl, .inl ⟨us, SqL.of hU6, fun D0 nD0 => lc_it walk_enum (UptoF H6 D0 (List.range ts.length) (fun i => V.int ((i : Nat) : Int)) fun i => decide (((lotsFor ch zs).map ((ts.map fun t => t.1).getD i fun _ => 0)) = (lotsFor ch zs).map f)) (.zero nD0) (fun i H' _ u => SqL.of (u.sm _ _ hU6)) ?_ ?_⟩⟩
      · rintro i y H' H'' hi' u ⟨T, y1, y2, rfl, nT, rfl, h1, h2⟩
        cases h1
        have h2 : us[i]? = some y2 := h2
        have eT := same_upd (o := HO.tup [V.int (i : Nat), y2]) nT
        have hti : ts[i]? = some (ts[i]'(by omega)) := List.getElem?_eq_getElem _
        have e6 := Same.trans u.sm eT
        obtain ⟨T2, q2, x2, rr, rfl, hT2, _, hrr, _⟩ := TU6.2 i _ _ h2 hti
        refine ⟨T, _, rfl, SqT.of upd_same, rfl, _, _, rfl, _, _, rfl, rfl, rfl, ?_⟩
        generalize upd H' T (.tup [.int (i : Nat), .ref T2]) = H2 at eT e6 ⊢
        have g1 : SqL K H2 rr (((lotsFor ch zs).map (ts[i]'(by omega)).1).map V.int) := by rw [← ri]; exact SqL.of (e6 _ _ hrr)
        have g2 : SqL K H2 r (((lotsFor ch zs).map f).map V.int) := by rw [← ri]; exact SqL.of (e6 _ _ hr6)
        refine ⟨_, rfl, T2, _, 1, .ref rr, rfl, rfl, SqT.of (e6 _ _ hT2), rfl, _, rfl, .list (((lotsFor ch zs).map (ts[i]'(by omega)).1).map PyData.int), .list (((lotsFor ch zs).map f).map PyData.int), .lst g1 (dp_ints _), .lst g2 (dp_ints _), shaped_ints _, shaped_ints _, _, rfl, ?_⟩
        have hx : (List.range ts.length)[i]? = some i := by rw [List.getElem?_range (by omega)]
        have ge : ((ts.map fun t => t.1).getD i fun _ => 0) = (ts[i]'(by omega)).1 := by rw [List.getD_eq_getElem?_getD, List.getElem?_map, hti]; rfl
        rw [eqv_rows]
        refine ite2 (fun h => ?_) (fun h => ?_)
        · refine ⟨_, rfl, u.yes nD0 hx (by rw [ge]; exact h) eT (by rw [List.length_range]; omega)⟩
        · exact u.no hx (by rw [ge]; exact Bool.eq_false_iff.mpr h) eT
      · intro H' u
        exact ⟨D0, rfl, u.sm, u.all (by rw [List.length_range, lu])⟩
    rintro σ H7 ⟨Pl, rfl, e7, hPl⟩
    have rows : ∀ (j : Nat) (w : List Str → Int) (t : (List Str → Int) × V × V), wts[j]? = some w → ts[j]? = some t → eqQ zs ch w zs ch f = decide (((lotsFor ch zs).map ((ts.map fun t => t.1).getD j fun _ => 0)) = (lotsFor ch zs).map f) := fun j w t h1 h2 => by
      have ge : ((ts.map fun t => t.1).getD j fun _ => 0) = t.1 := by rw [List.getD_eq_getElem?_getD, List.getElem?_map, h2]; rfl
      unfold eqQ
      rw [decide_eq_true rfl, decide_eq_true rfl, same_rows ndz, ge, List.map_congr_left (TA.al.at_ j w t h1 h2)]
      rfl
    have e67 : KeptB b st c H3 H7 := kb6.trans (KeptB.same e7)
    have kb7 : KeptB b st c H H7 := (KeptB.of k3).trans e67
    have S7 := S6.same e7
    have TU7 : Told (TuAt C CQ st c zs ch) H7 us ts := ⟨TU6.1, fun j u t h1 h2 => (TU6.2 j u t h1 h2).same e7⟩
    have hU7 := e7 _ _ hU6
    have QA7 := QA6.same e7
    have hr7 := e7 _ _ hr6
    have BK7 := BK6.same e7
    have ap7 : ∀ {H8 : Hp}, Same H6 H8 → ApartB H8 b st c := fun {H8} e8 CB' db' x' lq' le' hb' => by
      obtain ⟨d6, q6, l6, b6, _⟩ := id BK6
      rw [e8 _ _ b6] at hb'
      injection hb' with hb'
      injection hb' with c1 c2 c3
      obtain ⟨_, rfl, rfl⟩ := bookF_inj c3
      exact ap6 _ _ _ _ _ b6
    cases hp : placeQ zs ch wts zs ch f with
    | none =>
      have nop : ∀ j, j < ts.length → decide (((lotsFor ch zs).map ((ts.map fun t => t.1).getD j fun _ => 0)) = (lotsFor ch zs).map f) = false := fun j hj => by
        have hw : wts[j]? = some (wts[j]'(by omega)) := List.getElem?_eq_getElem _
        rw [← rows j _ _ hw (List.getElem?_eq_getElem hj)]
        unfold placeQ at hp
        rw [List.findIdx?_eq_none_iff] at hp
        exact hp _ (List.mem_of_getElem? hw)
      have fn : ((List.range ts.length).filter fun i => decide (((lotsFor ch zs).map ((ts.map fun t => t.1).getD i fun _ => 0)) = (lotsFor ch zs).map f)) = [] := by
        rw [List.filter_eq_nil_iff]
        intro j hj
        rw [nop j (List.mem_range.mp hj)]
        exact Bool.false_ne_true
      rw [fn] at hPl
      unfold putQs putPs at BK7
      rw [hp] at BK7
      refine ⟨fun _ _ => False, ?_, fun _ _ z => z.elim⟩
      refine ⟨_, rfl, Nat.zero_le _, fun p0 np0 => ?_⟩
      have e8 := same_upd (o := HO.lst []) np0
      refine ⟨.list [], .list [], .lst (SqL.of (e8 _ _ hPl)) .nil, .lst (SqL.of upd_same) .nil, rfl, rfl, _, rfl, ?_⟩
      refine if_so (by simp [PyData.eqv, PyData.eqvAll]) ?_
      refine ⟨_, rfl, _, rfl, _, rfl, _, rfl, _, rfl, by show 4 ≤ sizeLine; decide, fun T nT => ?_⟩
      have e9 := Same.trans e8 (same_upd (o := HO.tup [.ref q, .ref r, lo, hi]) nT)
      have hT9 : upd (upd H7 p0 (.lst [])) T (.tup [.ref q, .ref r, lo, hi]) T = some (.tup [.ref q, .ref r, lo, hi]) := upd_same
      generalize upd (upd H7 p0 (.lst [])) T (.tup [.ref q, .ref r, lo, hi]) = G1 at e9 hT9 ⊢
      refine ⟨by show 1 ≤ sizeLine; decide, fun p1 np1 => ?_⟩
      have e10 := same_upd (o := HO.lst [.ref T]) np1
      refine ⟨tl, p1, us, [.ref T], rfl, rfl, (Same.trans e9 e10) _ _ hU7, upd_same, by rw [sizeLine_eq]; show us.length + 1 ≤ _; omega, fun L nL => ?_⟩
      have e11 := Same.trans e10 (same_upd (o := HO.lst (us ++ [.ref T])) nL)
      have e12 := Same.trans e9 e11
      have nL2 := (S7.same (Same.trans e9 e10)).notfree nL
      refine qq L (wts ++ [f]) (ts ++ [(f, lo, hi)]) _ _ ⟨?_, ap7 (Same.trans e7 e12), upd_same, nL2.1, nL2.2, ?_, ?_, ?_, fun t m => ?_⟩ ?_ ((S7.same e12).more (by omega)) (kb7.trans (KeptB.same e12))
      · rw [List.map_append]
        exact BK7.same e12
      · exact Told.app ⟨TU7.1, fun j u t h1 h2 => (TU7.2 j u t h1 h2).same e12⟩ (.one ⟨T, q, xq, r, rfl, e11 _ _ hT9, QA7.same e12, e12 _ _ hr7, r1, r2⟩)
      · exact TA.al.snoc fun l _ => rfl
      · refine TA.once.snoc fun j t hj => ?_
        have hjl := (List.getElem?_eq_some_iff.mp hj).1
        have ge : ((ts.map fun t => t.1).getD j fun _ => 0) = t.1 := by rw [List.getD_eq_getElem?_getD, List.getElem?_map, hj]; rfl
        have z := of_decide_eq_false (nop j hjl)
        rw [ge] at z
        refine Classical.byContradiction fun nx => z (List.map_congr_left fun l m => Classical.byContradiction fun ne => nx ⟨l, m, ne⟩)
      · rcases List.mem_append.mp m with m | m
        · exact TA.ends t m
        · rw [List.mem_singleton.mp m]
          exact eok
      · rw [List.length_append]
        exact Nat.le_refl _
    | some i =>
      have hlt := place_lt hp
      have hi' : i < ts.length := by omega
      have hwi : wts[i]? = some (wts[i]) := List.getElem?_eq_getElem hlt
      have hti : ts[i]? = some (ts[i]) := List.getElem?_eq_getElem hi'
      have pe : eqQ zs ch (wts[i]) zs ch f = true := by
        unfold placeQ at hp
        rw [List.findIdx?_eq_some_iff_getElem] at hp
        exact hp.2.1
      have ge : ∀ (j : Nat) (t : (List Str → Int) × V × V), ts[j]? = some t → ((ts.map fun t => t.1).getD j fun _ => 0) = t.1 := fun j t h => by rw [List.getD_eq_getElem?_getD, List.getElem?_map, h]; rfl
      have pi := pe
      rw [rows i _ _ hwi hti] at pi
      have pi := of_decide_eq_true pi
      rw [ge i _ hti] at pi
      have pj : ∀ j, j < ts.length → decide (((lotsFor ch zs).map ((ts.map fun t => t.1).getD j fun _ => 0)) = (lotsFor ch zs).map f) = decide (j = i) := fun j hj => by
        have htj : ts[j]? = some (ts[j]) := List.getElem?_eq_getElem hj
        rw [ge j _ htj]
        by_cases c : j = i
        · subst c
          rw [decide_eq_true pi, decide_eq_true rfl]
        · rw [decide_eq_false c, decide_eq_false]
          intro z
          have z2 := z.trans pi.symm
          rcases Nat.lt_or_gt_of_ne c with c | c
          · obtain ⟨l, m, n⟩ := TA.once j i _ _ c htj hti
            exact n (List.map_inj_left.mp z2 l m)
          · obtain ⟨l, m, n⟩ := TA.once i j _ _ c hti htj
            exact n (List.map_inj_left.mp z2 l m).symm
      unfold putQs putPs at BK7
      rw [hp] at BK7
      generalize hns : ((List.range ts.length).filter fun i => decide (((lotsFor ch zs).map ((ts.map fun t => t.1).getD i fun _ => 0)) = (lotsFor ch zs).map f)) = ns at hPl
      have mem : ∀ j, j < ts.length → decide (j ∈ ns) = decide (j = i) := fun j hj => by
        rw [← pj j hj, ← hns]
        refine decide_eq_decide.mpr ?_
        rw [List.mem_filter, List.mem_range, decide_eq_true_iff]
        exact ⟨fun z => z.2, fun z => ⟨hj, z⟩⟩
      have mi : i ∈ ns := of_decide_eq_true (by rw [mem i hi', decide_eq_true rfl])
      refine ⟨fun σ H8 => σ = [some (.ref st), some (.ref b), some (.ref tl), some (.ref x), some (.ref nl), some (.ref D), v6, some (.ref q), some (.ref r), some lo, some hi, some hv, some (.ref Pl), none] ∧ Same H7 H8, ?_, ?_⟩
      · refine ⟨_, rfl, Nat.zero_le _, fun p0 np0 => ?_⟩
        have e8 := same_upd (o := HO.lst []) np0
        have hPl2 : H7 Pl = some (.lst ((ns.map fun i => ((i : Nat) : Int)).map V.int)) := by rw [List.map_map]; exact hPl
        refine ⟨.list ((ns.map fun i => ((i : Nat) : Int)).map PyData.int), .list [], .lst (SqL.of (e8 _ _ hPl2)) (dp_ints _), .lst (SqL.of upd_same) .nil, shaped_ints _, rfl, _, rfl, ?_⟩
        rw [eqv_nil]
        refine if_no (by
          cases ns with
          | nil => cases mi
          | cons a r => rfl) ?_
        exact ⟨rfl, e8⟩
      rintro σ H8 ⟨rfl, e8⟩
      have hU8 := e8 _ _ hU7
      have hPl8 := e8 _ _ hPl
      refine ⟨_, rfl, tl, rfl, .inl ⟨us, SqL.of hU8, fun D0 nD0 => lc_it walk_enum (fun k H' => ∃ vs : List V, vs.length = k ∧ Same H8 H' ∧ H' D0 = some (.lst vs) ∧ ∀ (j : Nat) (v : V), vs[j]? = some v → (j ≠ i ∧ us[j]? = some v) ∨ (j = i ∧ ∃ T, v = .ref T ∧ H' T = some (.tup [.ref q, .ref r, lo, hi]))) ⟨[], rfl, same_upd nD0, upd_same, fun j v h => by simp at h⟩ (fun k H' _ ⟨vs, _, e, _, _⟩ => SqL.of (e _ _ hU8)) ?_ ?_⟩⟩
      · rintro k y H' H'' hk ⟨vs, lv, e, hD, al⟩ ⟨T, y1, y2, rfl, nT, rfl, h1, h2⟩
        cases h1
        have h2 : us[k]? = some y2 := h2
        have eT := same_upd (o := HO.tup [V.int (k : Nat), y2]) nT
        refine ⟨T, _, rfl, SqT.of upd_same, rfl, _, _, rfl, _, _, rfl, rfl, rfl, yes2 ?_⟩
        generalize upd H' T (.tup [.int (k : Nat), y2]) = G at eT ⊢
        have eG := Same.trans e eT
        have snoc : ∀ (v : V) (G2 : Hp), Same G G2 → ((k ≠ i ∧ us[k]? = some v) ∨ (k = i ∧ ∃ T, v = .ref T ∧ G2 T = some (.tup [.ref q, .ref r, lo, hi]))) → ∃ acc, G2 D0 = some (.lst acc) ∧ acc.length < sizeLine ∧ ∃ vs : List V, vs.length = k + 1 ∧ Same H8 (upd G2 D0 (.lst (acc ++ [v]))) ∧ (upd G2 D0 (.lst (acc ++ [v]))) D0 = some (.lst vs) ∧ ∀ (j : Nat) (v' : V), vs[j]? = some v' → (j ≠ i ∧ us[j]? = some v') ∨ (j = i ∧ ∃ T, v' = .ref T ∧ (upd G2 D0 (.lst (acc ++ [v]))) T = some (.tup [.ref q, .ref r, lo, hi])) := by
          intro v G2 eg hvv
          have eg2 := Same.trans eT eg
          have hD2 := eg2 _ _ hD
          have up : ∀ {T : Addr}, G2 T = some (.tup [.ref q, .ref r, lo, hi]) → upd G2 D0 (.lst (vs ++ [v])) T = some (.tup [.ref q, .ref r, lo, hi]) := fun h => by rw [upd_ne (ne_of h hD2 (fun z => nomatch z))]; exact h
          refine ⟨vs, hD2, Evl.sz_lt (by omega), vs ++ [v], by rw [List.length_append, lv]; rfl, Same.grow (Same.trans eG eg) nD0, upd_same, fun j w hj => ?_⟩
          by_cases c : j < vs.length
          · rw [List.getElem?_append_left c] at hj
            rcases al j w hj with h | ⟨h1, T, h2, h3⟩
            · exact .inl h
            · exact .inr ⟨h1, T, h2, up (eg2 _ _ h3)⟩
          · have lj := (List.getElem?_eq_some_iff.mp hj).1
            rw [List.length_append] at lj
            have lj : j < vs.length + 1 := lj
            rw [List.getElem?_append_right (by omega), show j - vs.length = 0 from by omega] at hj
            cases hj
            have ej : j = k := by omega
            rw [ej]
            rcases hvv with h | ⟨h1, T, h2, h3⟩
            · exact .inl h
            · exact .inr ⟨h1, T, h2, up h3⟩
        have hv : inV (.int ((k : Nat) : Int)) (ns.map fun i => V.int ((i : Nat) : Int)) = decide (k = i) := by rw [inV_nats, mem k (by omega)]
        refine ⟨_, rfl, _, rfl, Pl, _, rfl, .inl (SqL.of (eG _ _ hPl8)), rfl, by
          rw [List.all_eq_true]
          intro v m
          obtain ⟨a, _, rfl⟩ := List.mem_map.mp m
          rfl, _, rfl, ?_⟩
        refine ite2 (fun h => ?_) (fun h => ?_)
        · have h' : decide (k = i) = true := by rw [← hv]; exact h
          exact ⟨_, rfl, _, rfl, _, rfl, _, rfl, by show 4 ≤ sizeLine; decide, fun T2 nT2 => snoc (.ref T2) _ (same_upd nT2) (.inr ⟨of_decide_eq_true h', T2, rfl, upd_same⟩)⟩
        · have h' : ¬ k = i := fun z => h (by
            have z2 : decide (k = i) = true := decide_eq_true z
            rw [← hv] at z2
            exact z2)
          exact ⟨_, rfl, snoc y2 _ (Same.refl _) (.inl ⟨h', h2⟩)⟩
      · rintro H9 ⟨vs, lv, e, hD, al⟩
        have e09 := Same.trans e8 e
        have nn := (S7.same e8).notfree nD0
        have len' : (ts.take i ++ [(f, lo, hi)] ++ ts.drop (i + 1)).length = ts.length := by
          rw [List.length_append, List.length_append, List.length_take, List.length_drop]
          show min i ts.length + 1 + (ts.length - (i + 1)) = ts.length
          omega
        have fl : ∀ l ∈ lotsFor ch zs, (wts[i]) l = f l := by
          have pe := pe
          unfold eqQ at pe
          rw [decide_eq_true rfl, decide_eq_true rfl] at pe
          exact sameT_ne ndz pe
        have ne : ∀ (j : Nat) (t : (List Str → Int) × V × V), j ≠ i → ts[j]? = some t → ∃ l ∈ lotsFor ch zs, t.1 l ≠ f l := fun j t hj htj => by
          have z := pj j (List.getElem?_eq_some_iff.mp htj).1
          rw [decide_eq_false hj] at z
          have z := of_decide_eq_false z
          rw [ge j t htj] at z
          exact Classical.byContradiction fun nx => z (List.map_congr_left fun l m => Classical.byContradiction fun ne => nx ⟨l, m, ne⟩)
        refine qq D0 wts (ts.take i ++ [(f, lo, hi)] ++ ts.drop (i + 1)) vs H9 ⟨?_, ap7 (Same.trans e7 e09), hD, nn.1, nn.2, ⟨by rw [lv, len', lu], fun j u t h1 h2 => ?_⟩, ⟨by rw [len', lw], fun j w t h1 h2 l m => ?_⟩, fun a b' t u ab h1 h2 => ?_, fun t m => ?_⟩ (by rw [len']; omega) ((S7.same e09).more (by omega)) (kb7.trans (KeptB.same e09))
        · rw [List.map_append, List.map_append, List.map_take, List.map_drop]
          exact BK7.same e09
        · rw [setL_at hi'] at h2
          rcases al j u h1 with ⟨n1, hu2⟩ | ⟨e1, T, rfl, hT⟩
          · rw [if_neg n1] at h2
            exact (TU7.2 j u t hu2 h2).same e09
          · rw [if_pos e1] at h2
            cases h2
            exact ⟨T, q, xq, r, rfl, hT, QA7.same e09, e09 _ _ hr7, r1, r2⟩
        · rw [setL_at hi'] at h2
          by_cases c : j = i
          · rw [if_pos c] at h2
            cases h2
            rw [c, hwi] at h1
            cases h1
            exact fl l m
          · rw [if_neg c] at h2
            exact TA.al.at_ j w t h1 h2 l m
        · rw [setL_at hi'] at h1 h2
          by_cases c1 : a = i
          · rw [if_pos c1] at h1
            rw [if_neg (by omega)] at h2
            cases h1
            obtain ⟨l, m, n⟩ := ne b' u (by omega) h2
            exact ⟨l, m, fun z => n z.symm⟩
          · rw [if_neg c1] at h1
            by_cases c2 : b' = i
            · rw [if_pos c2] at h2
              cases h2
              exact ne a t c1 h1
            · rw [if_neg c2] at h2
              exact TA.once a b' t u ab h1 h2
        · obtain ⟨j, hj⟩ := List.mem_iff_getElem?.mp m
          rw [setL_at hi'] at hj
          by_cases c : j = i
          · rw [if_pos c] at hj
            cases hj
            exact eok
          · rw [if_neg c] at hj
            exact TA.ends t (List.mem_of_getElem? hj)
end
end Bk

/-! two books side by side: what the one's deeds leave of the other -/
namespace Bk
open PySem PySem.Spec PyProof.Rows L2
section
variable {C CQ CB b b2 st c x xb tl lq le db nl D : Addr} {H H' : Hp} {zs : List Str} {ch : Bool} {wts : List (List Str → Int)} {ts : List ((List Str → Int) × V × V)} {us ws : List V} {n : Nat}
theorem ApartB.at (a : ApartB H b st c) (hb : H b = some (.ins CB db (bookF xb lq le))) (hb' : H' b = some (.ins CB db (bookF xb lq le))) : ApartB H' b st c := fun CB' db' x' lq' le' h => by
  rw [hb'] at h
  injection h with h
  injection h with c1 c2 c3
  obtain ⟨_, rfl, rfl⟩ := bookF_inj c3
  exact a _ _ _ _ _ hb
theorem ToldAt.same (h : ToldAt C CQ CB st c H b x tl zs ch wts ts us) (e : Same H H') : ToldAt C CQ CB st c H' b x tl zs ch wts ts us :=
  ⟨h.book.same e, by
    obtain ⟨d2, q2, e2, a1, _⟩ := h.book
    exact h.apart.at a1 (e _ _ a1), e _ _ h.list, h.n1, h.n2, ⟨h.told.1, fun i u t h1 h2 => (h.told.2 i u t h1 h2).same e⟩, h.al, h.once, h.ends⟩
/-- another book, and its list -/
theorem ToldAt.keptB (h : ToldAt C CQ CB st c H b2 x tl zs ch wts ts us) (nb : b2 ≠ b) (S : Strm H st c n) (hb : H b = some (.ins CB db (bookF xb lq le))) (k : KeptB b st c H H') : ToldAt C CQ CB st c H' b2 x tl zs ch wts ts us :=
  ⟨h.book.keptB h.apart nb S hb k, by
    obtain ⟨d2, q2, e2, a1, _⟩ := h.book
    have f := S.far a1 (fun _ z => nomatch z)
    exact h.apart.at a1 (k _ _ nb f.1 f.2 a1), k _ _ (ne_of h.list hb (fun z => nomatch z)) h.n1 h.n2 h.list, h.n1, h.n2, told_keptB h.told S hb k, h.al, h.once, h.ends⟩
theorem HouseAt.keptB (h : HouseAt C H st c nl x D zs ch ws) (S : Strm H st c n) (hb : H b = some (.ins CB db (bookF xb lq le))) (k : KeptB b st c H H') : HouseAt C H' st c nl x D zs ch ws :=
  ⟨h.n1, h.n2, h.d1, h.d2, h.dn, k _ _ (ne_of h.nm hb (fun z => nomatch z)) h.n1 h.n2 h.nm, h.fo.keptB S hb k, k _ _ (ne_of h.ld hb (fun z => nomatch z)) h.d1 h.d2 h.ld, ⟨h.at_.1, fun i v l h1 h2 => by
    obtain ⟨a, e1, e2⟩ := h.at_.2 i v l h1 h2
    have f := S.far e2 (fun _ z => nomatch z)
    exact ⟨a, e1, k _ _ (ne_of e2 hb (fun z => nomatch z)) f.1 f.2 e2⟩⟩, h.pos, h.le, h.nd, h.ok⟩
/-- a new book that nothing is told in -/
theorem ToldAt.new (B : BookAt C CQ CB H b x zs ch [] []) (a : ApartB H b st c) (hl : H tl = some (.lst [])) (n1 : tl ≠ st) (n2 : tl ≠ c) : ToldAt C CQ CB st c H b x tl zs ch [] [] [] :=
  ⟨B, a, hl, n1, n2, Told.nil, ⟨rfl, fun i w t h => by simp at h⟩, fun i j t u ij h => by simp at h, fun t m => nomatch m⟩
theorem ApartB.fresh (h : H b = some (.ins CB db [])) : ApartB H b st c := fun CB' db' x' lq' le' e => by
  rw [h] at e
  injection e with e
  injection e with c1 c2 c3
  cases c3
theorem ApartB.none (h : H b = none) : ApartB H b st c := fun CB' db' x' lq' le' e => by
  rw [h] at e
  cases e
/-- the same tellings in a copy -/
theorem ToldAt.copy (h : ToldAt C CQ CB st c H b x tl zs ch wts ts us) (S : Strm H st c n) (e : Same H H') (nb : H b2 = none) (B : BookAt C CQ CB H' b2 x zs ch wts (ts.map fun t => t.2)) (nw : NewL H H' b2) : ToldAt C CQ CB st c H' b2 x tl zs ch wts ts us :=
  have g := h.same e
  ⟨B, (ApartB.none nb).new S nw, g.list, g.n1, g.n2, g.told, g.al, g.once, g.ends⟩
end
end Bk

namespace Bk
open PySem PySem.Spec PyProof.Rows L2
def spLaw (K : PySem.W.Frag) : Sp := fun vs H Q _ => ∃ (a : Addr) (ns : List Int), vs = [.ref a] ∧ SqL K H a (ns.map V.int) ∧ ∀ H', Q (.bl true) H'
section
variable {P : Program} {w : World} {K : PySem.W.Frag} {mg : Str → Option Value} {base : Heap}
theorem scLaw : FnScope ["_law_script", "_law_stream", "_law_turn", "_law_names_here", "_law_is_chain", "_law_house", "_law_lots", "_law_strange", "_law_book", "_law_told", "_law_k", "_law_other", "_law_twin"] ["_law_script"] (defScope (topS 99)) := ⟨rfl, rfl, rfl, by decide +kernel, rfl, by decide +kernel, by decide +kernel⟩
theorem ok_law (B : Bi mg) {C CB CQ CK fF fE fB fC f f1 f2 f3 f4 f5 f6 f7 : Addr} {fdF fdE fdB fdC fd fd1 fd2 fd3 fd4 fd5 fd6 fd7 : FuncData} {ds : List Value} (T : FolT K mg C fF) (TB : BooT K mg CK fB)
    (GF : FnOk P w K mg base (L2.CX P w) 3 fF fdF ["self", "names", "chain"] (spFolders K C CB)) (bF : Binds K fdF ["self", "names", "chain"] ds) (dF : Vals [V.bl false] ds)
    (GE : FnOk P w K mg base CX0 1 fE fdE ["self", "other"] (spFEq K C)) (bE : Binds K fdE ["self", "other"] []) (mE : Own K C "__eq__" fE) (cE : eqCls K C fE = true) (kT : PySem.W.kitOne K (.ref C) (.ref C) = some true) (tF : ∀ (H : Hp) (x dx : Addr) (fs : List (Str × V)), H x = some (.ins C dx fs) → TyX K H (.ref x) (.ref C))
    (GB : FnOk P w K mg base CX0 1 fB fdB ["self", "folders"] (spBookI C CQ CK)) (bB : Binds K fdB ["self", "folders"] []) (GC : FnOk P w K mg base CX0 3 fC fdC ["self"] (spBCopy C CQ CK)) (bC : Binds K fdC ["self"] []) (mC : Meth K CK "copy" fC)
    (c__law_start : Cal P w K mg base CX0 1 "_law_start" f1 fd1 ["_law_script"] (spStart K)) (c__law_draw : Cal P w K mg base CX0 1 "_law_draw" f2 fd2 ["_law_stream", "_law_many"] spDraw) (c__law_spare : Cal P w K mg base CX0 1 "_law_spare" f3 fd3 ["_law_names_here"] (spSpare K)) (c__law_b_house : Cal P w K mg base CX0 9 "_law_b_house" f4 fd4 ["_law_stream", "_law_most"] (spHouse K C))
    (c__law_deed : Cal P w K mg base CX0 11 "_law_deed" f5 fd5 ["_law_stream", "_law_book", "_law_told", "_law_house", "_law_names_here", "_law_lots"] (spDeedB C CQ CK)) (c__law_shows : Cal P w K mg base CX0 7 "_law_shows" f6 fd6 ["_law_book", "_law_told", "_law_strange"] (spShowsB C CQ CK)) (c_whole : Cal P w K mg base CX0 7 "whole" f7 fd7 ["folders"] (spWhole C CQ))
    (F : Fun K "law" "law" (topS 99) f fd) : FnOk P w K mg base CX0 12 f fd ["_law_script"] (spLaw K) := by
  refine F.ok scLaw (fun vs H Q E h => ?_) (fun cdv A outer s H vs Q E hr h => ?_)
  · obtain ⟨a, ns, rfl, _⟩ := h
    rfl
  · obtain ⟨sa, ns, rfl, hS, q⟩ := h
    have nd := scLaw.nd
    have hu := hu_of hr
    have hr__law_deed := hr
    have hr__law_b_house : Room 9 _ := hr.mono (by decide)
    have hr_whole : Room 7 _ := hr.mono (by decide)
    have hr__law_shows := hr_whole
    have hrF : Room 4 _ := hr.mono (by decide)
    have hrC : Room 3 _ := hr.mono (by decide)
    have hrB : Room 2 _ := hr.mono (by decide)
    have hrN : Room 2 _ := hr.mono (by decide)
    have hr__law_draw : Room 1 _ := hr.mono (by decide)
    have hr__law_start := hr__law_draw
    have hr__law_spare := hr__law_draw
    refine ⟨_, (Evl.pss_cut (ps_set (i := 1) nd rfl (Or.inl rfl) (pe_call c__law_start.ok hr__law_start (by rfl) c__law_start.g c__law_start.kp c__law_start.b .nil pass0 (pa_cons (pv 0) pa_nil)))
      (Evl.pss_cut (ps_for PassesOwn.never rfl (pi_range1 (by rfl) B.range (pa_cons pe_int pa_nil)) (pg_name (i := 2) nd rfl (Or.inl rfl)) (Evl.pss_cut (ps_asg (pe_call c__law_b_house.ok hr__law_b_house (by rfl) c__law_b_house.g c__law_b_house.kp c__law_b_house.b .nil pass0 (pa_cons (pv 1) (pa_cons pe_int pa_nil))) (kTg K 4 rfl (pgs_cons (pg_name (i := 3) nd rfl (Or.inl rfl)) (pgs_cons (pg_name (i := 4) nd rfl (Or.inl rfl)) (pgs_cons (pg_name (i := 5) nd rfl (Or.inl rfl)) (pgs_cons (pg_name (i := 6) nd rfl (Or.inl rfl)) pgs_nil))))))
      (Evl.pss_cut (ps_set (i := 7) nd rfl (Or.inl rfl) (pe_call c_whole.ok hr_whole (by rfl) c_whole.g c_whole.kp c_whole.b .nil pass0 (pa_cons (pe_make T.make GF hrF (by rfl) T.g bF dF passL (pa_cons (pe_op op_cat (pv 3) (pe_lst (pa_cons (pe_call c__law_spare.ok hr__law_spare (by rfl) c__law_spare.g c__law_spare.kp c__law_spare.b .nil pass0 (pa_cons (pv 3) pa_nil)) pa_nil))) pa_nil)) pa_nil)))
      (Evl.pss_cut (ps_par (i := 8) (j := 9) rfl nd rfl rfl (by decide) rfl rfl (pa_cons (pe_make TB.make GB hrB (by rfl) TB.g bB .nil pass0 (pa_cons (pv 5) pa_nil)) (pa_cons (pe_lst pa_nil) pa_nil)) (by rfl))
      (pss_one (ps_for PassesOwn.never rfl (pi_range1 (by rfl) B.range (pa_cons pe_int pa_nil)) (pg_name (i := 10) nd rfl (Or.inl rfl)) (Evl.pss_cut (ps_if (pt_cmpR op_eq (pe_call c__law_draw.ok hr__law_draw (by rfl) c__law_draw.g c__law_draw.kp c__law_draw.b .nil pass0 (pa_cons (pv 1) (pa_cons pe_int pa_nil))) pe_int (nomark _)) (Evl.pss_cut (ps_set (i := 11) nd rfl (Or.inl rfl) (pe_meth0 (pv 8) TB.cl mC GC hrC bC .nil pass0))
      (Evl.pss_cut (ps_set (i := 12) nd rfl (Or.inl rfl) (pe_call c__law_deed.ok hr__law_deed (by rfl) c__law_deed.g c__law_deed.kp c__law_deed.b .nil pass0 (pa_cons (pv 1) (pa_cons (pv 11) (pa_cons (pv 9) (pa_cons (pv 5) (pa_cons (pv 3) (pa_cons (pv 6) pa_nil))))))))
      (Evl.pss_cut (ps_if (pt_cmpR op_isN (pv 12) pe_non (nomark _)) (pss_one (ps_ret pe_bl)) pss_nil)
      (Evl.pss_cut (ps_if (PW.pt (pw_or (pt_not (pt_val (pe_call c__law_shows.ok hr__law_shows (by rfl) c__law_shows.g c__law_shows.kp c__law_shows.b .nil pass0 (pa_cons (pv 11) (pa_cons (pv 12) (pa_cons (pv 7) pa_nil)))))) (pw_or1 (pt_not (pt_val (pe_call c__law_shows.ok hr__law_shows (by rfl) c__law_shows.g c__law_shows.kp c__law_shows.b .nil pass0 (pa_cons (pv 8) (pa_cons (pv 9) (pa_cons (pv 7) pa_nil))))))))) (pss_one (ps_ret pe_bl)) pss_nil)
      (pss_one (ps_if (pt_cmpR op_eq (pe_call c__law_draw.ok hr__law_draw (by rfl) c__law_draw.g c__law_draw.kp c__law_draw.b .nil pass0 (pa_cons (pv 1) (pa_cons pe_int pa_nil))) pe_int (nomark _)) (pss_one (ps_par (i := 8) (j := 9) rfl nd rfl rfl (by decide) rfl rfl (pa_cons (pv 11) (pa_cons (pv 12) pa_nil)) (by rfl))) pss_nil)))))) pss_nil)
      (Evl.pss_cut (ps_set (i := 9) nd rfl (Or.inl rfl) (pe_call c__law_deed.ok hr__law_deed (by rfl) c__law_deed.g c__law_deed.kp c__law_deed.b .nil pass0 (pa_cons (pv 1) (pa_cons (pv 8) (pa_cons (pv 9) (pa_cons (pv 5) (pa_cons (pv 3) (pa_cons (pv 6) pa_nil))))))))
      (pss_one (ps_if (PW.pt (pw_or (pt_cmpR op_isN (pv 9) pe_non (nomark _)) (pw_or (pt_not (pt_val (pe_call c__law_shows.ok hr__law_shows (by rfl) c__law_shows.g c__law_shows.kp c__law_shows.b .nil pass0 (pa_cons (pv 8) (pa_cons (pv 9) (pa_cons (pv 7) pa_nil)))))) (pw_or1 (pt_cmpR (op_neOwn GE bE pass0 hrN cE mE.fn) (pe_fld (pv 8) rfl) (pv 5) (nomark _)))))) (pss_one (ps_ret pe_bl)) pss_nil))))))))))
      (pss_one (ps_ret pe_bl)))), ?_⟩
    -- the stream
    refine ⟨fun σ H1 => ∃ st c, σ = [some (.ref sa), some (.ref st), none, none, none, none, none, none, none, none, none, none, none] ∧ Strm H1 st c 0, ?_, ?_⟩
    · exact ⟨_, rfl, sa, ns, rfl, hS, fun st c H1 e1 nst nc S1 => ⟨st, c, rfl, S1⟩⟩
    rintro σ H1 ⟨st, c, rfl, S1⟩
    refine ⟨fun _ _ => True, ?_, fun σ H2 _ => q _⟩
    refine ⟨3, rfl, by decide, by decide, ?_⟩
    refine for_it walk_range (fun i σ H1 => ∃ v2 v3 v4 v5 v6 v7 v8 v9 v10 v11 v12, σ = [some (.ref sa), some (.ref st), v2, v3, v4, v5, v6, v7, v8, v9, v10, v11, v12] ∧ Strm H1 st c (60000 * i)) ?_ (fun _ _ _ _ _ => trivial) ?_ (fun _ _ _ => trivial)
    · exact ⟨_, _, _, _, _, _, _, _, _, _, _, rfl, S1⟩
    rintro i y σ H0 H1 hi ⟨v2, v3, v4, v5, v6, v7, v8, v9, v10, v11, v12, rfl, S⟩ ⟨rfl, rfl⟩
    have hi : i < 3 := by simpa using hi
    -- the house
    refine ⟨fun σ H2 => ∃ (nl x D : Addr) (zs : List Str) (ch : Bool) (ws : List V), σ = [some (.ref sa), some (.ref st), some (.int (0 + (i : Int))), some (.ref nl), some (.bl ch), some (.ref x), some (.ref D), v7, v8, v9, v10, v11, v12] ∧ HouseAt C H2 st c nl x D zs ch ws ∧ zs.length ≤ 3 ∧ Strm H2 st c (60000 * i + 203), ?_, ?_⟩
    · refine ⟨_, rfl, st, c, 60000 * i, 3, rfl, S, by omega, by decide, by decide, fun p nl x D zs ch ws H2 np nnl nx nD hl hp HA S2 k2 => ?_⟩
      exact ⟨p, _, rfl, SqT.of hp, rfl, _, _, rfl, _, _, rfl, _, _, rfl, _, _, rfl, rfl, nl, x, D, zs, ch, ws, rfl, HA, hl, S2⟩
    rintro σ H2 ⟨nl, x, D, zs, ch, ws, rfl, HA2, z3, S2⟩
    -- a strange question
    refine ⟨fun σ H3 => ∃ (sq x2 : Addr) (zs' : List Str) (w' : List Str → Int), σ = [some (.ref sa), some (.ref st), some (.int (0 + (i : Int))), some (.ref nl), some (.bl ch), some (.ref x), some (.ref D), some (.ref sq), v8, v9, v10, v11, v12] ∧ HouseAt C H3 st c nl x D zs ch ws ∧ Strm H3 st c (60000 * i + 203) ∧ QuestAt C CQ H3 sq x2 zs' false w' ∧ (∀ z ∈ zs', isNameS z = true) ∧ zs ≠ zs', ?_, ?_⟩
    · refine ⟨_, rfl, _, rfl, nl, zs, rfl, .inl (SqL.of HA2.nm), by omega, fun z H3 e3 nmz nz => ?_⟩
      have HA3 := HA2.same e3
      refine ⟨by show 1 ≤ sizeLine; decide, fun p np => ?_⟩
      have e4 := same_upd (o := HO.lst [.str z]) np
      have hp4 : upd H3 p (.lst [.str z]) p = some (.lst [.str z]) := upd_same
      have HA4 := HA3.same e4
      have S4 := (S2.same e3).same e4
      generalize upd H3 p (.lst [.str z]) = H4 at e4 hp4 HA4 S4 ⊢
      refine ⟨nl, p, _, _, rfl, rfl, HA4.nm, hp4, by rw [sizeLine_eq, List.length_map]; show zs.length + 1 ≤ _; omega, fun L nL => ?_⟩
      have e5 := same_upd (o := HO.lst (zs.map V.str ++ [V.str z])) nL
      have hL5 : upd H4 L (.lst (zs.map V.str ++ [V.str z])) L = some (.lst ((zs ++ [z]).map V.str)) := by rw [upd_same, List.map_append]; rfl
      have HA5 := HA4.same e5
      have S5 := S4.same e5
      have nL2 := S4.notfree nL
      generalize upd H4 L (.lst (zs.map V.str ++ [V.str z])) = H5 at e5 hL5 HA5 S5 ⊢
      have nm' : ∀ y ∈ zs ++ [z], isNameS y = true := fun y m => by
        rcases List.mem_append.mp m with m | m
        · exact HA2.ok y m
        · rw [List.mem_singleton.mp m]
          exact nmz
      have nd' : (zs ++ [z]).Nodup := List.nodup_append.mpr ⟨HA2.nd, by simp, fun a ma b mb e => by
        rw [List.mem_singleton.mp mb] at e
        exact nz (e ▸ ma)⟩
      have lz : (zs ++ [z]).length ≤ mostFor false := by rw [List.length_append]; show zs.length + 1 ≤ 5; omega
      have Th : Thing K H5 (.ref L) (some ((zs ++ [z]).map V.str)) := (thf_lst hL5 nL2.1 nL2.2 (names_small lz) (far_names nm')).1
      have hw := wrong_ok (most := mostFor false) (zs := zs ++ [z]) (fun e => by simp at e) lz nm' nd'
      refine make_fold Th hw fun x2 H6 nx2 e6 FA6 => ?_
      refine ⟨x2, zs ++ [z], false, rfl, FA6, nd', lz, fun sq H7 nsq e7 SQ => ?_⟩
      have e57 := Same.trans e6 e7
      exact ⟨sq, x2, zs ++ [z], _, rfl, HA5.same e57, S5.same e57, SQ, nm', fun e => by
        have l := congrArg List.length e
        rw [List.length_append] at l
        have l : zs.length = zs.length + 1 := l
        omega⟩
    rintro σ H3 ⟨sq, x2, zs', w', rfl, HA3, S3, SQ3, nm', zz⟩
    have nm := HA3.ok
    have ndz := HA3.nd
    -- a book, and nothing told
    refine ⟨fun σ H4 => ∃ (b tl : Addr), σ = [some (.ref sa), some (.ref st), some (.int (0 + (i : Int))), some (.ref nl), some (.bl ch), some (.ref x), some (.ref D), some (.ref sq), some (.ref b), some (.ref tl), v10, v11, v12] ∧ HouseAt C H4 st c nl x D zs ch ws ∧ Strm H4 st c (60000 * i + 203) ∧ QuestAt C CQ H4 sq x2 zs' false w' ∧ ToldAt C CQ CK st c H4 b x tl zs ch [] [] [], ?_, ?_⟩
    · refine ⟨_, rfl, fun b db nb ndb hne => ?_⟩
      have e1 := Same.grow (o := HO.ins CK db []) (Same.grow (o := HO.own b) (Same.refl H3) ndb) nb
      have hb1 : upd (upd H3 db (.own b)) b (.ins CK db []) b = some (.ins CK db []) := upd_same
      have S4 := S3.same e1
      have HA4 := HA3.same e1
      have SQ4 := SQ3.same e1
      have ap4 : ApartB (upd (upd H3 db (.own b)) b (.ins CK db [])) b st c := ApartB.fresh hb1
      generalize upd (upd H3 db (.own b)) b (.ins CK db []) = H4 at e1 hb1 S4 HA4 SQ4 ap4 ⊢
      refine ⟨b, db, x, zs, ch, rfl, hb1, HA4.fo, fun H5 BK o nw => ⟨rfl, ?_⟩⟩
      refine ⟨Nat.zero_le _, fun tl ntl => ?_⟩
      have e6 := same_upd (o := HO.lst []) ntl
      have e36 : Same H3 _ := fun a u h => e6 _ _ (o _ _ (ne_of_none h nb) (e1 _ _ h))
      have S6 := S3.same e36
      have nt2 : tl ≠ st ∧ tl ≠ c := ⟨(S4.offB hb1 (fun _ z => nomatch z) o).notfree ntl |>.1, (S4.offB hb1 (fun _ z => nomatch z) o).notfree ntl |>.2⟩
      obtain ⟨d5, q5, l5, b5, _⟩ := id BK
      exact ⟨_, _, rfl, b, tl, rfl, HA3.same e36, S6, SQ3.same e36, .new (BK.same e6) ((ap4.new S4 nw).at b5 (e6 _ _ b5)) upd_same nt2.1 nt2.2⟩
    rintro σ H4 ⟨b, tl, rfl, HA4, S4, SQ4, TA4⟩
    -- eight deeds
    refine ⟨8, rfl, by decide, by decide, ?_⟩
    refine for_it walk_range (fun k σ H5 => ∃ (b tl : Addr) (wts : List (List Str → Int)) (ts : List ((List Str → Int) × V × V)) (us : List V) (v10 v11 v12 : Option V), σ = [some (.ref sa), some (.ref st), some (.int (0 + (i : Int))), some (.ref nl), some (.bl ch), some (.ref x), some (.ref D), some (.ref sq), some (.ref b), some (.ref tl), v10, v11, v12] ∧ HouseAt C H5 st c nl x D zs ch ws ∧ Strm H5 st c (60000 * i + 203 + 4500 * k) ∧ QuestAt C CQ H5 sq x2 zs' false w' ∧ ToldAt C CQ CK st c H5 b x tl zs ch wts ts us ∧ ts.length ≤ 2 * k) ?_ (fun _ _ _ _ _ => trivial) ?_ ?_
    · exact ⟨b, tl, [], [], [], _, _, _, rfl, HA4, S4, SQ4, TA4, Nat.zero_le _⟩
    · rintro k y σ H5' H5 hk ⟨b, tl, wts, ts, us, v10, v11, v12, rfl, HA5, S5, SQ5, TA5, few⟩ ⟨rfl, rfl⟩
      have hk : k < 8 := by simpa using hk
      -- a copy that goes its own way
      refine ⟨fun σ H6 => ∃ (b tl : Addr) (wts : List (List Str → Int)) (ts : List ((List Str → Int) × V × V)) (us : List V) (v11 v12 : Option V), σ = [some (.ref sa), some (.ref st), some (.int (0 + (i : Int))), some (.ref nl), some (.bl ch), some (.ref x), some (.ref D), some (.ref sq), some (.ref b), some (.ref tl), some (.int (0 + (k : Int))), v11, v12] ∧ HouseAt C H6 st c nl x D zs ch ws ∧ Strm H6 st c (60000 * i + 203 + 4500 * k + 2210) ∧ QuestAt C CQ H6 sq x2 zs' false w' ∧ ToldAt C CQ CK st c H6 b x tl zs ch wts ts us ∧ ts.length ≤ 2 * k + 1, ?_, ?_⟩
      · refine ⟨_, rfl, st, c, _, 4, rfl, S5, by omega, by decide, by decide, fun d H6 d0 d4 S6 k6 => ?_⟩
        have HA6 := HA5.kept S5 k6
        have SQ6 := SQ5.kept S5 k6
        have TA6 := TA5.kept S5 k6
        refine ⟨rfl, _, rfl, ?_⟩
        refine ite2 (fun _ => ?_) (fun _ => ⟨b, tl, wts, ts, us, v11, v12, rfl, HA6, S6.more (by omega), SQ6, TA6, by omega⟩)
        -- the copy
        refine ⟨fun σ H7 => ∃ (o : Addr), σ = [some (.ref sa), some (.ref st), some (.int (0 + (i : Int))), some (.ref nl), some (.bl ch), some (.ref x), some (.ref D), some (.ref sq), some (.ref b), some (.ref tl), some (.int (0 + (k : Int))), some (.ref o), v12] ∧ Same H6 H7 ∧ o ≠ b ∧ ToldAt C CQ CK st c H7 o x tl zs ch wts ts us, ?_, ?_⟩
        · obtain ⟨db, lq, le, hb, _⟩ := id TA6.book
          exact ⟨_, rfl, b, db, _, rfl, hb, look_copy _ _ _, b, x, zs, ch, wts, _, rfl, TA6.book, fun o H7 no e7 BK nw => ⟨o, rfl, e7, (ne_of_none hb no).symm, TA6.copy S6 e7 no BK nw⟩⟩
        rintro σ H7 ⟨o, rfl, e7, nob, TO7⟩
        have HA7 := HA6.same e7
        have S7 := S6.same e7
        have SQ7 := SQ6.same e7
        have TA7 := TA6.same e7
        -- its deed
        refine ⟨fun σ H8 => ∃ (tw : Addr) (wt2 : List (List Str → Int)) (ts2 : List ((List Str → Int) × V × V)) (us2 : List V), σ = [some (.ref sa), some (.ref st), some (.int (0 + (i : Int))), some (.ref nl), some (.bl ch), some (.ref x), some (.ref D), some (.ref sq), some (.ref b), some (.ref tl), some (.int (0 + (k : Int))), some (.ref o), some (.ref tw)] ∧ HouseAt C H8 st c nl x D zs ch ws ∧ Strm H8 st c (60000 * i + 203 + 4500 * k + 2201) ∧ QuestAt C CQ H8 sq x2 zs' false w' ∧ ToldAt C CQ CK st c H8 b x tl zs ch wts ts us ∧ ToldAt C CQ CK st c H8 o x tw zs ch wt2 ts2 us2 ∧ ts2.length ≤ 2 * k + 1, ?_, ?_⟩
        · refine ⟨_, rfl, _, rfl, _, rfl, _, rfl, _, rfl, _, rfl, st, c, o, tl, x, x, nl, D, _, zs, ch, ws, wts, ts, us, rfl, HA7, S7, by omega, TO7, by omega, fun tw wt2 ts2 us2 H8 TO8 l8 S8 k8 => ?_⟩
          obtain ⟨do7, qo7, lo7, ho7, _⟩ := id TO7.book
          exact ⟨tw, wt2, ts2, us2, rfl, HA7.keptB S7 ho7 k8, S8.more (by omega), SQ7.keptB S7 ho7 k8, TA7.keptB nob.symm S7 ho7 k8, TO8, by omega⟩
        rintro σ H8 ⟨tw, wt2, ts2, us2, rfl, HA8, S8, SQ8, TA8, TO8, few2⟩
        refine ⟨fun σ H9 => σ = [some (.ref sa), some (.ref st), some (.int (0 + (i : Int))), some (.ref nl), some (.bl ch), some (.ref x), some (.ref D), some (.ref sq), some (.ref b), some (.ref tl), some (.int (0 + (k : Int))), some (.ref o), some (.ref tw)] ∧ H8 = H9, ?_, ?_⟩
        · refine ⟨_, rfl, rfl, _, rfl, ?_⟩
          refine iteF ?_
          exact ⟨rfl, rfl⟩
        rintro σ H9 ⟨rfl, rfl⟩
        -- both show what is told in them
        refine ⟨fun σ H9 => σ = [some (.ref sa), some (.ref st), some (.int (0 + (i : Int))), some (.ref nl), some (.bl ch), some (.ref x), some (.ref D), some (.ref sq), some (.ref b), some (.ref tl), some (.int (0 + (k : Int))), some (.ref o), some (.ref tw)] ∧ Same H8 H9, ?_, ?_⟩
        · refine ⟨_, rfl, _, rfl, _, rfl, o, tw, sq, x, x2, zs, zs', ch, false, wt2, ts2, us2, w', rfl, TO8.book, TO8.list, told_v TO8.told, TO8.al, TO8.once, TO8.ends, SQ8, nm, nm', ndz, zz, by omega, fun G e => ⟨_, rfl, ?_⟩⟩
          refine iteF ?_
          have TW := TA8.same e
          refine ⟨_, rfl, _, rfl, _, rfl, b, tl, sq, x, x2, zs, zs', ch, false, wts, ts, us, w', rfl, TW.book, TW.list, told_v TW.told, TW.al, TW.once, TW.ends, SQ8.same e, nm, nm', ndz, zz, by omega, fun G2 e2 => ⟨_, rfl, ?_⟩⟩
          refine iteF ?_
          exact ⟨rfl, Same.trans e e2⟩
        rintro σ H9 ⟨rfl, e9⟩
        have S9 := S8.same e9
        -- now and then it takes the book's place
        refine ⟨_, rfl, st, c, _, 2, rfl, S9, by omega, by decide, by decide, fun e G e0 e2 SG kG => ?_⟩
        have HAG := (HA8.same e9).kept S9 kG
        have SQG := (SQ8.same e9).kept S9 kG
        refine ⟨rfl, _, rfl, ?_⟩
        refine ite2 (fun _ => ?_) (fun _ => ⟨b, tl, wts, ts, us, _, _, rfl, HAG, SG.more (by omega), SQG, (TA8.same e9).kept S9 kG, by omega⟩)
        exact ⟨_, rfl, _, rfl, _, _, rfl, o, tw, wt2, ts2, us2, _, _, rfl, HAG, SG.more (by omega), SQG, (TO8.same e9).kept S9 kG, few2⟩
      rintro σ H6 ⟨b, tl, wts, ts, us, v11, v12, rfl, HA6, S6, SQ6, TA6, few⟩
      -- the book's own deed
      refine ⟨fun σ H7 => ∃ (tl : Addr) (wts : List (List Str → Int)) (ts : List ((List Str → Int) × V × V)) (us : List V), σ = [some (.ref sa), some (.ref st), some (.int (0 + (i : Int))), some (.ref nl), some (.bl ch), some (.ref x), some (.ref D), some (.ref sq), some (.ref b), some (.ref tl), some (.int (0 + (k : Int))), v11, v12] ∧ HouseAt C H7 st c nl x D zs ch ws ∧ Strm H7 st c (60000 * i + 203 + 4500 * k + 4410) ∧ QuestAt C CQ H7 sq x2 zs' false w' ∧ ToldAt C CQ CK st c H7 b x tl zs ch wts ts us ∧ ts.length ≤ 2 * k + 2, ?_, ?_⟩
      · refine ⟨_, rfl, _, rfl, _, rfl, _, rfl, _, rfl, _, rfl, st, c, b, tl, x, x, nl, D, _, zs, ch, ws, wts, ts, us, rfl, HA6, S6, by omega, TA6, by omega, fun tl2 wt2 ts2 us2 H8 TO8 l8 S8 k8 => ?_⟩
        obtain ⟨db, lq, le, hb, _⟩ := id TA6.book
        exact ⟨tl2, wt2, ts2, us2, rfl, HA6.keptB S6 hb k8, S8.more (by omega), SQ6.keptB S6 hb k8, TO8, by omega⟩
      rintro σ H7 ⟨tl, wts, ts, us, rfl, HA7, S7, SQ7, TA7, few⟩
      refine ⟨_, rfl, rfl, _, rfl, ?_⟩
      refine iteF ?_
      refine ⟨_, rfl, _, rfl, _, rfl, b, tl, sq, x, x2, zs, zs', ch, false, wts, ts, us, w', rfl, TA7.book, TA7.list, told_v TA7.told, TA7.al, TA7.once, TA7.ends, SQ7, nm, nm', ndz, zz, by omega, fun G e => ⟨_, rfl, ?_⟩⟩
      refine iteF ?_
      have TW := TA7.same e
      have HB := HA7.same e
      obtain ⟨db, lq, le, hb, FB, _⟩ := id TW.book
      refine ⟨_, rfl, b, CK, db, _, _, rfl, hb, TB.cl, TB.nF, look_bf _ _ _, _, rfl, ?_⟩
      obtain ⟨dx, t, pd, hx, _, _⟩ := id FB
      obtain ⟨dx', t', pd', hx', _, _⟩ := id HB.fo
      refine ⟨x, dx, x, dx', _, _, rfl, rfl, hx, hx', x, .ref x, .ref C, zs, ch, _, rfl, FB, nm, tF _ _ _ _ hx', .inr ⟨kT, x, zs, ch, rfl, HB.fo, nm, rfl⟩, fun G2 e2 => ⟨_, rfl, _, rfl, ?_⟩⟩
      refine if_no (by rw [decide_eq_true rfl, decide_eq_true rfl]; rfl) ?_
      exact ⟨b, tl, wts, ts, us, _, _, _, rfl, HB.same e2, (S7.same (Same.trans e e2)).more (by omega), SQ7.same (Same.trans e e2), TW.same e2, by omega⟩
    · rintro σ H5 ⟨b, tl, wts, ts, us, v10, v11, v12, rfl, HA5, S5, SQ5, TA5, few⟩
      exact ⟨_, _, _, _, _, _, _, _, _, _, _, rfl, S5.more (by omega)⟩
end
end Bk

namespace Bk
open PySem PySem.Spec PyProof.Rows L2
theorem factsL {P : Program} {w w' : World} {K : PySem.W.Frag} {h h' : Heap} {mg : Str → Option Value} {f : Addr} (X : K.In h) (G : h.Ns mainGlobals mg) (hfa : mg ("law" : Str) = some (.ref f)) (cx : He.SaysX faL fnL [] [] exL w' h' K) :
    ∃ fd : FuncData, (∀ (s : Shared) (v : Value), BindsTo s fd ⟨[v], []⟩ [("_law_script", v)]) ∧ ∀ base : Heap, K.In base → base.Ns mainGlobals mg → FnOk P w K mg base CX0 12 f fd ["_law_script"] (spLaw K) := by
  have c := He.SaysT.d cx.t
  have mm := cx.more
  unfold exL at mm
  obtain ⟨xe_BadFolders, mm⟩ := Bool.and_eq_true_iff.mp mm
  obtain ⟨xe_NoFolder, mm⟩ := Bool.and_eq_true_iff.mp mm
  obtain ⟨xi_Folders, mm⟩ := Bool.and_eq_true_iff.mp mm
  obtain ⟨xi_Question, mm⟩ := Bool.and_eq_true_iff.mp mm
  obtain ⟨xi_Book, mm⟩ := Bool.and_eq_true_iff.mp mm
  obtain ⟨m3, mm⟩ := Bool.and_eq_true_iff.mp mm
  obtain ⟨m4, mm⟩ := Bool.and_eq_true_iff.mp mm
  obtain ⟨m5, mm⟩ := Bool.and_eq_true_iff.mp mm
  obtain ⟨m6, mm⟩ := Bool.and_eq_true_iff.mp mm
  obtain ⟨m8, mm⟩ := Bool.and_eq_true_iff.mp mm
  obtain ⟨q3, mm⟩ := Bool.and_eq_true_iff.mp mm
  obtain ⟨q4, mm⟩ := Bool.and_eq_true_iff.mp mm
  obtain ⟨q8, mm⟩ := Bool.and_eq_true_iff.mp mm
  obtain ⟨u1, mm⟩ := Bool.and_eq_true_iff.mp mm
  obtain ⟨b1, mm⟩ := Bool.and_eq_true_iff.mp mm
  have b2 := mm
  have glo : ∀ (i : Nat) (x : Str), faL[i]? = some (.glo x) → mg x = some (.ref (He.ga K x)) := fun i x e => He.glo_ok X G (c.fact i e)
  have fr : ∀ (i : Nat) (x : Str), faL[i]? = some (.free x) → mg x = none := fun i x e => He.free_ok X G (c.fact i e)
  have B : Bi mg := ⟨fr 83 _ rfl, fr 84 _ rfl, fr 85 _ rfl, fr 86 _ rfl, fr 87 _ rfl, fr 88 _ rfl, fr 89 _ rfl, fr 90 _ rfl, fr 91 _ rfl, fr 92 _ rfl, fr 93 _ rfl, fr 94 _ rfl, fr 95 _ rfl, fr 96 _ rfl⟩
  have n_iter := fr 97 "iter" rfl
  obtain ⟨fd_is_integer, D_is_integer⟩ := c.def_ 0 (d := gd "is_integer" (topS 18)) rfl
  have E_is_integer : Fun K "is_integer" "is_integer" (topS 18) _ fd_is_integer := fun_of D_is_integer
  obtain ⟨fd_is_list, D_is_list⟩ := c.def_ 1 (d := gd "is_list" (topS 19)) rfl
  have E_is_list : Fun K "is_list" "is_list" (topS 19) _ fd_is_list := fun_of D_is_list
  obtain ⟨fd_is_name, D_is_name⟩ := c.def_ 2 (d := gd "is_name" (topS 20)) rfl
  have E_is_name : Fun K "is_name" "is_name" (topS 20) _ fd_is_name := fun_of D_is_name
  obtain ⟨fd_first_wrong, D_first_wrong⟩ := c.def_ 3 (d := gd "first_wrong" (topS 33)) rfl
  have E_first_wrong : Fun K "first_wrong" "first_wrong" (topS 33) _ fd_first_wrong := fun_of D_first_wrong
  obtain ⟨fd_choices, D_choices⟩ := c.def_ 4 (d := gd "choices" (topS 34)) rfl
  have E_choices : Fun K "choices" "choices" (topS 34) _ fd_choices := fun_of D_choices
  obtain ⟨fd_choices_of, D_choices_of⟩ := c.def_ 5 (d := gd "choices_of" (topS 35)) rfl
  have E_choices_of : Fun K "choices_of" "choices_of" (topS 35) _ fd_choices_of := fun_of D_choices_of
  obtain ⟨fd_rows_of_neighbours, D_rows_of_neighbours⟩ := c.def_ 6 (d := gd "rows_of_neighbours" (topS 36)) rfl
  have E_rows_of_neighbours : Fun K "rows_of_neighbours" "rows_of_neighbours" (topS 36) _ fd_rows_of_neighbours := fun_of D_rows_of_neighbours
  obtain ⟨fd_lot_of, D_lot_of⟩ := c.def_ 7 (d := gd "lot_of" (topS 37)) rfl
  have E_lot_of : Fun K "lot_of" "lot_of" (topS 37) _ fd_lot_of := fun_of D_lot_of
  obtain ⟨fd_check_named, D_check_named⟩ := c.def_ 8 (d := gd "check_named" (topS 38)) rfl
  have E_check_named : Fun K "check_named" "check_named" (topS 38) _ fd_check_named := fun_of D_check_named
  obtain ⟨fd_numbers_by_lots, D_numbers_by_lots⟩ := c.def_ 9 (d := gd "numbers_by_lots" (topS 48)) rfl
  have E_numbers_by_lots : Fun K "numbers_by_lots" "numbers_by_lots" (topS 48) _ fd_numbers_by_lots := fun_of D_numbers_by_lots
  obtain ⟨fd_added, D_added⟩ := c.def_ 10 (d := gd "added" (topS 50)) rfl
  have E_added : Fun K "added" "added" (topS 50) _ fd_added := fun_of D_added
  obtain ⟨fd_counting, D_counting⟩ := c.def_ 11 (d := gd "counting" (topS 52)) rfl
  have E_counting : Fun K "counting" "counting" (topS 52) _ fd_counting := fun_of D_counting
  obtain ⟨fd_refers, D_refers⟩ := c.def_ 12 (d := gd "refers" (topS 53)) rfl
  have E_refers : Fun K "refers" "refers" (topS 53) _ fd_refers := fun_of D_refers
  obtain ⟨fd_freed, D_freed⟩ := c.def_ 13 (d := gd "freed" (topS 54)) rfl
  have E_freed : Fun K "freed" "freed" (topS 54) _ fd_freed := fun_of D_freed
  obtain ⟨fd_shared, D_shared⟩ := c.def_ 14 (d := gd "shared" (topS 55)) rfl
  have E_shared : Fun K "shared" "shared" (topS 55) _ fd_shared := fun_of D_shared
  obtain ⟨fd_just, D_just⟩ := c.def_ 15 (d := gd "just" (topS 56)) rfl
  have E_just : Fun K "just" "just" (topS 56) _ fd_just := fun_of D_just
  obtain ⟨fd_sent, D_sent⟩ := c.def_ 16 (d := gd "sent" (topS 57)) rfl
  have E_sent : Fun K "sent" "sent" (topS 57) _ fd_sent := fun_of D_sent
  obtain ⟨fd_whole, D_whole⟩ := c.def_ 17 (d := gd "whole" (topS 58)) rfl
  have E_whole : Fun K "whole" "whole" (topS 58) _ fd_whole := fun_of D_whole
  obtain ⟨fd_place_in, D_place_in⟩ := c.def_ 18 (d := gd "place_in" (topS 69)) rfl
  have E_place_in : Fun K "place_in" "place_in" (topS 69) _ fd_place_in := fun_of D_place_in
  obtain ⟨fd_is_end, D_is_end⟩ := c.def_ 19 (d := gd "is_end" (topS 70)) rfl
  have E_is_end : Fun K "is_end" "is_end" (topS 70) _ fd_is_end := fun_of D_is_end
  obtain ⟨fd_ends_of, D_ends_of⟩ := c.def_ 20 (d := gd "ends_of" (topS 71)) rfl
  have E_ends_of : Fun K "ends_of" "ends_of" (topS 71) _ fd_ends_of := fun_of D_ends_of
  obtain ⟨fd__law_start, D__law_start⟩ := c.def_ 21 (d := gd "_law_start" (topS 81)) rfl
  have E__law_start : Fun K "_law_start" "_law_start" (topS 81) _ fd__law_start := fun_of D__law_start
  obtain ⟨fd__law_draw, D__law_draw⟩ := c.def_ 22 (d := gd "_law_draw" (topS 82)) rfl
  have E__law_draw : Fun K "_law_draw" "_law_draw" (topS 82) _ fd__law_draw := fun_of D__law_draw
  obtain ⟨fd__law_pick, D__law_pick⟩ := c.def_ 23 (d := gd "_law_pick" (topS 83)) rfl
  have E__law_pick : Fun K "_law_pick" "_law_pick" (topS 83) _ fd__law_pick := fun_of D__law_pick
  obtain ⟨fd__law_mixed, D__law_mixed⟩ := c.def_ 24 (d := gd "_law_mixed" (topS 84)) rfl
  have E__law_mixed : Fun K "_law_mixed" "_law_mixed" (topS 84) _ fd__law_mixed := fun_of D__law_mixed
  obtain ⟨fd__law_same, D__law_same⟩ := c.def_ 25 (d := gd "_law_same" (topS 85)) rfl
  have E__law_same : Fun K "_law_same" "_law_same" (topS 85) _ fd__law_same := fun_of D__law_same
  obtain ⟨fd__law_name, D__law_name⟩ := c.def_ 26 (d := gd "_law_name" (topS 86)) rfl
  have E__law_name : Fun K "_law_name" "_law_name" (topS 86) _ fd__law_name := fun_of D__law_name
  obtain ⟨fd__law_names, D__law_names⟩ := c.def_ 27 (d := gd "_law_names" (topS 87)) rfl
  have E__law_names : Fun K "_law_names" "_law_names" (topS 87) _ fd__law_names := fun_of D__law_names
  obtain ⟨fd__law_spare, D__law_spare⟩ := c.def_ 28 (d := gd "_law_spare" (topS 88)) rfl
  have E__law_spare : Fun K "_law_spare" "_law_spare" (topS 88) _ fd__law_spare := fun_of D__law_spare
  obtain ⟨fd__law_b_rows, D__law_b_rows⟩ := c.def_ 29 (d := gd "_law_b_rows" (topS 89)) rfl
  have E__law_b_rows : Fun K "_law_b_rows" "_law_b_rows" (topS 89) _ fd__law_b_rows := fun_of D__law_b_rows
  obtain ⟨fd__law_b_lots, D__law_b_lots⟩ := c.def_ 30 (d := gd "_law_b_lots" (topS 90)) rfl
  have E__law_b_lots : Fun K "_law_b_lots" "_law_b_lots" (topS 90) _ fd__law_b_lots := fun_of D__law_b_lots
  obtain ⟨fd__law_b_house, D__law_b_house⟩ := c.def_ 31 (d := gd "_law_b_house" (topS 91)) rfl
  have E__law_b_house : Fun K "_law_b_house" "_law_b_house" (topS 91) _ fd__law_b_house := fun_of D__law_b_house
  obtain ⟨fd__law_q_counted, D__law_q_counted⟩ := c.def_ 32 (d := gd "_law_q_counted" (topS 92)) rfl
  have E__law_q_counted : Fun K "_law_q_counted" "_law_q_counted" (topS 92) _ fd__law_q_counted := fun_of D__law_q_counted
  obtain ⟨fd__law_q_made, D__law_q_made⟩ := c.def_ 33 (d := gd "_law_q_made" (topS 93)) rfl
  have E__law_q_made : Fun K "_law_q_made" "_law_q_made" (topS 93) _ fd__law_q_made := fun_of D__law_q_made
  obtain ⟨fd__law_q_named, D__law_q_named⟩ := c.def_ 34 (d := gd "_law_q_named" (topS 94)) rfl
  have E__law_q_named : Fun K "_law_q_named" "_law_q_named" (topS 94) _ fd__law_q_named := fun_of D__law_q_named
  obtain ⟨fd__law_q_drawn, D__law_q_drawn⟩ := c.def_ 35 (d := gd "_law_q_drawn" (topS 95)) rfl
  have E__law_q_drawn : Fun K "_law_q_drawn" "_law_q_drawn" (topS 95) _ fd__law_q_drawn := fun_of D__law_q_drawn
  obtain ⟨fd__law_k_ends, D__law_k_ends⟩ := c.def_ 36 (d := gd "_law_k_ends" (topS 96)) rfl
  have E__law_k_ends : Fun K "_law_k_ends" "_law_k_ends" (topS 96) _ fd__law_k_ends := fun_of D__law_k_ends
  obtain ⟨fd__law_shows, D__law_shows⟩ := c.def_ 37 (d := gd "_law_shows" (topS 97)) rfl
  have E__law_shows : Fun K "_law_shows" "_law_shows" (topS 97) _ fd__law_shows := fun_of D__law_shows
  obtain ⟨fd__law_deed, D__law_deed⟩ := c.def_ 38 (d := gd "_law_deed" (topS 98)) rfl
  have E__law_deed : Fun K "_law_deed" "_law_deed" (topS 98) _ fd__law_deed := fun_of D__law_deed
  obtain ⟨fd_law, D_law⟩ := c.def_ 39 (d := gd "law" (topS 99)) rfl
  have E_law : Fun K "law" "law" (topS 99) _ fd_law := fun_of D_law
  obtain ⟨fd_BadFolders_init, D_BadFolders_init⟩ := c.def_ 40 (d := md "BadFolders" "__init__" "BadFolders.__init__" (inClass (topS 3) 0) []) rfl
  have E_BadFolders_init : Fun K "__init__" "BadFolders.__init__" (inClass (topS 3) 0) _ fd_BadFolders_init := fun_of D_BadFolders_init
  obtain ⟨fd_NoFolder_init, D_NoFolder_init⟩ := c.def_ 41 (d := md "NoFolder" "__init__" "NoFolder.__init__" (inClass (topS 8) 0) []) rfl
  have E_NoFolder_init : Fun K "__init__" "NoFolder.__init__" (inClass (topS 8) 0) _ fd_NoFolder_init := fun_of D_NoFolder_init
  obtain ⟨fd_Folders_init, D_Folders_init⟩ := c.def_ 42 (d := md "Folders" "__init__" "Folders.__init__" (inClass (topS 32) 0) [("chain", .bl false)]) rfl
  have F_Folders_init : FunD K "__init__" "Folders.__init__" (defArgs (inClass (topS 32) 0)) (defBody (inClass (topS 32) 0)) (defScope (inClass (topS 32) 0)) [] [("chain", .bl false)] _ fd_Folders_init := D_Folders_init
  obtain ⟨fd_Folders_contains, D_Folders_contains⟩ := c.def_ 43 (d := md "Folders" "__contains__" "Folders.__contains__" (inClass (topS 32) 2) []) rfl
  have E_Folders_contains : Fun K "__contains__" "Folders.__contains__" (inClass (topS 32) 2) _ fd_Folders_contains := fun_of D_Folders_contains
  obtain ⟨fd_Folders_eq, D_Folders_eq⟩ := c.def_ 44 (d := md "Folders" "__eq__" "Folders.__eq__" (inClass (topS 32) 3) []) rfl
  have E_Folders_eq : Fun K "__eq__" "Folders.__eq__" (inClass (topS 32) 3) _ fd_Folders_eq := fun_of D_Folders_eq
  obtain ⟨fd_Folders_lots, D_Folders_lots⟩ := c.def_ 45 (d := md "Folders" "lots" "Folders.lots" (inClass (topS 32) 4) []) rfl
  have E_Folders_lots : Fun K "lots" "Folders.lots" (inClass (topS 32) 4) _ fd_Folders_lots := fun_of D_Folders_lots
  obtain ⟨fd_Question_init, D_Question_init⟩ := c.def_ 46 (d := mdd "Question" "__init__" "Question.__init__" (inClass (topS 47) 0) [.non]) rfl
  have F_Question_init : FunD K "__init__" "Question.__init__" (defArgs (inClass (topS 47) 0)) (defBody (inClass (topS 47) 0)) (defScope (inClass (topS 47) 0)) [.non] [] _ fd_Question_init := D_Question_init
  obtain ⟨fd_Question_eq, D_Question_eq⟩ := c.def_ 47 (d := md "Question" "__eq__" "Question.__eq__" (inClass (topS 47) 1) []) rfl
  have E_Question_eq : Fun K "__eq__" "Question.__eq__" (inClass (topS 47) 1) _ fd_Question_eq := fun_of D_Question_eq
  obtain ⟨fd_Question_add, D_Question_add⟩ := c.def_ 48 (d := md "Question" "__add__" "Question.__add__" (inClass (topS 47) 3) []) rfl
  have E_Question_add : Fun K "__add__" "Question.__add__" (inClass (topS 47) 3) _ fd_Question_add := fun_of D_Question_add
  obtain ⟨fd_Question_sub, D_Question_sub⟩ := c.def_ 49 (d := md "Question" "__sub__" "Question.__sub__" (inClass (topS 47) 4) []) rfl
  have E_Question_sub : Fun K "__sub__" "Question.__sub__" (inClass (topS 47) 4) _ fd_Question_sub := fun_of D_Question_sub
  obtain ⟨fd_Book_init, D_Book_init⟩ := c.def_ 50 (d := md "Book" "__init__" "Book.__init__" (inClass (topS 68) 0) []) rfl
  have E_Book_init : Fun K "__init__" "Book.__init__" (inClass (topS 68) 0) _ fd_Book_init := fun_of D_Book_init
  obtain ⟨fd_Book_getitem, D_Book_getitem⟩ := c.def_ 51 (d := md "Book" "__getitem__" "Book.__getitem__" (inClass (topS 68) 1) []) rfl
  have E_Book_getitem : Fun K "__getitem__" "Book.__getitem__" (inClass (topS 68) 1) _ fd_Book_getitem := fun_of D_Book_getitem
  obtain ⟨fd_Book_setitem, D_Book_setitem⟩ := c.def_ 52 (d := md "Book" "__setitem__" "Book.__setitem__" (inClass (topS 68) 2) []) rfl
  have E_Book_setitem : Fun K "__setitem__" "Book.__setitem__" (inClass (topS 68) 2) _ fd_Book_setitem := fun_of D_Book_setitem
  obtain ⟨fd_Book_iter, D_Book_iter⟩ := c.def_ 53 (d := md "Book" "__iter__" "Book.__iter__" (inClass (topS 68) 3) []) rfl
  have E_Book_iter : Fun K "__iter__" "Book.__iter__" (inClass (topS 68) 3) _ fd_Book_iter := fun_of D_Book_iter
  obtain ⟨fd_Book_contains, D_Book_contains⟩ := c.def_ 54 (d := md "Book" "__contains__" "Book.__contains__" (inClass (topS 68) 4) []) rfl
  have E_Book_contains : Fun K "__contains__" "Book.__contains__" (inClass (topS 68) 4) _ fd_Book_contains := fun_of D_Book_contains
  obtain ⟨fd_Book_len, D_Book_len⟩ := c.def_ 55 (d := md "Book" "__len__" "Book.__len__" (inClass (topS 68) 5) []) rfl
  have E_Book_len : Fun K "__len__" "Book.__len__" (inClass (topS 68) 5) _ fd_Book_len := fun_of D_Book_len
  obtain ⟨fd_Book_told, D_Book_told⟩ := c.def_ 56 (d := md "Book" "told" "Book.told" (inClass (topS 68) 6) []) rfl
  have E_Book_told : Fun K "told" "Book.told" (inClass (topS 68) 6) _ fd_Book_told := fun_of D_Book_told
  obtain ⟨fd_Book_drop, D_Book_drop⟩ := c.def_ 57 (d := md "Book" "drop" "Book.drop" (inClass (topS 68) 7) []) rfl
  have E_Book_drop : Fun K "drop" "Book.drop" (inClass (topS 68) 7) _ fd_Book_drop := fun_of D_Book_drop
  obtain ⟨fd_Book_copy, D_Book_copy⟩ := c.def_ 58 (d := md "Book" "copy" "Book.copy" (inClass (topS 68) 8) []) rfl
  have E_Book_copy : Fun K "copy" "Book.copy" (inClass (topS 68) 8) _ fd_Book_copy := fun_of D_Book_copy
  have g_is_integer := glo 0 "is_integer" rfl
  have g_is_list := glo 1 "is_list" rfl
  have g_is_name := glo 2 "is_name" rfl
  have g_first_wrong := glo 3 "first_wrong" rfl
  have g_choices := glo 4 "choices" rfl
  have g_choices_of := glo 5 "choices_of" rfl
  have g_rows_of_neighbours := glo 6 "rows_of_neighbours" rfl
  have g_lot_of := glo 7 "lot_of" rfl
  have g_check_named := glo 8 "check_named" rfl
  have g_numbers_by_lots := glo 9 "numbers_by_lots" rfl
  have g_added := glo 10 "added" rfl
  have g_counting := glo 11 "counting" rfl
  have g_refers := glo 12 "refers" rfl
  have g_freed := glo 13 "freed" rfl
  have g_shared := glo 14 "shared" rfl
  have g_just := glo 15 "just" rfl
  have g_sent := glo 16 "sent" rfl
  have g_whole := glo 17 "whole" rfl
  have g_place_in := glo 18 "place_in" rfl
  have g_is_end := glo 19 "is_end" rfl
  have g_ends_of := glo 20 "ends_of" rfl
  have g__law_start := glo 21 "_law_start" rfl
  have g__law_draw := glo 22 "_law_draw" rfl
  have g__law_pick := glo 23 "_law_pick" rfl
  have g__law_mixed := glo 24 "_law_mixed" rfl
  have g__law_same := glo 25 "_law_same" rfl
  have g__law_name := glo 26 "_law_name" rfl
  have g__law_names := glo 27 "_law_names" rfl
  have g__law_spare := glo 28 "_law_spare" rfl
  have g__law_b_rows := glo 29 "_law_b_rows" rfl
  have g__law_b_lots := glo 30 "_law_b_lots" rfl
  have g__law_b_house := glo 31 "_law_b_house" rfl
  have g__law_q_counted := glo 32 "_law_q_counted" rfl
  have g__law_q_made := glo 33 "_law_q_made" rfl
  have g__law_q_named := glo 34 "_law_q_named" rfl
  have g__law_q_drawn := glo 35 "_law_q_drawn" rfl
  have g__law_k_ends := glo 36 "_law_k_ends" rfl
  have g__law_shows := glo 37 "_law_shows" rfl
  have g__law_deed := glo 38 "_law_deed" rfl
  have g_law := glo 39 "law" rfl
  have g_BadFolders := glo 40 "BadFolders" rfl
  have g_NoFolder := glo 41 "NoFolder" rfl
  have g_Folders := glo 42 "Folders" rfl
  have g_Question := glo 43 "Question" rfl
  have g_Book := glo 44 "Book" rfl
  have e := hfa.symm.trans g_law
  cases e
  obtain ⟨t_LETTERS, k_LETTERS⟩ := He.str_ok X G (c.fact 45 (f := .str "LETTERS" "abcdefghijklmnopqrstuvwxyz") rfl)
  obtain ⟨t_LONGEST_NAME, k_LONGEST_NAME⟩ := He.int_ok X G (c.fact 46 (f := .int "LONGEST_NAME" 8) rfl)
  obtain ⟨t_MOST_FOLDERS, k_MOST_FOLDERS⟩ := He.int_ok X G (c.fact 47 (f := .int "MOST_FOLDERS" 5) rfl)
  obtain ⟨t_MOST_IN_CHAIN, k_MOST_IN_CHAIN⟩ := He.int_ok X G (c.fact 48 (f := .int "MOST_IN_CHAIN" 12) rfl)
  have M_BadFolders := He.meth_ok (c.fact 49 (f := .meth "BadFolders" "__init__") rfl)
  have T_BadFolders : ExT K mg "BadFolders" _ _ "index" := errB_ok xe_BadFolders g_BadFolders (He.noat_ok (c.fact 50 (f := .noat "BadFolders" "index") rfl)) M_BadFolders.at_ (He.exm_ok (c.fact 51 (f := .exm "BadFolders" "BadFolders" true) rfl))
  have M_NoFolder := He.meth_ok (c.fact 52 (f := .meth "NoFolder" "__init__") rfl)
  have T_NoFolder : ExT K mg "NoFolder" _ _ "name" := errB_ok xe_NoFolder g_NoFolder (He.noat_ok (c.fact 53 (f := .noat "NoFolder" "name") rfl)) M_NoFolder.at_ (He.exm_ok (c.fact 54 (f := .exm "NoFolder" "NoFolder" true) rfl))
  have cl_Folders := He.cls_ok (c.fact 55 (f := .cls "Folders") rfl)
  have a_Folders_names := He.noat_ok (c.fact 56 (f := .noat "Folders" "names") rfl)
  have a_Folders_chain := He.noat_ok (c.fact 57 (f := .noat "Folders" "chain") rfl)
  have a_Folders_places := He.noat_ok (c.fact 58 (f := .noat "Folders" "places") rfl)
  have r_Folders := He.mkr_ok (c.fact 59 (f := .mkr "Folders") rfl)
  have m_Folders_contains := He.meth_ok (c.fact 60 (f := .meth "Folders" "__contains__") rfl)
  have m_Folders_eq := He.meth_ok (c.fact 61 (f := .meth "Folders" "__eq__") rfl)
  have m_Folders_lots := He.meth_ok (c.fact 62 (f := .meth "Folders" "lots") rfl)
  have cl_Question := He.cls_ok (c.fact 63 (f := .cls "Question") rfl)
  have a_Question_folders := He.noat_ok (c.fact 64 (f := .noat "Question" "folders") rfl)
  have a_Question_table := He.noat_ok (c.fact 65 (f := .noat "Question" "table") rfl)
  have r_Question := He.mkr_ok (c.fact 66 (f := .mkr "Question") rfl)
  have m_Question_eq := He.meth_ok (c.fact 67 (f := .meth "Question" "__eq__") rfl)
  have m_Question_add := He.meth_ok (c.fact 68 (f := .meth "Question" "__add__") rfl)
  have m_Question_sub := He.meth_ok (c.fact 69 (f := .meth "Question" "__sub__") rfl)
  have cl_Book := He.cls_ok (c.fact 70 (f := .cls "Book") rfl)
  have a_Book_folders := He.noat_ok (c.fact 71 (f := .noat "Book" "folders") rfl)
  have a_Book_questions := He.noat_ok (c.fact 72 (f := .noat "Book" "questions") rfl)
  have a_Book_ends := He.noat_ok (c.fact 73 (f := .noat "Book" "ends") rfl)
  have r_Book := He.mkr_ok (c.fact 74 (f := .mkr "Book") rfl)
  have m_Book_getitem := He.meth_ok (c.fact 75 (f := .meth "Book" "__getitem__") rfl)
  have m_Book_setitem := He.meth_ok (c.fact 76 (f := .meth "Book" "__setitem__") rfl)
  have m_Book_iter := He.meth_ok (c.fact 77 (f := .meth "Book" "__iter__") rfl)
  have m_Book_contains := He.meth_ok (c.fact 78 (f := .meth "Book" "__contains__") rfl)
  have m_Book_len := He.meth_ok (c.fact 79 (f := .meth "Book" "__len__") rfl)
  have m_Book_told := He.meth_ok (c.fact 80 (f := .meth "Book" "told") rfl)
  have m_Book_drop := He.meth_ok (c.fact 81 (f := .meth "Book" "drop") rfl)
  have m_Book_copy := He.meth_ok (c.fact 82 (f := .meth "Book" "copy") rfl)
  have T : FolT K mg _ _ := ⟨g_Folders, cl_Folders, a_Folders_names, a_Folders_chain, a_Folders_places, r_Folders⟩
  obtain ⟨ds, dF, bF⟩ := FunD.binds0 (ps := ["self", "names", "chain"]) F_Folders_init 2 (fun z => by cases z) rfl fun D doc pm an cdv ct us ks hl hk => match us, hl, ks, hk with
    | [_, _], _, [_], _ => ⟨_, _, _, _, _, _, rfl, rfl, rfl⟩
  obtain ⟨mv, bK⟩ := FunD.kbinds0 (ps := ["self", "names", "chain"]) F_Folders_init 2 ["chain"] [] (fun us mz ws => us ++ ws) (fun z => by cases z) (fun _ m => nomatch m) (fun r1 _ r3 => r1.append r3) fun D doc pm an cdv ct us mv ws l1 l2 l3 => match us, l1, mv, l2, ws, l3 with
    | [_, _], _, [], _, [_], _ => rfl
  have bl : ∀ (s : Shared) (v : Value), BindsTo s fd_law ⟨[v], []⟩ [("_law_script", v)] := fun s v => FunD.bindsA (ps := ["_law_script"]) D_law (fun _ _ _ _ _ _ us hl => match us, hl with | [_], _ => rfl) s [v] rfl
  refine ⟨fd_law, bl, fun base _ _ => ?_⟩
  have c_is_list : Cal P w K mg base CX0 1 "is_list" _ fd_is_list ["thing"] (spIsList K) := ⟨ok_is_list B E_is_list, g_is_list, E_is_list.kp, E_is_list.binds (fun _ _ _ _ _ _ us hl => match us, hl with | [_], _ => rfl)⟩
  have c_is_name : Cal P w K mg base CX0 1 "is_name" _ fd_is_name ["thing"] (spIsName K) := ⟨ok_is_name B k_LETTERS k_LONGEST_NAME E_is_name, g_is_name, E_is_name.kp, E_is_name.binds (fun _ _ _ _ _ _ us hl => match us, hl with | [_], _ => rfl)⟩
  have c_first_wrong : Cal P w K mg base CX0 2 "first_wrong" _ fd_first_wrong ["names", "most"] (spFirstWrong K) := ⟨ok_first B c_is_list c_is_name E_first_wrong, g_first_wrong, E_first_wrong.kp, E_first_wrong.binds (fun _ _ _ _ _ _ us hl => match us, hl with | [_, _], _ => rfl)⟩
  have c_choices_of : Cal P w K mg base CX0 1 "choices_of" _ fd_choices_of ["things", "many"] (spChoicesOf K) := ⟨ok_choices_of B E_choices_of, g_choices_of, E_choices_of.kp, E_choices_of.binds (fun _ _ _ _ _ _ us hl => match us, hl with | [_, _], _ => rfl)⟩
  have c_choices : Cal P w K mg base CX0 2 "choices" _ fd_choices ["things"] (spChoices K) := ⟨ok_choices B c_choices_of E_choices, g_choices, E_choices.kp, E_choices.binds (fun _ _ _ _ _ _ us hl => match us, hl with | [_], _ => rfl)⟩
  have c_rows_of_neighbours : Cal P w K mg base CX0 1 "rows_of_neighbours" _ fd_rows_of_neighbours ["names"] spNeigh := ⟨ok_neigh B E_rows_of_neighbours, g_rows_of_neighbours, E_rows_of_neighbours.kp, E_rows_of_neighbours.binds (fun _ _ _ _ _ _ us hl => match us, hl with | [_], _ => rfl)⟩
  have c__law_start : Cal P w K mg base CX0 1 "_law_start" _ fd__law_start ["_law_script"] (spStart K) := ⟨ok_start B E__law_start, g__law_start, E__law_start.kp, E__law_start.binds (fun _ _ _ _ _ _ us hl => match us, hl with | [_], _ => rfl)⟩
  have c__law_draw : Cal P w K mg base CX0 1 "_law_draw" _ fd__law_draw ["_law_stream", "_law_many"] spDraw := ⟨ok_draw B E__law_draw, g__law_draw, E__law_draw.kp, E__law_draw.binds (fun _ _ _ _ _ _ us hl => match us, hl with | [_, _], _ => rfl)⟩
  have c__law_pick : Cal P w K mg base CX0 2 "_law_pick" _ fd__law_pick ["_law_stream", "_law_some"] (spPick K) := ⟨ok_pick B c__law_draw E__law_pick, g__law_pick, E__law_pick.kp, E__law_pick.binds (fun _ _ _ _ _ _ us hl => match us, hl with | [_, _], _ => rfl)⟩
  have b_same : Binds K fd__law_same ["_law_found", "_law_due"] [] := E__law_same.binds (fun _ _ _ _ _ _ us hl => match us, hl with | [_, _], _ => rfl)
  have c__law_same : Cal P w K mg base CX0 5 "_law_same" _ fd__law_same ["_law_found", "_law_due"] (spSame K 4) := ⟨ok_same B E__law_same g__law_same b_same 4, g__law_same, E__law_same.kp, b_same⟩
  have c__law_name : Cal P w K mg base CX0 3 "_law_name" _ fd__law_name ["_law_stream"] spName := ⟨ok_name B c__law_draw c__law_pick E__law_name, g__law_name, E__law_name.kp, E__law_name.binds (fun _ _ _ _ _ _ us hl => match us, hl with | [_], _ => rfl)⟩
  have c__law_names : Cal P w K mg base CX0 4 "_law_names" _ fd__law_names ["_law_stream", "_law_many"] (spNames K) := ⟨ok_names B c__law_name E__law_names, g__law_names, E__law_names.kp, E__law_names.binds (fun _ _ _ _ _ _ us hl => match us, hl with | [_, _], _ => rfl)⟩
  have c__law_spare : Cal P w K mg base CX0 1 "_law_spare" _ fd__law_spare ["_law_names_here"] (spSpare K) := ⟨ok_spare B E__law_spare, g__law_spare, E__law_spare.kp, E__law_spare.binds (fun _ _ _ _ _ _ us hl => match us, hl with | [_], _ => rfl)⟩
  have b_brows : Binds K fd__law_b_rows ["_law_many", "_law_left"] [] := E__law_b_rows.binds (fun _ _ _ _ _ _ us hl => match us, hl with | [_, _], _ => rfl)
  have c__law_b_rows : Cal P w K mg base CX0 7 "_law_b_rows" _ fd__law_b_rows ["_law_many", "_law_left"] (spRows K 6) := ⟨ok_brows B E__law_b_rows g__law_b_rows b_brows 6, g__law_b_rows, E__law_b_rows.kp, b_brows⟩
  have c__law_b_lots : Cal P w K mg base CX0 8 "_law_b_lots" _ fd__law_b_lots ["_law_names_here", "_law_is_chain"] (spBlots K) := ⟨ok_blots B c__law_b_rows E__law_b_lots, g__law_b_lots, E__law_b_lots.kp, E__law_b_lots.binds (fun _ _ _ _ _ _ us hl => match us, hl with | [_, _], _ => rfl)⟩
  have GF := ok_folders (P := P) (w := w) (base := base) B k_MOST_FOLDERS k_MOST_IN_CHAIN T_BadFolders T (ok_BF T_BadFolders E_BadFolders_init) (E_BadFolders_init.binds (fun _ _ _ _ _ _ us hl => match us, hl with | [_, _], _ => rfl)) c_first_wrong c_choices c_rows_of_neighbours F_Folders_init
  have GE := ok_feq (P := P) (w := w) (base := base) B T E_Folders_eq
  have bE : Binds K fd_Folders_eq ["self", "other"] [] := E_Folders_eq.binds (fun _ _ _ _ _ _ us hl => match us, hl with | [_, _], _ => rfl)
  have oE : Own K _ "__eq__" _ := ⟨m_Folders_eq.at_, m_Folders_eq.fn⟩
  have GI := ok_finA (P := P) (w := w) (base := base) B T GE bE oE (of_decide_eq_true m6) (of_decide_eq_true m5) E_Folders_contains
  have c_is_integer : Cal P w K mg base CX0 1 "is_integer" _ fd_is_integer ["thing"] (spIsInt K) := ⟨ok_is_int B E_is_integer, g_is_integer, E_is_integer.kp, E_is_integer.binds (fun _ _ _ _ _ _ us hl => match us, hl with | [_], _ => rfl)⟩
  have c_lot_of : Cal P w K mg base CX0 2 "lot_of" _ fd_lot_of ["folders", "thing"] (spLotOf K _) := ⟨ok_lot_of B T c_is_list E_lot_of, g_lot_of, E_lot_of.kp, E_lot_of.binds (fun _ _ _ _ _ _ us hl => match us, hl with | [_, _], _ => rfl)⟩
  have c_numbers_by_lots : Cal P w K mg base CX0 3 "numbers_by_lots" _ fd_numbers_by_lots ["folders", "weights"] (spNums K _) := ⟨ok_nums B T c_lot_of c_is_integer E_numbers_by_lots, g_numbers_by_lots, E_numbers_by_lots.kp, E_numbers_by_lots.binds (fun _ _ _ _ _ _ us hl => match us, hl with | [_, _], _ => rfl)⟩
  have TQ : QueT K mg _ _ := ⟨g_Question, cl_Question, a_Question_folders, a_Question_table, r_Question⟩
  obtain ⟨dq0, dqv, bQ0⟩ := FunD.binds1 (ps := ["self", "folders", "weights"]) F_Question_init 3 1 (fun z => by cases z) rfl fun T kV doc pm an cdv ct us its hl hi => match us, hl, its, hi with
    | [_, _, _], _, [_], _ => ⟨_, rfl, rfl⟩
  have bQ : Binds K fd_Question_init ["self", "folders", "weights"] [] := by
    cases dqv
    exact bQ0
  have GQ := ok_quest (P := P) (w := w) (base := base) B T TQ c_numbers_by_lots F_Question_init
  have oQ : Own K _ "__eq__" _ := ⟨m_Question_eq.at_, m_Question_eq.fn⟩
  have GQE := ok_qeq (P := P) (w := w) (base := base) B T TQ (of_decide_eq_true q4) (insB_ok xi_Question cl_Question) (of_decide_eq_true m4) m8 (insB_ok xi_Folders cl_Folders) GE bE oE E_Question_eq
  have GNF := ok_NF (P := P) (w := w) (base := base) T_NoFolder E_NoFolder_init
  have c_check_named : Cal P w K mg base (L2N.CX P w) 4 "check_named" _ fd_check_named ["folders", "names"] (spCheck K _ _) := ⟨ok_check B T T_NoFolder GNF (E_NoFolder_init.binds (fun _ _ _ _ _ _ us hl => match us, hl with | [_, _], _ => rfl)) GI (E_Folders_contains.binds (fun _ _ _ _ _ _ us hl => match us, hl with | [_, _], _ => rfl)) ⟨m_Folders_contains.at_, m_Folders_contains.fn⟩ c_is_list E_check_named, g_check_named, E_check_named.kp, E_check_named.binds (fun _ _ _ _ _ _ us hl => match us, hl with | [_, _], _ => rfl)⟩
  have c_counting : Cal P w K mg base CX0 6 "counting" _ fd_counting ["folders", "lots"] (spCounting _ _) := ⟨ok_counting B T TQ GQ bQ E_counting, g_counting, E_counting.kp, E_counting.binds (fun _ _ _ _ _ _ us hl => match us, hl with | [_, _], _ => rfl)⟩
  have c_refers : Cal P w K mg base (L2N.CX P w) 7 "refers" _ fd_refers ["folders", "names"] (spFn K _ _ _ cRefers) := ⟨ok_refers B T c_check_named c_counting E_refers, g_refers, E_refers.kp, E_refers.binds (fun _ _ _ _ _ _ us hl => match us, hl with | [_, _], _ => rfl)⟩
  have c_freed : Cal P w K mg base (L2N.CX P w) 7 "freed" _ fd_freed ["folders", "names"] (spFn K _ _ _ cFreed) := ⟨ok_freed B T c_check_named c_counting E_freed, g_freed, E_freed.kp, E_freed.binds (fun _ _ _ _ _ _ us hl => match us, hl with | [_, _], _ => rfl)⟩
  have c_shared : Cal P w K mg base (L2N.CX P w) 7 "shared" _ fd_shared ["folders", "names"] (spFn K _ _ _ cShared) := ⟨ok_shared B T c_check_named c_counting E_shared, g_shared, E_shared.kp, E_shared.binds (fun _ _ _ _ _ _ us hl => match us, hl with | [_, _], _ => rfl)⟩
  have c_just : Cal P w K mg base (L2N.CX P w) 7 "just" _ fd_just ["folders", "names"] (spFn K _ _ _ cJust) := ⟨ok_just B T c_check_named c_counting E_just, g_just, E_just.kp, E_just.binds (fun _ _ _ _ _ _ us hl => match us, hl with | [_, _], _ => rfl)⟩
  have c_sent : Cal P w K mg base (L2N.CX P w) 7 "sent" _ fd_sent ["folders", "one", "other"] (spSent K _ _ _) := ⟨ok_sent B T c_check_named c_counting E_sent, g_sent, E_sent.kp, E_sent.binds (fun _ _ _ _ _ _ us hl => match us, hl with | [_, _, _], _ => rfl)⟩
  have c_whole : Cal P w K mg base CX0 7 "whole" _ fd_whole ["folders"] (spWhole _ _) := ⟨ok_whole B T c_counting (ok_flots B T E_Folders_lots) (E_Folders_lots.binds (fun _ _ _ _ _ _ us hl => match us, hl with | [_], _ => rfl)) m_Folders_lots E_whole, g_whole, E_whole.kp, E_whole.binds (fun _ _ _ _ _ _ us hl => match us, hl with | [_], _ => rfl)⟩
  have bQE : Binds K fd_Question_eq ["self", "other"] [] := E_Question_eq.binds (fun _ _ _ _ _ _ us hl => match us, hl with | [_, _], _ => rfl)
  have c_added : Cal P w K mg base CX0 3 "added" _ fd_added ["one", "other", "sign"] (spAdded _ _) := ⟨ok_added B T TQ (of_decide_eq_true m4) (insB_ok xi_Folders cl_Folders) GE bE oE m3 E_added, g_added, E_added.kp, E_added.binds (fun _ _ _ _ _ _ us hl => match us, hl with | [_, _, _], _ => rfl)⟩
  have GP := ok_plus (P := P) (w := w) (base := base) B TQ GQ bQ c_added E_Question_add
  have GS := ok_minus (P := P) (w := w) (base := base) B TQ GQ bQ c_added E_Question_sub
  have bP : Binds K fd_Question_add ["self", "other"] [] := E_Question_add.binds (fun _ _ _ _ _ _ us hl => match us, hl with | [_, _], _ => rfl)
  have bS : Binds K fd_Question_sub ["self", "other"] [] := E_Question_sub.binds (fun _ _ _ _ _ _ us hl => match us, hl with | [_, _], _ => rfl)
  have c__law_mixed : Cal P w K mg base CX0 2 "_law_mixed" _ fd__law_mixed ["_law_stream", "_law_some"] (spMixed K) := ⟨ok_mixed B c__law_draw E__law_mixed, g__law_mixed, E__law_mixed.kp, E__law_mixed.binds (fun _ _ _ _ _ _ us hl => match us, hl with | [_, _], _ => rfl)⟩
  have c__law_q_counted : Cal P w K mg base CX0 1 "_law_q_counted" _ fd__law_q_counted ["_law_word", "_law_names_here", "_law_lots"] (spCounted K) := ⟨ok_counted B E__law_q_counted, g__law_q_counted, E__law_q_counted.kp, E__law_q_counted.binds (fun _ _ _ _ _ _ us hl => match us, hl with | [_, _, _], _ => rfl)⟩
  have c__law_q_made : Cal P w K mg base (L2N.CX P w) 8 "_law_q_made" _ fd__law_q_made ["_law_word", "_law_house", "_law_names_here"] (spMade K _ _ _) := ⟨ok_made B c_refers c_freed c_shared c_just c_sent c_whole E__law_q_made, g__law_q_made, E__law_q_made.kp, E__law_q_made.binds (fun _ _ _ _ _ _ us hl => match us, hl with | [_, _, _], _ => rfl)⟩
  have c__law_q_named : Cal P w K mg base CX0 9 "_law_q_named" _ fd__law_q_named ["_law_stream", "_law_house", "_law_names_here", "_law_lots"] (spNamed K _ _) := ⟨ok_named B c__law_draw c__law_pick c__law_mixed c__law_q_made c__law_q_counted E__law_q_named, g__law_q_named, E__law_q_named.kp, E__law_q_named.binds (fun _ _ _ _ _ _ us hl => match us, hl with | [_, _, _, _], _ => rfl)⟩
  have c__law_q_drawn : Cal P w K mg base CX0 10 "_law_q_drawn" _ fd__law_q_drawn ["_law_stream", "_law_house", "_law_names_here", "_law_lots"] (spAsked K _ _) := ⟨ok_asked B TQ u1 GQ bQ GP bP ⟨m_Question_add.at_, m_Question_add.fn⟩ GS bS ⟨m_Question_sub.at_, m_Question_sub.fn⟩ c__law_draw c__law_q_named E__law_q_drawn, g__law_q_drawn, E__law_q_drawn.kp, E__law_q_drawn.binds (fun _ _ _ _ _ _ us hl => match us, hl with | [_, _, _, _], _ => rfl)⟩
  have c__law_b_house : Cal P w K mg base CX0 9 "_law_b_house" _ fd__law_b_house ["_law_stream", "_law_most"] (spHouse K _) := ⟨ok_house B T GF bK c__law_draw c__law_names c__law_b_lots E__law_b_house, g__law_b_house, E__law_b_house.kp, E__law_b_house.binds (fun _ _ _ _ _ _ us hl => match us, hl with | [_, _], _ => rfl)⟩
  have c_place_in : Cal P w K mg base CX0 3 "place_in" _ fd_place_in ["questions", "thing"] (spPlaceIn _ _) := ⟨ok_place_in B GQE bQE oQ q8 (insB_ok xi_Question cl_Question) E_place_in, g_place_in, E_place_in.kp, E_place_in.binds (fun _ _ _ _ _ _ us hl => match us, hl with | [_, _], _ => rfl)⟩
  have c_is_end : Cal P w K mg base CX0 2 "is_end" _ fd_is_end ["thing"] spIsEnd := ⟨ok_is_end B c_is_integer E_is_end, g_is_end, E_is_end.kp, E_is_end.binds (fun _ _ _ _ _ _ us hl => match us, hl with | [_], _ => rfl)⟩
  have c_ends_of : Cal P w K mg base CX0 3 "ends_of" _ fd_ends_of ["told"] (spEndsOf K) := ⟨ok_ends_of B c_is_integer c_is_list c_is_end E_ends_of, g_ends_of, E_ends_of.kp, E_ends_of.binds (fun _ _ _ _ _ _ us hl => match us, hl with | [_], _ => rfl)⟩
  have TB : BooT K mg _ _ := ⟨g_Book, cl_Book, a_Book_folders, a_Book_questions, a_Book_ends, r_Book⟩
  have GBI := ok_bookI (C := (He.ga K "Folders")) (CQ := (He.ga K "Question")) (P := P) (w := w) (base := base) B TB E_Book_init
  have b_Book_init : Binds K fd_Book_init ["self", "folders"] [] := E_Book_init.binds (fun _ _ _ _ _ _ us hl => match us, hl with | [_, _], _ => rfl)
  have GBG := ok_bGet (P := P) (w := w) (base := base) B TB c_place_in E_Book_getitem
  have b_Book_getitem : Binds K fd_Book_getitem ["self", "at"] [] := E_Book_getitem.binds (fun _ _ _ _ _ _ us hl => match us, hl with | [_, _], _ => rfl)
  have GBS := ok_bSet (P := P) (w := w) (base := base) B TQ TB (of_decide_eq_true m4) (insB_ok xi_Folders cl_Folders) GE bE oE m3 c_place_in c_ends_of E_Book_setitem
  have b_Book_setitem : Binds K fd_Book_setitem ["self", "at", "worth"] [] := E_Book_setitem.binds (fun _ _ _ _ _ _ us hl => match us, hl with | [_, _, _], _ => rfl)
  have GBC := ok_bIn (P := P) (w := w) (base := base) B TB c_place_in E_Book_contains
  have b_Book_contains : Binds K fd_Book_contains ["self", "x"] [] := E_Book_contains.binds (fun _ _ _ _ _ _ us hl => match us, hl with | [_, _], _ => rfl)
  have GBL := ok_bLen (C := (He.ga K "Folders")) (CQ := (He.ga K "Question")) (P := P) (w := w) (base := base) B TB E_Book_len
  have b_Book_len : Binds K fd_Book_len ["self"] [] := E_Book_len.binds (fun _ _ _ _ _ _ us hl => match us, hl with | [_], _ => rfl)
  have GBT := ok_bTold (C := (He.ga K "Folders")) (CQ := (He.ga K "Question")) (P := P) (w := w) (base := base) B TB E_Book_told
  have b_Book_told : Binds K fd_Book_told ["self"] [] := E_Book_told.binds (fun _ _ _ _ _ _ us hl => match us, hl with | [_], _ => rfl)
  have GBD := ok_bDrop (P := P) (w := w) (base := base) B TB c_place_in E_Book_drop
  have b_Book_drop : Binds K fd_Book_drop ["self", "question"] [] := E_Book_drop.binds (fun _ _ _ _ _ _ us hl => match us, hl with | [_, _], _ => rfl)
  have GBY := ok_bCopy (P := P) (w := w) (base := base) B TB GBI b_Book_init E_Book_copy
  have b_Book_copy : Binds K fd_Book_copy ["self"] [] := E_Book_copy.binds (fun _ _ _ _ _ _ us hl => match us, hl with | [_], _ => rfl)
  have GBN := ok_bIter (C := (He.ga K "Folders")) (CQ := (He.ga K "Question")) (P := P) (w := w) (base := base) B n_iter TB E_Book_iter
  have b_Book_iter : Binds K fd_Book_iter ["self"] [] := E_Book_iter.binds (fun _ _ _ _ _ _ us hl => match us, hl with | [_], _ => rfl)
  have c__law_k_ends : Cal P w K mg base CX0 3 "_law_k_ends" _ fd__law_k_ends ["_law_stream", "_law_value"] spKEnds := ⟨ok_kends B c__law_draw c__law_pick E__law_k_ends, g__law_k_ends, E__law_k_ends.kp, E__law_k_ends.binds (fun _ _ _ _ _ _ us hl => match us, hl with | [_, _], _ => rfl)⟩
  have c__law_shows : Cal P w K mg base CX0 7 "_law_shows" _ fd__law_shows ["_law_book", "_law_told", "_law_strange"] (spShowsB _ _ _) := ⟨ok_showsB B TB GQE bQE oQ q3 GBT b_Book_told m_Book_told GBL b_Book_len ⟨m_Book_len.at_, m_Book_len.fn⟩ GBG b_Book_getitem ⟨m_Book_getitem.at_, m_Book_getitem.fn⟩ b1 GBC b_Book_contains ⟨m_Book_contains.at_, m_Book_contains.fn⟩ GBN b_Book_iter ⟨m_Book_iter.at_, m_Book_iter.fn⟩ c__law_same E__law_shows, g__law_shows, E__law_shows.kp, E__law_shows.binds (fun _ _ _ _ _ _ us hl => match us, hl with | [_, _, _], _ => rfl)⟩
  have c__law_deed : Cal P w K mg base CX0 11 "_law_deed" _ fd__law_deed ["_law_stream", "_law_book", "_law_told", "_law_house", "_law_names_here", "_law_lots"] (spDeedB _ _ _) := ⟨ok_deedB B TQ TB GQ bQ GBD b_Book_drop m_Book_drop GBS b_Book_setitem ⟨m_Book_setitem.at_, m_Book_setitem.fn⟩ b2 c__law_draw c__law_pick c__law_q_drawn c__law_k_ends E__law_deed, g__law_deed, E__law_deed.kp, E__law_deed.binds (fun _ _ _ _ _ _ us hl => match us, hl with | [_, _, _, _, _, _], _ => rfl)⟩
  exact ok_law B T TB GF bF dF GE bE oE m3 (of_decide_eq_true m4) (insB_ok xi_Folders cl_Folders) GBI b_Book_init GBY b_Book_copy m_Book_copy c__law_start c__law_draw c__law_spare c__law_b_house c__law_deed c__law_shows c_whole E_law
end Bk
open PySem PySem.W PySem.Calls PyProof.Rows
theorem PySem.Challenge.cw_blockshares_k10_books_told_holds : PySem.Challenge.rw_blockshares_k10_books_told.Holds := by
  w_on; o_law
  refine HandSHeadRun.head_any (r := Bk.RowL) (q := view Bk.RowL.prog [99]) (H := Bk.hkL) (ob := Bk.obL) (M := 13000) (d := HandSHeadRun.topDef Bk.RowL.prog 99) (kwd := []) Bk.obL_eq
    (by kernel_rfl) (fun s => by kernel_rfl) Bk.runL (by kernel_rfl) (by kernel_rfl) (by kernel_rfl) (by rfl) (by first | assumption | decide +kernel) (by decide +kernel) ⟨rfl, rfl, rfl, rfl, rfl, by decide +kernel⟩ ?hw ?hc
  case hw => w_witness2
  case hc =>
    refine L2.walk_ofE (l := PySem.Challenge.rw_blockshares_k10_books_told) (n := 63) (k := 12) (x := "_law_script") (CX := L2.CX0) rfl (by decide) (by kernel_rfl) ⟨rfl, by decide, by decide⟩ ?F (fun _ _ _ _ z => z)
    intro w mg fa h Y G hmg0
    obtain ⟨K, KX, c⟩ := Y
    have hmg : mg ("law" : PySem.Str) = some (.ref fa) := by
      have e : (HandSHeadRun.topDef Bk.RowL.prog 99).name = ("law" : PySem.Str) := by kernel_rfl
      rw [← e]
      exact hmg0
    obtain ⟨fd, hb, hF⟩ := Bk.factsL (P := (PySem.Challenge.rw_blockshares_k10_books_told).prog) (w := w) KX G hmg c
    exact ⟨K, fd, Bk.spLaw K, KX, hb, fun H a ns hl _ hS => ⟨a, ns, rfl, hS, fun _ => rfl⟩, hF⟩
