import PyProof.Rows.All
import Wide.All
import OpenK.AllK
import Wide.FinOn
import HandS.Head2
import HandS.HeadHook4
import HandS.HeadWalk
import HandS.ExcField
import HandS.ExcIs
import HandS.ExcInit
import HandS.NestedK
import HandS.Words
import KE.KExcSuper
import HandS.SetKeys
import HandS.CallRecv
import KE.KDictCopyH
import KE.KDictLaw
import KE.KDictLaws
import HandS.ForExc
import HandS.More
import HandS.TupAny
import HandS.IsInst
import HandS.Walk
import HandS.Flow
import HandS.Text
import HandS.Lambda
import HandS.Dict
import HandS.Conv
import HandS.Style
import HandS.AnyAll
import HandS.SetFor
import HandS.Defaults
import HandS.CallLocal
import HandS.Star
import HandS.Iter
import HandS.ExcValue
import HandS.EndTab
import KE.KExcIs
import PySem.Challenge.RW_livehall_k05_kinds_made
set_option Elab.async false
set_option linter.all false
set_option maxRecDepth 100000
namespace B1
open PySem PySem.Spec PyProof.Rows L2
def top (i : Nat) : Stmt := PySem.Challenge.pw_livehall_k05_kinds_made.main.body.getD i (.Pass ⟨0, 0, 0, 0⟩)
def cm (i j : Nat) : Stmt := match top i with
  | .ClassDef _ _ _ b _ _ _ _ _ _ _ => b.getD j (.Pass ⟨0, 0, 0, 0⟩)
  | _ => .Pass ⟨0, 0, 0, 0⟩
end B1
set_option maxRecDepth 100000
set_option maxHeartbeats 0
namespace H5
namespace pre
open PySem PySem.W B1 L2
noncomputable section
def AM26x0 := defArgs (cm 26 0)
def BM26x0 := defBody (cm 26 0)
def SM26x0 := defScope (cm 26 0)
def AM27x0 := defArgs (cm 27 0)
def BM27x0 := defBody (cm 27 0)
def SM27x0 := defScope (cm 27 0)
def AM28x0 := defArgs (cm 28 0)
def BM28x0 := defBody (cm 28 0)
def SM28x0 := defScope (cm 28 0)
def AM29x0 := defArgs (cm 29 0)
def BM29x0 := defBody (cm 29 0)
def SM29x0 := defScope (cm 29 0)
def AM30x0 := defArgs (cm 30 0)
def BM30x0 := defBody (cm 30 0)
def SM30x0 := defScope (cm 30 0)
def AM38x0 := defArgs (cm 38 0)
def BM38x0 := defBody (cm 38 0)
def SM38x0 := defScope (cm 38 0)
def AM48x0 := defArgs (cm 48 0)
def BM48x0 := defBody (cm 48 0)
def SM48x0 := defScope (cm 48 0)
def AM48x1 := defArgs (cm 48 1)
def BM48x1 := defBody (cm 48 1)
def SM48x1 := defScope (cm 48 1)
def AM48x2 := defArgs (cm 48 2)
def BM48x2 := defBody (cm 48 2)
def SM48x2 := defScope (cm 48 2)
def AM48x3 := defArgs (cm 48 3)
def BM48x3 := defBody (cm 48 3)
def SM48x3 := defScope (cm 48 3)
def AM48x4 := defArgs (cm 48 4)
def BM48x4 := defBody (cm 48 4)
def SM48x4 := defScope (cm 48 4)
def AM55x0 := defArgs (cm 55 0)
def BM55x0 := defBody (cm 55 0)
def SM55x0 := defScope (cm 55 0)
def AM57x0 := defArgs (cm 57 0)
def BM57x0 := defBody (cm 57 0)
def SM57x0 := defScope (cm 57 0)
def AM58x0 := defArgs (cm 58 0)
def BM58x0 := defBody (cm 58 0)
def SM58x0 := defScope (cm 58 0)
def AM85x0 := defArgs (cm 85 0)
def BM85x0 := defBody (cm 85 0)
def SM85x0 := defScope (cm 85 0)
def AM87x0 := defArgs (cm 87 0)
def BM87x0 := defBody (cm 87 0)
def SM87x0 := defScope (cm 87 0)
def AM87x1 := defArgs (cm 87 1)
def BM87x1 := defBody (cm 87 1)
def SM87x1 := defScope (cm 87 1)
def AM87x2 := defArgs (cm 87 2)
def BM87x2 := defBody (cm 87 2)
def SM87x2 := defScope (cm 87 2)
def AM87x3 := defArgs (cm 87 3)
def BM87x3 := defBody (cm 87 3)
def SM87x3 := defScope (cm 87 3)
def AM87x4 := defArgs (cm 87 4)
def BM87x4 := defBody (cm 87 4)
def SM87x4 := defScope (cm 87 4)
def AT0 := defArgs (top 0)
def BT0 := defBody (top 0)
def ST0 := defScope (top 0)
def AT10 := defArgs (top 10)
def BT10 := defBody (top 10)
def ST10 := defScope (top 10)
def AT100 := defArgs (top 100)
def BT100 := defBody (top 100)
def ST100 := defScope (top 100)
def AT101 := defArgs (top 101)
def BT101 := defBody (top 101)
def ST101 := defScope (top 101)
def AT102 := defArgs (top 102)
def BT102 := defBody (top 102)
def ST102 := defScope (top 102)
def AT103 := defArgs (top 103)
def BT103 := defBody (top 103)
def ST103 := defScope (top 103)
def AT16 := defArgs (top 16)
def BT16 := defBody (top 16)
def ST16 := defScope (top 16)
def AT17 := defArgs (top 17)
def BT17 := defBody (top 17)
def ST17 := defScope (top 17)
def AT18 := defArgs (top 18)
def BT18 := defBody (top 18)
def ST18 := defScope (top 18)
def AT19 := defArgs (top 19)
def BT19 := defBody (top 19)
def ST19 := defScope (top 19)
def AT20 := defArgs (top 20)
def BT20 := defBody (top 20)
def ST20 := defScope (top 20)
def AT21 := defArgs (top 21)
def BT21 := defBody (top 21)
def ST21 := defScope (top 21)
def AT22 := defArgs (top 22)
def BT22 := defBody (top 22)
def ST22 := defScope (top 22)
def AT23 := defArgs (top 23)
def BT23 := defBody (top 23)
def ST23 := defScope (top 23)
def AT4 := defArgs (top 4)
def BT4 := defBody (top 4)
def ST4 := defScope (top 4)
def AT49 := defArgs (top 49)
def BT49 := defBody (top 49)
def ST49 := defScope (top 49)
def AT5 := defArgs (top 5)
def BT5 := defBody (top 5)
def ST5 := defScope (top 5)
def AT50 := defArgs (top 50)
def BT50 := defBody (top 50)
def ST50 := defScope (top 50)
def AT51 := defArgs (top 51)
def BT51 := defBody (top 51)
def ST51 := defScope (top 51)
def AT52 := defArgs (top 52)
def BT52 := defBody (top 52)
def ST52 := defScope (top 52)
def AT53 := defArgs (top 53)
def BT53 := defBody (top 53)
def ST53 := defScope (top 53)
def AT54 := defArgs (top 54)
def BT54 := defBody (top 54)
def ST54 := defScope (top 54)
def AT59 := defArgs (top 59)
def BT59 := defBody (top 59)
def ST59 := defScope (top 59)
def AT6 := defArgs (top 6)
def BT6 := defBody (top 6)
def ST6 := defScope (top 6)
def AT60 := defArgs (top 60)
def BT60 := defBody (top 60)
def ST60 := defScope (top 60)
def AT61 := defArgs (top 61)
def BT61 := defBody (top 61)
def ST61 := defScope (top 61)
def AT62 := defArgs (top 62)
def BT62 := defBody (top 62)
def ST62 := defScope (top 62)
def AT63 := defArgs (top 63)
def BT63 := defBody (top 63)
def ST63 := defScope (top 63)
def AT64 := defArgs (top 64)
def BT64 := defBody (top 64)
def ST64 := defScope (top 64)
def AT65 := defArgs (top 65)
def BT65 := defBody (top 65)
def ST65 := defScope (top 65)
def AT66 := defArgs (top 66)
def BT66 := defBody (top 66)
def ST66 := defScope (top 66)
def AT67 := defArgs (top 67)
def BT67 := defBody (top 67)
def ST67 := defScope (top 67)
def AT68 := defArgs (top 68)
def BT68 := defBody (top 68)
def ST68 := defScope (top 68)
def AT69 := defArgs (top 69)
def BT69 := defBody (top 69)
def ST69 := defScope (top 69)
def AT7 := defArgs (top 7)
def BT7 := defBody (top 7)
def ST7 := defScope (top 7)
def AT70 := defArgs (top 70)
def BT70 := defBody (top 70)
def ST70 := defScope (top 70)
def AT72 := defArgs (top 72)
def BT72 := defBody (top 72)
def ST72 := defScope (top 72)
def AT73 := defArgs (top 73)
def BT73 := defBody (top 73)
def ST73 := defScope (top 73)
def AT74 := defArgs (top 74)
def BT74 := defBody (top 74)
def ST74 := defScope (top 74)
def AT75 := defArgs (top 75)
def BT75 := defBody (top 75)
def ST75 := defScope (top 75)
def AT76 := defArgs (top 76)
def BT76 := defBody (top 76)
def ST76 := defScope (top 76)
def AT77 := defArgs (top 77)
def BT77 := defBody (top 77)
def ST77 := defScope (top 77)
def AT78 := defArgs (top 78)
def BT78 := defBody (top 78)
def ST78 := defScope (top 78)
def AT79 := defArgs (top 79)
def BT79 := defBody (top 79)
def ST79 := defScope (top 79)
def AT8 := defArgs (top 8)
def BT8 := defBody (top 8)
def ST8 := defScope (top 8)
def AT80 := defArgs (top 80)
def BT80 := defBody (top 80)
def ST80 := defScope (top 80)
def AT81 := defArgs (top 81)
def BT81 := defBody (top 81)
def ST81 := defScope (top 81)
def AT82 := defArgs (top 82)
def BT82 := defBody (top 82)
def ST82 := defScope (top 82)
def AT83 := defArgs (top 83)
def BT83 := defBody (top 83)
def ST83 := defScope (top 83)
def AT86 := defArgs (top 86)
def BT86 := defBody (top 86)
def ST86 := defScope (top 86)
def AT89 := defArgs (top 89)
def BT89 := defBody (top 89)
def ST89 := defScope (top 89)
def AT9 := defArgs (top 9)
def BT9 := defBody (top 9)
def ST9 := defScope (top 9)
def AT90 := defArgs (top 90)
def BT90 := defBody (top 90)
def ST90 := defScope (top 90)
def AT91 := defArgs (top 91)
def BT91 := defBody (top 91)
def ST91 := defScope (top 91)
def AT92 := defArgs (top 92)
def BT92 := defBody (top 92)
def ST92 := defScope (top 92)
def AT93 := defArgs (top 93)
def BT93 := defBody (top 93)
def ST93 := defScope (top 93)
def AT94 := defArgs (top 94)
def BT94 := defBody (top 94)
def ST94 := defScope (top 94)
def AT95 := defArgs (top 95)
def BT95 := defBody (top 95)
def ST95 := defScope (top 95)
def AT96 := defArgs (top 96)
def BT96 := defBody (top 96)
def ST96 := defScope (top 96)
def AT97 := defArgs (top 97)
def BT97 := defBody (top 97)
def ST97 := defScope (top 97)
def AT98 := defArgs (top 98)
def BT98 := defBody (top 98)
def ST98 := defScope (top 98)
def AT99 := defArgs (top 99)
def BT99 := defBody (top 99)
def ST99 := defScope (top 99)
def o_1 : Params → Obj := fun P => { cls := Value.type "tuple", data := Data.seq #[] }
def o_3 : Params → Obj := fun P => { cls := Value.type "code", data := Data.fields #[Value.str (Str.ofString "<module>") 182, Value.str (Str.ofString "<module>") 183, Value.str (Str.ofString "/claim/cut.py") 184, Value.int 1 0, Value.int 0 0, Value.int 0 0, Value.int 0 0, Value.int 0 0, Value.ref 11, Value.bool false, Value.int 181 0, Value.ref 12, Value.none, Value.none, Value.none, Value.none, Value.int 185 0, Value.int 1 0, Value.str (Str.ofString "/claim/cut.py") 186] }
def o_2 : Params → Obj := fun P => { cls := Value.none, data := Data.fields #[] }
def o_4 : Params → Obj := fun P => { cls := Value.type "frame", slots := #[some (Value.ref 13), some (Value.ref 3), some (Value.ref 3), none, some (Value.str (Str.ofString "__main__") 164), none, some (Value.ref 0)] }
def tree_4 : Params → BT := fun P => BT.node (boot_o_0 P) (BT.node (boot_o_1 P) (BT.node (boot_o_3 P) (BT.node (boot_o_7 P) BT.nil BT.nil) (BT.node (o_1 P) BT.nil BT.nil)) (BT.node (boot_o_5 P) (BT.node (boot_o_9 P) BT.nil BT.nil) (BT.node (o_3 P) BT.nil BT.nil))) (BT.node (boot_o_2 P) (BT.node (boot_o_4 P) (BT.node (boot_o_8 P) BT.nil BT.nil) (BT.node (o_2 P) BT.nil BT.nil)) (BT.node (boot_o_6 P) (BT.node (boot_o_10 P) BT.nil BT.nil) (BT.node (o_4 P) BT.nil BT.nil)))
def o_1025 : Params → Obj := fun P => { cls := Value.type "dict", data := Data.dict #[{ hash := PyData.keyHash P (Str.ofString "__name__"), key := Value.str (Str.ofString "__name__") 165, val := Value.str (Str.ofString "livehall.kinds") 1374 }, { hash := PyData.keyHash P (Str.ofString "__doc__"), key := Value.str (Str.ofString "__doc__") 166, val := Value.none }, { hash := PyData.keyHash P (Str.ofString "__package__"), key := Value.str (Str.ofString "__package__") 167, val := Value.none }, { hash := PyData.keyHash P (Str.ofString "__loader__"), key := Value.str (Str.ofString "__loader__") 168, val := Value.builtin "__main__.__loader__#opaque" }, { hash := PyData.keyHash P (Str.ofString "__spec__"), key := Value.str (Str.ofString "__spec__") 169, val := Value.none }, { hash := PyData.keyHash P (Str.ofString "__annotations__"), key := Value.str (Str.ofString "__annotations__") 170, val := Value.ref 6 }, { hash := PyData.keyHash P (Str.ofString "__builtins__"), key := Value.str (Str.ofString "__builtins__") 171, val := Value.ref 4 }, { hash := PyData.keyHash P (Str.ofString "__file__"), key := Value.str (Str.ofString "__file__") 173, val := Value.str (Str.ofString "/claim/cut.py") 172 }, { hash := PyData.keyHash P (Str.ofString "__cached__"), key := Value.str (Str.ofString "__cached__") 174, val := Value.none }, { hash := PyData.keyHash P (Str.ofString "_wall"), key := Value.str (Str.ofString "_wall") 193, val := Value.ref 21 }, { hash := PyData.keyHash P (Str.ofString "NAME_LETTERS"), key := Value.str (Str.ofString "NAME_LETTERS") 197, val := Value.int 12 196 }, { hash := PyData.keyHash P (Str.ofString "TEXT_SIGNS"), key := Value.str (Str.ofString "TEXT_SIGNS") 199, val := Value.int 40 198 }, { hash := PyData.keyHash P (Str.ofString "all_between"), key := Value.str (Str.ofString "all_between") 205, val := Value.ref 26 }, { hash := PyData.keyHash P (Str.ofString "is_name"), key := Value.str (Str.ofString "is_name") 212, val := Value.ref 33 }, { hash := PyData.keyHash P (Str.ofString "is_short_text"), key := Value.str (Str.ofString "is_short_text") 219, val := Value.ref 40 }, { hash := PyData.keyHash P (Str.ofString "is_plain_value"), key := Value.str (Str.ofString "is_plain_value") 226, val := Value.ref 47 }, { hash := PyData.keyHash P (Str.ofString "is_whole"), key := Value.str (Str.ofString "is_whole") 233, val := Value.ref 54 }, { hash := PyData.keyHash P (Str.ofString "same_leaf"), key := Value.str (Str.ofString "same_leaf") 241, val := Value.ref 61 }, { hash := PyData.keyHash P (Str.ofString "same"), key := Value.str (Str.ofString "same") 252, val := Value.ref 68 }, { hash := PyData.keyHash P (Str.ofString "ROWS"), key := Value.str (Str.ofString "ROWS") 286, val := Value.ref 69 }, { hash := PyData.keyHash P (Str.ofString "ES"), key := Value.str (Str.ofString "ES") 330, val := Value.ref 78 }, { hash := PyData.keyHash P (Str.ofString "MANY"), key := Value.str (Str.ofString "MANY") 337, val := Value.ref 91 }, { hash := PyData.keyHash P (Str.ofString "LEAVES"), key := Value.str (Str.ofString "LEAVES") 343, val := Value.ref 92 }, { hash := PyData.keyHash P (Str.ofString "is_leaf"), key := Value.str (Str.ofString "is_leaf") 351, val := Value.ref 99 }, { hash := PyData.keyHash P (Str.ofString "shape_of"), key := Value.str (Str.ofString "shape_of") 359, val := Value.ref 106 }, { hash := PyData.keyHash P (Str.ofString "parts_of"), key := Value.str (Str.ofString "parts_of") 365, val := Value.ref 111 }, { hash := PyData.keyHash P (Str.ofString "is_body"), key := Value.str (Str.ofString "is_body") 376, val := Value.ref 118 }, { hash := PyData.keyHash P (Str.ofString "parts_in"), key := Value.str (Str.ofString "parts_in") 387, val := Value.ref 125 }, { hash := PyData.keyHash P (Str.ofString "leaves_in"), key := Value.str (Str.ofString "leaves_in") 393, val := Value.ref 130 }, { hash := PyData.keyHash P (Str.ofString "kinds_in"), key := Value.str (Str.ofString "kinds_in") 400, val := Value.ref 137 }, { hash := PyData.keyHash P (Str.ofString "renamed"), key := Value.str (Str.ofString "renamed") 415, val := Value.ref 144 }, { hash := PyData.keyHash P (Str.ofString "HallError"), key := Value.str (Str.ofString "HallError") 435, val := Value.ref 154 }, { hash := PyData.keyHash P (Str.ofString "BadName"), key := Value.str (Str.ofString "BadName") 462, val := Value.ref 176 }, { hash := PyData.keyHash P (Str.ofString "Known"), key := Value.str (Str.ofString "Known") 489, val := Value.ref 197 }, { hash := PyData.keyHash P (Str.ofString "NoKind"), key := Value.str (Str.ofString "NoKind") 516, val := Value.ref 218 }, { hash := PyData.keyHash P (Str.ofString "NoField"), key := Value.str (Str.ofString "NoField") 543, val := Value.ref 239 }, { hash := PyData.keyHash P (Str.ofString "BadField"), key := Value.str (Str.ofString "BadField") 570, val := Value.ref 260 }, { hash := PyData.keyHash P (Str.ofString "Fixed"), key := Value.str (Str.ofString "Fixed") 586, val := Value.ref 272 }, { hash := PyData.keyHash P (Str.ofString "Ring"), key := Value.str (Str.ofString "Ring") 602, val := Value.ref 284 }, { hash := PyData.keyHash P (Str.ofString "InUse"), key := Value.str (Str.ofString "InUse") 618, val := Value.ref 296 }, { hash := PyData.keyHash P (Str.ofString "BadBody"), key := Value.str (Str.ofString "BadBody") 634, val := Value.ref 308 }, { hash := PyData.keyHash P (Str.ofString "NoWay"), key := Value.str (Str.ofString "NoWay") 650, val := Value.ref 320 }, { hash := PyData.keyHash P (Str.ofString "NoThing"), key := Value.str (Str.ofString "NoThing") 666, val := Value.ref 332 }, { hash := PyData.keyHash P (Str.ofString "BadValue"), key := Value.str (Str.ofString "BadValue") 682, val := Value.ref 344 }, { hash := PyData.keyHash P (Str.ofString "NoName"), key := Value.str (Str.ofString "NoName") 709, val := Value.ref 365 }, { hash := PyData.keyHash P (Str.ofString "Same"), key := Value.str (Str.ofString "Same") 725, val := Value.ref 377 }, { hash := PyData.keyHash P (Str.ofString "NoRun"), key := Value.str (Str.ofString "NoRun") 741, val := Value.ref 389 }, { hash := PyData.keyHash P (Str.ofString "Ended"), key := Value.str (Str.ofString "Ended") 757, val := Value.ref 401 }, { hash := PyData.keyHash P (Str.ofString "NoAsk"), key := Value.str (Str.ofString "NoAsk") 773, val := Value.ref 413 }, { hash := PyData.keyHash P (Str.ofString "NoFrame"), key := Value.str (Str.ofString "NoFrame") 789, val := Value.ref 425 }, { hash := PyData.keyHash P (Str.ofString "NoBack"), key := Value.str (Str.ofString "NoBack") 805, val := Value.ref 437 }, { hash := PyData.keyHash P (Str.ofString "NoText"), key := Value.str (Str.ofString "NoText") 821, val := Value.ref 449 }, { hash := PyData.keyHash P (Str.ofString "PAIRS"), key := Value.str (Str.ofString "PAIRS") 829, val := Value.ref 452 }, { hash := PyData.keyHash P (Str.ofString "Builder"), key := Value.str (Str.ofString "Builder") 890, val := Value.ref 495 }, { hash := PyData.keyHash P (Str.ofString "when_orders"), key := Value.str (Str.ofString "when_orders") 900, val := Value.ref 506 }, { hash := PyData.keyHash P (Str.ofString "while_orders"), key := Value.str (Str.ofString "while_orders") 910, val := Value.ref 513 }, { hash := PyData.keyHash P (Str.ofString "try_orders"), key := Value.str (Str.ofString "try_orders") 920, val := Value.ref 520 }, { hash := PyData.keyHash P (Str.ofString "row_orders"), key := Value.str (Str.ofString "row_orders") 928, val := Value.ref 527 }, { hash := PyData.keyHash P (Str.ofString "e_orders"), key := Value.str (Str.ofString "e_orders") 934, val := Value.ref 532 }, { hash := PyData.keyHash P (Str.ofString "steps_of"), key := Value.str (Str.ofString "steps_of") 940, val := Value.ref 537 }, { hash := PyData.keyHash P (Str.ofString "Way"), key := Value.str (Str.ofString "Way") 973, val := Value.ref 554 }, { hash := PyData.keyHash P (Str.ofString "Frame"), key := Value.str (Str.ofString "Frame") 1017, val := Value.ref 575 }, { hash := PyData.keyHash P (Str.ofString "Run"), key := Value.str (Str.ofString "Run") 1048, val := Value.ref 596 }, { hash := PyData.keyHash P (Str.ofString "first_frame"), key := Value.str (Str.ofString "first_frame") 1054, val := Value.ref 605 }, { hash := PyData.keyHash P (Str.ofString "copied"), key := Value.str (Str.ofString "copied") 1062, val := Value.ref 612 }, { hash := PyData.keyHash P (Str.ofString "chain"), key := Value.str (Str.ofString "chain") 1071, val := Value.ref 619 }, { hash := PyData.keyHash P (Str.ofString "begun"), key := Value.str (Str.ofString "begun") 1078, val := Value.ref 626 }, { hash := PyData.keyHash P (Str.ofString "halted_runs"), key := Value.str (Str.ofString "halted_runs") 1084, val := Value.ref 631 }, { hash := PyData.keyHash P (Str.ofString "change_frames"), key := Value.str (Str.ofString "change_frames") 1097, val := Value.ref 638 }, { hash := PyData.keyHash P (Str.ofString "frame_values"), key := Value.str (Str.ofString "frame_values") 1104, val := Value.ref 645 }, { hash := PyData.keyHash P (Str.ofString "run_values"), key := Value.str (Str.ofString "run_values") 1110, val := Value.ref 650 }, { hash := PyData.keyHash P (Str.ofString "step_of"), key := Value.str (Str.ofString "step_of") 1117, val := Value.ref 657 }, { hash := PyData.keyHash P (Str.ofString "ready_ask"), key := Value.str (Str.ofString "ready_ask") 1127, val := Value.ref 664 }, { hash := PyData.keyHash P (Str.ofString "take_ready"), key := Value.str (Str.ofString "take_ready") 1136, val := Value.ref 671 }, { hash := PyData.keyHash P (Str.ofString "put_ready"), key := Value.str (Str.ofString "put_ready") 1145, val := Value.ref 678 }, { hash := PyData.keyHash P (Str.ofString "kind_number"), key := Value.str (Str.ofString "kind_number") 1155, val := Value.ref 685 }, { hash := PyData.keyHash P (Str.ofString "kind_name"), key := Value.str (Str.ofString "kind_name") 1163, val := Value.ref 692 }, { hash := PyData.keyHash P (Str.ofString "kind_names"), key := Value.str (Str.ofString "kind_names") 1169, val := Value.ref 697 }, { hash := PyData.keyHash P (Str.ofString "line_numbers"), key := Value.str (Str.ofString "line_numbers") 1178, val := Value.ref 704 }, { hash := PyData.keyHash P (Str.ofString "heirs_by_elder"), key := Value.str (Str.ofString "heirs_by_elder") 1187, val := Value.ref 711 }, { hash := PyData.keyHash P (Str.ofString "heir_numbers"), key := Value.str (Str.ofString "heir_numbers") 1195, val := Value.ref 718 }, { hash := PyData.keyHash P (Str.ofString "numbers_below"), key := Value.str (Str.ofString "numbers_below") 1207, val := Value.ref 725 }, { hash := PyData.keyHash P (Str.ofString "line_fields"), key := Value.str (Str.ofString "line_fields") 1217, val := Value.ref 732 }, { hash := PyData.keyHash P (Str.ofString "line_weak"), key := Value.str (Str.ofString "line_weak") 1227, val := Value.ref 739 }, { hash := PyData.keyHash P (Str.ofString "own_fields"), key := Value.str (Str.ofString "own_fields") 1233, val := Value.ref 744 }, { hash := PyData.keyHash P (Str.ofString "finder"), key := Value.str (Str.ofString "finder") 1243, val := Value.ref 751 }, { hash := PyData.keyHash P (Str.ofString "things_of"), key := Value.str (Str.ofString "things_of") 1249, val := Value.ref 756 }, { hash := PyData.keyHash P (Str.ofString "Kind"), key := Value.str (Str.ofString "Kind") 1288, val := Value.ref 773 }, { hash := PyData.keyHash P (Str.ofString "lay_row"), key := Value.str (Str.ofString "lay_row") 1297, val := Value.ref 784 }, { hash := PyData.keyHash P (Str.ofString "Store"), key := Value.str (Str.ofString "Store") 1373, val := Value.ref 829 }, { hash := PyData.keyHash P (Str.ofString "check_new_name"), key := Value.str (Str.ofString "check_new_name") 1383, val := Value.ref 840 }, { hash := PyData.keyHash P (Str.ofString "check_own_fields"), key := Value.str (Str.ofString "check_own_fields") 1393, val := Value.ref 847 }, { hash := PyData.keyHash P (Str.ofString "make_kind"), key := Value.str (Str.ofString "make_kind") 1399, val := Value.ref 852 }, { hash := PyData.keyHash P (Str.ofString "check_gone"), key := Value.str (Str.ofString "check_gone") 1408, val := Value.ref 859 }, { hash := PyData.keyHash P (Str.ofString "check_come"), key := Value.str (Str.ofString "check_come") 1418, val := Value.ref 866 }, { hash := PyData.keyHash P (Str.ofString "refit"), key := Value.str (Str.ofString "refit") 1424, val := Value.ref 871 }, { hash := PyData.keyHash P (Str.ofString "renamed_way"), key := Value.str (Str.ofString "renamed_way") 1430, val := Value.ref 876 }, { hash := PyData.keyHash P (Str.ofString "rename_in_kinds"), key := Value.str (Str.ofString "rename_in_kinds") 1436, val := Value.ref 881 }, { hash := PyData.keyHash P (Str.ofString "rename_fields"), key := Value.str (Str.ofString "rename_fields") 1442, val := Value.ref 886 }, { hash := PyData.keyHash P (Str.ofString "rename_made"), key := Value.str (Str.ofString "rename_made") 1453, val := Value.ref 893 }, { hash := PyData.keyHash P (Str.ofString "reshape"), key := Value.str (Str.ofString "reshape") 1459, val := Value.ref 898 }, { hash := PyData.keyHash P (Str.ofString "move_kind"), key := Value.str (Str.ofString "move_kind") 1474, val := Value.ref 905 }, { hash := PyData.keyHash P (Str.ofString "rename_kind"), key := Value.str (Str.ofString "rename_kind") 1485, val := Value.ref 912 }, { hash := PyData.keyHash P (Str.ofString "is_made"), key := Value.str (Str.ofString "is_made") 1491, val := Value.ref 917 }, { hash := PyData.keyHash P (Str.ofString "drop_kind"), key := Value.str (Str.ofString "drop_kind") 1500, val := Value.ref 924 }] 105 }
def o_7 : Params → Obj := fun P => { cls := Value.type "tuple", data := Data.seq #[] }
def o_23 : Params → Obj := fun P => { cls := Value.none, data := Data.func { name := Str.ofString "is_name", qualname := Str.ofString "is_name", params := AT5, body := FuncBody.stmts BT5, scope := ST5, globals := 0, closure := [], defaults := Value.none, kwdefaults := Value.none } }
def o_55 : Params → Obj := fun P => { cls := Value.none, data := Data.fields #[] }
def o_126 : Params → Obj := fun P => { cls := Value.none, data := Data.fields #[] }
def o_279 : Params → Obj := fun P => { cls := Value.none, data := Data.func { name := Str.ofString "__init__", qualname := Str.ofString "BadField.__init__", params := AM30x0, body := FuncBody.stmts BM30x0, scope := SM30x0, globals := 0, closure := [], defaults := Value.none, kwdefaults := Value.none } }
def o_601 : Params → Obj := fun P => { cls := Value.none, data := Data.func { name := Str.ofString "while_orders", qualname := Str.ofString "while_orders", params := AT50, body := FuncBody.stmts BT50, scope := ST50, globals := 0, closure := [], defaults := Value.none, kwdefaults := Value.none } }
def o_872 : Params → Obj := fun P => { cls := Value.type "tuple", data := Data.seq #[] }
def o_447 : Params → Obj := fun P => { cls := Value.type "tuple", data := Data.seq #[] }
def o_738 : Params → Obj := fun P => { cls := Value.type "tuple", data := Data.seq #[] }
def o_1006 : Params → Obj := fun P => { cls := Value.none, data := Data.fields #[] }
def o_203 : Params → Obj := fun P => { cls := Value.type "tuple", data := Data.seq #[] }
def o_363 : Params → Obj := fun P => { cls := Value.type "dict", data := Data.dict #[{ hash := PyData.keyHash P (Str.ofString "__module__"), key := Value.str (Str.ofString "__module__") 642, val := Value.str (Str.ofString "livehall.errors") 416 }, { hash := PyData.keyHash P (Str.ofString "__firstlineno__"), key := Value.str (Str.ofString "__firstlineno__") 646, val := Value.int 128 645 }, { hash := PyData.keyHash P (Str.ofString "__static_attributes__"), key := Value.str (Str.ofString "__static_attributes__") 647, val := Value.ref 318 }, { hash := PyData.keyHash P (Str.ofString "__doc__"), key := Value.str (Str.ofString "__doc__") 648, val := Value.none }] 2 }
def o_668 : Params → Obj := fun P => { cls := Value.type "type", data := Data.cls { name := Str.ofString "Frame", bases := [Value.type "object"], mro := [Value.ref 575, Value.type "object"], ns := 574, qualname := Str.ofString "Frame" }, slots := #[none, none, some (Value.str (Str.ofString "Frame") 976), some (Value.str (Str.ofString "Frame") 984), some (Value.builtin "object.__new__"), some (Value.bool true)] }
def o_939 : Params → Obj := fun P => { cls := Value.type "getset_descriptor", data := Data.fields #[Value.str (Str.ofString "__weakref__") 1369, Value.ref 829, Value.builtin "ExceptionGroup.__weakref__", Value.none] }
def o_531 : Params → Obj := fun P => { cls := Value.type "tuple", data := Data.seq #[] }
def o_802 : Params → Obj := fun P => { cls := Value.type "code", data := Data.fields #[Value.str (Str.ofString "line_numbers") 1170, Value.str (Str.ofString "line_numbers") 1171, Value.str (Str.ofString "/claim/cut.py") 1172, Value.int 312 0, Value.int 2 0, Value.int 0 0, Value.int 0 0, Value.int 3 0, Value.ref 698, Value.bool true, Value.int 181 0, Value.ref 699, Value.none, Value.ref 700, Value.ref 701, Value.ref 702, Value.int 1176 0, Value.int 312 0, Value.str (Str.ofString "/claim/cut.py") 1177] }
def o_94 : Params → Obj := fun P => { cls := Value.type "tuple", data := Data.seq #[Value.str (Str.ofString "sort") 347, Value.str (Str.ofString "thing") 348] }
def o_167 : Params → Obj := fun P => { cls := Value.type "builtin_function_or_method", data := Data.fields #[Value.builtin "type.__prepare__", Value.type "type"] }
def o_323 : Params → Obj := fun P => { cls := Value.type "tuple", data := Data.seq #[Value.ref 154] }
def o_633 : Params → Obj := fun P => { cls := Value.type "code", data := Data.fields #[Value.str (Str.ofString "Way") 943, Value.str (Str.ofString "Way") 944, Value.str (Str.ofString "/claim/cut.py") 945, Value.int 227 0, Value.int 0 0, Value.int 0 0, Value.int 0 0, Value.int 0 0, Value.ref 541, Value.bool false, Value.int 181 0, Value.ref 542, Value.none, Value.none, Value.none, Value.none, Value.int 946 0, Value.int 227 0, Value.str (Str.ofString "/claim/cut.py") 947] }
def o_907 : Params → Obj := fun P => { cls := Value.type "tuple", data := Data.seq #[] }
def o_487 : Params → Obj := fun P => { cls := Value.type "builtin_function_or_method", data := Data.fields #[Value.builtin "object.__init_subclass__", Value.ref 413] }
def o_770 : Params → Obj := fun P => { cls := Value.type "function", data := Data.func { name := Str.ofString "take_ready", qualname := Str.ofString "take_ready", params := AT69, body := FuncBody.stmts BT69, scope := ST69, globals := 3, closure := [], defaults := Value.none, kwdefaults := Value.none, pyModule := Value.str (Str.ofString "livehall.frames") 974, code := Value.ref 670 } }
def o_243 : Params → Obj := fun P => { cls := Value.type "dict", data := Data.dict #[{ hash := PyData.keyHash P (Str.ofString "__module__"), key := Value.str (Str.ofString "__module__") 524, val := Value.str (Str.ofString "livehall.errors") 416 }, { hash := PyData.keyHash P (Str.ofString "__qualname__"), key := Value.str (Str.ofString "__qualname__") 526, val := Value.str (Str.ofString "NoField") 525 }, { hash := PyData.keyHash P (Str.ofString "__firstlineno__"), key := Value.str (Str.ofString "__firstlineno__") 528, val := Value.int 110 527 }, { hash := PyData.keyHash P (Str.ofString "__init__"), key := Value.str (Str.ofString "__init__") 537, val := Value.ref 236 }, { hash := PyData.keyHash P (Str.ofString "__static_attributes__"), key := Value.str (Str.ofString "__static_attributes__") 539, val := Value.ref 237 }, { hash := PyData.keyHash P (Str.ofString "__classcell__"), key := Value.str (Str.ofString "__classcell__") 540, val := Value.ref 224 }] 6 }
def o_407 : Params → Obj := fun P => { cls := Value.type "tuple", data := Data.seq #[] }
def o_703 : Params → Obj := fun P => { cls := Value.none, data := Data.fields #[] }
def o_974 : Params → Obj := fun P => { cls := Value.type "tuple", data := Data.seq #[] }
def o_566 : Params → Obj := fun P => { cls := Value.type "code", data := Data.fields #[Value.str (Str.ofString "lay") 856, Value.str (Str.ofString "Builder.lay") 857, Value.str (Str.ofString "/claim/cut.py") 858, Value.int 167 0, Value.int 3 0, Value.int 0 0, Value.int 0 0, Value.int 3 0, Value.ref 474, Value.bool true, Value.int 181 0, Value.ref 475, Value.none, Value.ref 476, Value.ref 477, Value.ref 478, Value.int 862 0, Value.int 167 0, Value.str (Str.ofString "/claim/cut.py") 863] }
def o_837 : Params → Obj := fun P => { cls := Value.type "tuple", data := Data.seq #[Value.str (Str.ofString "store") 1221, Value.str (Str.ofString "number") 1222, Value.str (Str.ofString "fields") 1223, Value.str (Str.ofString "kind") 1224] }
def o_39 : Params → Obj := fun P => { cls := Value.type "function", data := Data.func { name := Str.ofString "is_plain_value", qualname := Str.ofString "is_plain_value", params := AT7, body := FuncBody.stmts BT7, scope := ST7, globals := 3, closure := [], defaults := Value.none, kwdefaults := Value.none, pyModule := Value.str (Str.ofString "livehall.values") 194, code := Value.ref 46 } }
def o_73 : Params → Obj := fun P => { cls := Value.type "tuple", data := Data.seq #[Value.str (Str.ofString "value") 288] }
def o_142 : Params → Obj := fun P => { cls := Value.type "code", data := Data.fields #[Value.str (Str.ofString "renamed") 401, Value.str (Str.ofString "renamed") 402, Value.str (Str.ofString "/claim/cut.py") 403, Value.int 74 0, Value.int 3 0, Value.int 0 0, Value.int 0 0, Value.int 3 0, Value.ref 138, Value.bool true, Value.int 181 0, Value.ref 139, Value.none, Value.ref 140, Value.ref 141, Value.ref 142, Value.int 413 0, Value.int 74 0, Value.str (Str.ofString "/claim/cut.py") 414] }
def o_299 : Params → Obj := fun P => { cls := Value.type "dict", data := Data.dict #[{ hash := PyData.keyHash P (Str.ofString "__module__"), key := Value.str (Str.ofString "__module__") 578, val := Value.str (Str.ofString "livehall.errors") 416 }, { hash := PyData.keyHash P (Str.ofString "__firstlineno__"), key := Value.str (Str.ofString "__firstlineno__") 582, val := Value.int 120 581 }, { hash := PyData.keyHash P (Str.ofString "__static_attributes__"), key := Value.str (Str.ofString "__static_attributes__") 583, val := Value.ref 270 }, { hash := PyData.keyHash P (Str.ofString "__doc__"), key := Value.str (Str.ofString "__doc__") 584, val := Value.none }] 2 }
def o_617 : Params → Obj := fun P => { cls := Value.type "function", data := Data.func { name := Str.ofString "row_orders", qualname := Str.ofString "row_orders", params := AT52, body := FuncBody.stmts BT52, scope := ST52, globals := 3, closure := [], defaults := Value.none, kwdefaults := Value.none, pyModule := Value.str (Str.ofString "livehall.steps") 822, code := Value.ref 526 } }
def o_888 : Params → Obj := fun P => { cls := Value.type "code", data := Data.fields #[Value.str (Str.ofString "lay_row") 1289, Value.str (Str.ofString "lay_row") 1290, Value.str (Str.ofString "/claim/cut.py") 1291, Value.int 363 0, Value.int 3 0, Value.int 0 0, Value.int 0 0, Value.int 3 0, Value.ref 778, Value.bool true, Value.int 181 0, Value.ref 779, Value.none, Value.ref 780, Value.ref 781, Value.ref 782, Value.int 1295 0, Value.int 363 0, Value.str (Str.ofString "/claim/cut.py") 1296] }
def o_467 : Params → Obj := fun P => { cls := Value.type "tuple", data := Data.seq #[] }
def o_754 : Params → Obj := fun P => { cls := Value.none, data := Data.func { name := Str.ofString "step_of", qualname := Str.ofString "step_of", params := AT67, body := FuncBody.stmts BT67, scope := ST67, globals := 0, closure := [], defaults := Value.none, kwdefaults := Value.none } }
def o_1022 : Params → Obj := fun P => { cls := Value.type "code", data := Data.fields #[Value.str (Str.ofString "rename_kind") 1475, Value.str (Str.ofString "rename_kind") 1476, Value.str (Str.ofString "/claim/cut.py") 1477, Value.int 494 0, Value.int 3 0, Value.int 0 0, Value.int 0 0, Value.int 3 0, Value.ref 906, Value.bool true, Value.int 181 0, Value.ref 907, Value.none, Value.ref 908, Value.ref 909, Value.ref 910, Value.int 1483 0, Value.int 494 0, Value.str (Str.ofString "/claim/cut.py") 1484] }
def o_223 : Params → Obj := fun P => { cls := Value.type "frame", slots := #[some (Value.ref 206), some (Value.ref 3), some (Value.ref 202), none, some (Value.str (Str.ofString "livehall.errors") 416), none, some (Value.ref 0)] }
def o_387 : Params → Obj := fun P => { cls := Value.type "tuple", data := Data.seq #[Value.ref 154] }
def o_687 : Params → Obj := fun P => { cls := Value.none, data := Data.func { name := Str.ofString "__init__", qualname := Str.ofString "Run.__init__", params := AM58x0, body := FuncBody.stmts BM58x0, scope := SM58x0, globals := 0, closure := [], defaults := Value.none, kwdefaults := Value.none } }
def o_958 : Params → Obj := fun P => { cls := Value.type "function", data := Data.func { name := Str.ofString "check_own_fields", qualname := Str.ofString "check_own_fields", params := AT90, body := FuncBody.stmts BT90, scope := ST90, globals := 3, closure := [], defaults := Value.none, kwdefaults := Value.none, pyModule := Value.str (Str.ofString "livehall.kinds") 1374, code := Value.ref 846 } }
def o_550 : Params → Obj := fun P => { cls := Value.type "tuple", data := Data.seq #[] }
def o_821 : Params → Obj := fun P => { cls := Value.type "tuple", data := Data.seq #[] }
def o_110 : Params → Obj := fun P => { cls := Value.type "function", data := Data.func { name := Str.ofString "parts_of", qualname := Str.ofString "parts_of", params := AT18, body := FuncBody.stmts BT18, scope := ST18, globals := 3, closure := [], defaults := Value.none, kwdefaults := Value.none, pyModule := Value.str (Str.ofString "livehall.bodies") 253, code := Value.ref 110 } }
def o_183 : Params → Obj := fun P => { cls := Value.type "dict", data := Data.dict #[{ hash := PyData.keyHash P (Str.ofString "__module__"), key := Value.str (Str.ofString "__module__") 443, val := Value.str (Str.ofString "livehall.errors") 416 }, { hash := PyData.keyHash P (Str.ofString "__firstlineno__"), key := Value.str (Str.ofString "__firstlineno__") 447, val := Value.int 95 446 }, { hash := PyData.keyHash P (Str.ofString "__init__"), key := Value.str (Str.ofString "__init__") 456, val := Value.ref 173 }, { hash := PyData.keyHash P (Str.ofString "__static_attributes__"), key := Value.str (Str.ofString "__static_attributes__") 458, val := Value.ref 174 }, { hash := PyData.keyHash P (Str.ofString "__doc__"), key := Value.str (Str.ofString "__doc__") 460, val := Value.none }] 3 }
def o_343 : Params → Obj := fun P => { cls := Value.none, data := Data.fields #[] }
def o_652 : Params → Obj := fun P => { cls := Value.type "tuple", data := Data.seq #[] }
def o_923 : Params → Obj := fun P => { cls := Value.type "tuple", data := Data.seq #[Value.str (Str.ofString "self") 1340, Value.str (Str.ofString "changes") 1341] }
def o_511 : Params → Obj := fun P => { cls := Value.type "tuple", data := Data.seq #[] }
def o_786 : Params → Obj := fun P => { cls := Value.none, data := Data.fields #[] }
def o_259 : Params → Obj := fun P => { cls := Value.type "type", data := Data.cls { name := Str.ofString "NoField", bases := [Value.ref 154], mro := [Value.ref 239, Value.ref 154, Value.type "ValueError", Value.type "Exception", Value.type "BaseException", Value.type "object"], ns := 238, qualname := Str.ofString "NoField" }, slots := #[some (Value.ref 221), none, some (Value.str (Str.ofString "NoField") 517), some (Value.str (Str.ofString "NoField") 525), some (Value.builtin "ValueError.__new__"), some (Value.bool true)] }
def o_423 : Params → Obj := fun P => { cls := Value.type "builtin_function_or_method", data := Data.fields #[Value.builtin "object.__init_subclass__", Value.ref 365] }
def o_719 : Params → Obj := fun P => { cls := Value.type "tuple", data := Data.seq #[] }
def o_990 : Params → Obj := fun P => { cls := Value.none, data := Data.func { name := Str.ofString "rename_in_kinds", qualname := Str.ofString "rename_in_kinds", params := AT96, body := FuncBody.stmts BT96, scope := ST96, globals := 0, closure := [], defaults := Value.none, kwdefaults := Value.none } }
def o_582 : Params → Obj := fun P => { cls := Value.type "type", data := Data.cls { name := Str.ofString "Builder", bases := [Value.type "object"], mro := [Value.ref 495, Value.type "object"], ns := 494, qualname := Str.ofString "Builder" }, slots := #[none, none, some (Value.str (Str.ofString "Builder") 830), some (Value.str (Str.ofString "Builder") 838), some (Value.builtin "object.__new__"), some (Value.bool true)] }
def o_853 : Params → Obj := fun P => { cls := Value.type "function", data := Data.func { name := Str.ofString "finder", qualname := Str.ofString "finder", params := AT82, body := FuncBody.stmts BT82, scope := ST82, globals := 3, closure := [], defaults := Value.none, kwdefaults := Value.none, pyModule := Value.str (Str.ofString "livehall.lines") 1146, code := Value.ref 750 } }
def o_15 : Params → Obj := fun P => { cls := Value.none, data := Data.fields #[] }
def o_31 : Params → Obj := fun P => { cls := Value.type "code", data := Data.fields #[Value.str (Str.ofString "is_short_text") 213, Value.str (Str.ofString "is_short_text") 214, Value.str (Str.ofString "/claim/cut.py") 215, Value.int 11 0, Value.int 1 0, Value.int 0 0, Value.int 0 0, Value.int 3 0, Value.ref 34, Value.bool true, Value.int 181 0, Value.ref 35, Value.none, Value.ref 36, Value.ref 37, Value.ref 38, Value.int 217 0, Value.int 11 0, Value.str (Str.ofString "/claim/cut.py") 218] }
def o_65 : Params → Obj := fun P => { cls := Value.type "tuple", data := Data.seq #[Value.str (Str.ofString "name") 258, Value.str (Str.ofString "e") 259] }
def o_134 : Params → Obj := fun P => { cls := Value.none, data := Data.func { name := Str.ofString "kinds_in", qualname := Str.ofString "kinds_in", params := AT22, body := FuncBody.stmts BT22, scope := ST22, globals := 0, closure := [], defaults := Value.none, kwdefaults := Value.none } }
def o_291 : Params → Obj := fun P => { cls := Value.type "tuple", data := Data.seq #[Value.ref 154] }
def o_609 : Params → Obj := fun P => { cls := Value.type "code", data := Data.fields #[Value.str (Str.ofString "try_orders") 911, Value.str (Str.ofString "try_orders") 912, Value.str (Str.ofString "/claim/cut.py") 913, Value.int 193 0, Value.int 2 0, Value.int 0 0, Value.int 0 0, Value.int 3 0, Value.ref 514, Value.bool true, Value.int 181 0, Value.ref 515, Value.none, Value.ref 516, Value.ref 517, Value.ref 518, Value.int 918 0, Value.int 193 0, Value.str (Str.ofString "/claim/cut.py") 919] }
def o_880 : Params → Obj := fun P => { cls := Value.type "getset_descriptor", data := Data.fields #[Value.str (Str.ofString "__weakref__") 1284, Value.ref 773, Value.builtin "ExceptionGroup.__weakref__", Value.none] }
def o_455 : Params → Obj := fun P => { cls := Value.type "builtin_function_or_method", data := Data.fields #[Value.builtin "object.__init_subclass__", Value.ref 389] }
def o_746 : Params → Obj := fun P => { cls := Value.none, data := Data.fields #[] }
def o_1014 : Params → Obj := fun P => { cls := Value.none, data := Data.func { name := Str.ofString "move_kind", qualname := Str.ofString "move_kind", params := AT100, body := FuncBody.stmts BT100, scope := ST100, globals := 0, closure := [], defaults := Value.none, kwdefaults := Value.none } }
def o_211 : Params → Obj := fun P => { cls := Value.type "builtin_function_or_method", data := Data.fields #[Value.builtin "object.__init_subclass__", Value.ref 197] }
def o_375 : Params → Obj := fun P => { cls := Value.none, data := Data.fields #[] }
def o_679 : Params → Obj := fun P => { cls := Value.type "tuple", data := Data.seq #[] }
def o_950 : Params → Obj := fun P => { cls := Value.type "code", data := Data.fields #[Value.str (Str.ofString "check_new_name") 1376, Value.str (Str.ofString "check_new_name") 1377, Value.str (Str.ofString "/claim/cut.py") 1378, Value.int 403 0, Value.int 2 0, Value.int 0 0, Value.int 0 0, Value.int 3 0, Value.ref 834, Value.bool true, Value.int 181 0, Value.ref 835, Value.none, Value.ref 836, Value.ref 837, Value.ref 838, Value.int 1381 0, Value.int 403 0, Value.str (Str.ofString "/claim/cut.py") 1382] }
def o_542 : Params → Obj := fun P => { cls := Value.type "dict", data := Data.dict #[{ hash := PyData.keyHash P (Str.ofString "__module__"), key := Value.str (Str.ofString "__module__") 837, val := Value.str (Str.ofString "livehall.steps") 822 }, { hash := PyData.keyHash P (Str.ofString "__qualname__"), key := Value.str (Str.ofString "__qualname__") 839, val := Value.str (Str.ofString "Builder") 838 }, { hash := PyData.keyHash P (Str.ofString "__firstlineno__"), key := Value.str (Str.ofString "__firstlineno__") 841, val := Value.int 155 840 }, { hash := PyData.keyHash P (Str.ofString "__init__"), key := Value.str (Str.ofString "__init__") 848, val := Value.ref 466 }, { hash := PyData.keyHash P (Str.ofString "new_mark"), key := Value.str (Str.ofString "new_mark") 855, val := Value.ref 473 }, { hash := PyData.keyHash P (Str.ofString "lay"), key := Value.str (Str.ofString "lay") 864, val := Value.ref 480 }, { hash := PyData.keyHash P (Str.ofString "placed"), key := Value.str (Str.ofString "placed") 872, val := Value.ref 487 }, { hash := PyData.keyHash P (Str.ofString "finished"), key := Value.str (Str.ofString "finished") 878, val := Value.ref 492 }, { hash := PyData.keyHash P (Str.ofString "__static_attributes__"), key := Value.str (Str.ofString "__static_attributes__") 883, val := Value.ref 493 }] 9 }
def o_810 : Params → Obj := fun P => { cls := Value.type "function", data := Data.func { name := Str.ofString "heirs_by_elder", qualname := Str.ofString "heirs_by_elder", params := AT76, body := FuncBody.stmts BT76, scope := ST76, globals := 3, closure := [], defaults := Value.none, kwdefaults := Value.none, pyModule := Value.str (Str.ofString "livehall.lines") 1146, code := Value.ref 710 } }
def o_102 : Params → Obj := fun P => { cls := Value.type "tuple", data := Data.seq #[] }
def o_175 : Params → Obj := fun P => { cls := Value.type "tuple", data := Data.seq #[Value.str (Str.ofString "__class__") 451] }
def o_331 : Params → Obj := fun P => { cls := Value.type "dict", data := Data.dict #[{ hash := PyData.keyHash P (Str.ofString "__module__"), key := Value.str (Str.ofString "__module__") 610, val := Value.str (Str.ofString "livehall.errors") 416 }, { hash := PyData.keyHash P (Str.ofString "__firstlineno__"), key := Value.str (Str.ofString "__firstlineno__") 614, val := Value.int 124 613 }, { hash := PyData.keyHash P (Str.ofString "__static_attributes__"), key := Value.str (Str.ofString "__static_attributes__") 615, val := Value.ref 294 }, { hash := PyData.keyHash P (Str.ofString "__doc__"), key := Value.str (Str.ofString "__doc__") 616, val := Value.none }] 2 }
def o_641 : Params → Obj := fun P => { cls := Value.type "function", data := Data.func { name := Str.ofString "__init__", qualname := Str.ofString "Way.__init__", params := AM55x0, body := FuncBody.stmts BM55x0, scope := SM55x0, globals := 3, closure := [], defaults := Value.none, kwdefaults := Value.none, pyModule := Value.str (Str.ofString "livehall.steps") 822, code := Value.ref 550 } }
def o_915 : Params → Obj := fun P => { cls := Value.none, data := Data.fields #[] }
def o_499 : Params → Obj := fun P => { cls := Value.type "tuple", data := Data.seq #[] }
def o_778 : Params → Obj := fun P => { cls := Value.type "tuple", data := Data.seq #[] }
def o_251 : Params → Obj := fun P => { cls := Value.none, data := Data.fields #[] }
def o_415 : Params → Obj := fun P => { cls := Value.type "tuple", data := Data.seq #[] }
def o_711 : Params → Obj := fun P => { cls := Value.type "tuple", data := Data.seq #[Value.str (Str.ofString "top") 1066, Value.str (Str.ofString "frames") 1067, Value.str (Str.ofString "frame") 1068] }
def o_982 : Params → Obj := fun P => { cls := Value.type "function", data := Data.func { name := Str.ofString "refit", qualname := Str.ofString "refit", params := AT94, body := FuncBody.stmts BT94, scope := ST94, globals := 3, closure := [], defaults := Value.none, kwdefaults := Value.none, pyModule := Value.str (Str.ofString "livehall.kinds") 1374, code := Value.ref 870 } }
def o_574 : Params → Obj := fun P => { cls := Value.type "function", data := Data.func { name := Str.ofString "placed", qualname := Str.ofString "Builder.placed", params := AM48x3, body := FuncBody.stmts BM48x3, scope := SM48x3, globals := 3, closure := [], defaults := Value.none, kwdefaults := Value.none, pyModule := Value.str (Str.ofString "livehall.steps") 822, code := Value.ref 486 } }
def o_845 : Params → Obj := fun P => { cls := Value.type "code", data := Data.fields #[Value.str (Str.ofString "own_fields") 1228, Value.str (Str.ofString "own_fields") 1229, Value.str (Str.ofString "/claim/cut.py") 1230, Value.int 344 0, Value.int 2 0, Value.int 0 0, Value.int 0 0, Value.int 3 0, Value.ref 740, Value.bool true, Value.int 181 0, Value.ref 741, Value.none, Value.none, Value.none, Value.ref 742, Value.int 1231 0, Value.int 344 0, Value.str (Str.ofString "/claim/cut.py") 1232] }
def o_47 : Params → Obj := fun P => { cls := Value.type "tuple", data := Data.seq #[] }
def o_81 : Params → Obj := fun P => { cls := Value.type "tuple", data := Data.seq #[Value.str (Str.ofString "e") 307, Value.str (Str.ofString "e") 308] }
def o_155 : Params → Obj := fun P => { cls := Value.type "frame", slots := #[some (Value.ref 150), some (Value.ref 3), some (Value.ref 147), none, some (Value.str (Str.ofString "livehall.errors") 416), none, some (Value.ref 0)] }
def o_311 : Params → Obj := fun P => { cls := Value.none, data := Data.fields #[] }
def o_625 : Params → Obj := fun P => { cls := Value.none, data := Data.func { name := Str.ofString "steps_of", qualname := Str.ofString "steps_of", params := AT54, body := FuncBody.stmts BT54, scope := ST54, globals := 0, closure := [], defaults := Value.none, kwdefaults := Value.none } }
def o_899 : Params → Obj := fun P => { cls := Value.type "frame", slots := #[some (Value.ref 790), some (Value.ref 3), some (Value.ref 787), none, some (Value.str (Str.ofString "livehall.store") 1250), none, some (Value.ref 0)] }
def o_479 : Params → Obj := fun P => { cls := Value.type "tuple", data := Data.seq #[] }
def o_762 : Params → Obj := fun P => { cls := Value.type "code", data := Data.fields #[Value.str (Str.ofString "ready_ask") 1118, Value.str (Str.ofString "ready_ask") 1119, Value.str (Str.ofString "/claim/cut.py") 1120, Value.int 290 0, Value.int 1 0, Value.int 0 0, Value.int 0 0, Value.int 3 0, Value.ref 658, Value.bool true, Value.int 181 0, Value.ref 659, Value.none, Value.ref 660, Value.ref 661, Value.ref 662, Value.int 1125 0, Value.int 290 0, Value.str (Str.ofString "/claim/cut.py") 1126] }
def o_1033 : Params → Obj := fun P => { cls := Value.none, data := Data.fields #[] }
def o_231 : Params → Obj := fun P => { cls := Value.type "function", data := Data.func { name := Str.ofString "__init__", qualname := Str.ofString "NoKind.__init__", params := AM28x0, body := FuncBody.stmts BM28x0, scope := SM28x0, globals := 3, closure := [(Str.ofString "__class__", 203)], defaults := Value.none, kwdefaults := Value.none, pyModule := Value.str (Str.ofString "livehall.errors") 416, code := Value.ref 214, closureTuple := Value.ref 208 } }
def o_395 : Params → Obj := fun P => { cls := Value.type "dict", data := Data.dict #[{ hash := PyData.keyHash P (Str.ofString "__module__"), key := Value.str (Str.ofString "__module__") 674, val := Value.str (Str.ofString "livehall.errors") 416 }, { hash := PyData.keyHash P (Str.ofString "__firstlineno__"), key := Value.str (Str.ofString "__firstlineno__") 678, val := Value.int 132 677 }, { hash := PyData.keyHash P (Str.ofString "__static_attributes__"), key := Value.str (Str.ofString "__static_attributes__") 679, val := Value.ref 342 }, { hash := PyData.keyHash P (Str.ofString "__doc__"), key := Value.str (Str.ofString "__doc__") 680, val := Value.none }] 2 }
def o_695 : Params → Obj := fun P => { cls := Value.type "super", data := Data.fields #[Value.ref 596, Value.ref 596, Value.ref 596] }
def o_966 : Params → Obj := fun P => { cls := Value.type "tuple", data := Data.seq #[Value.str (Str.ofString "own") 1403, Value.str (Str.ofString "gone") 1404, Value.str (Str.ofString "field") 1405] }
def o_558 : Params → Obj := fun P => { cls := Value.none, data := Data.func { name := Str.ofString "new_mark", qualname := Str.ofString "Builder.new_mark", params := AM48x1, body := FuncBody.stmts BM48x1, scope := SM48x1, globals := 0, closure := [], defaults := Value.none, kwdefaults := Value.none } }
def o_829 : Params → Obj := fun P => { cls := Value.none, data := Data.fields #[] }
def o_118 : Params → Obj := fun P => { cls := Value.type "tuple", data := Data.seq #[] }
def o_195 : Params → Obj := fun P => { cls := Value.type "tuple", data := Data.seq #[] }
def o_355 : Params → Obj := fun P => { cls := Value.type "tuple", data := Data.seq #[Value.ref 154] }
def o_660 : Params → Obj := fun P => { cls := Value.none, data := Data.fields #[] }
def o_931 : Params → Obj := fun P => { cls := Value.type "tuple", data := Data.seq #[] }
def o_519 : Params → Obj := fun P => { cls := Value.type "builtin_function_or_method", data := Data.fields #[Value.builtin "object.__init_subclass__", Value.ref 437] }
def o_794 : Params → Obj := fun P => { cls := Value.none, data := Data.func { name := Str.ofString "kind_names", qualname := Str.ofString "kind_names", params := AT74, body := FuncBody.stmts BT74, scope := ST74, globals := 0, closure := [], defaults := Value.none, kwdefaults := Value.none } }
def o_271 : Params → Obj := fun P => { cls := Value.none, data := Data.fields #[Value.int 117 0, Value.int 4 0, Value.ref 256] }
def o_435 : Params → Obj := fun P => { cls := Value.type "tuple", data := Data.seq #[] }
def o_727 : Params → Obj := fun P => { cls := Value.type "function", data := Data.func { name := Str.ofString "halted_runs", qualname := Str.ofString "halted_runs", params := AT63, body := FuncBody.stmts BT63, scope := ST63, globals := 3, closure := [], defaults := Value.none, kwdefaults := Value.none, pyModule := Value.str (Str.ofString "livehall.frames") 974, code := Value.ref 630 } }
def o_998 : Params → Obj := fun P => { cls := Value.type "tuple", data := Data.seq #[] }
def o_590 : Params → Obj := fun P => { cls := Value.type "tuple", data := Data.seq #[] }
def o_864 : Params → Obj := fun P => { cls := Value.type "dict", data := Data.dict #[{ hash := PyData.keyHash P (Str.ofString "__module__"), key := Value.str (Str.ofString "__module__") 1259, val := Value.str (Str.ofString "livehall.store") 1250 }, { hash := PyData.keyHash P (Str.ofString "__qualname__"), key := Value.str (Str.ofString "__qualname__") 1261, val := Value.str (Str.ofString "Kind") 1260 }, { hash := PyData.keyHash P (Str.ofString "__firstlineno__"), key := Value.str (Str.ofString "__firstlineno__") 1263, val := Value.int 355 1262 }, { hash := PyData.keyHash P (Str.ofString "__init__"), key := Value.str (Str.ofString "__init__") 1275, val := Value.ref 770 }, { hash := PyData.keyHash P (Str.ofString "__static_attributes__"), key := Value.str (Str.ofString "__static_attributes__") 1281, val := Value.ref 771 }] 5 }
def o_11 : Params → Obj := fun P => { cls := Value.none, data := Data.func { name := Str.ofString "_wall", qualname := Str.ofString "_wall", params := AT0, body := FuncBody.stmts BT0, scope := ST0, globals := 0, closure := [], defaults := Value.none, kwdefaults := Value.none } }
def o_27 : Params → Obj := fun P => { cls := Value.none, data := Data.fields #[] }
def o_59 : Params → Obj := fun P => { cls := Value.type "code", data := Data.fields #[Value.str (Str.ofString "same") 242, Value.str (Str.ofString "same") 243, Value.str (Str.ofString "/claim/cut.py") 244, Value.int 19 0, Value.int 2 0, Value.int 0 0, Value.int 0 0, Value.int 3 0, Value.ref 62, Value.bool true, Value.int 181 0, Value.ref 63, Value.none, Value.ref 64, Value.ref 65, Value.ref 66, Value.int 250 0, Value.int 19 0, Value.str (Str.ofString "/claim/cut.py") 251] }
def o_130 : Params → Obj := fun P => { cls := Value.type "tuple", data := Data.seq #[] }
def o_283 : Params → Obj := fun P => { cls := Value.type "dict", data := Data.dict #[{ hash := PyData.keyHash P (Str.ofString "__module__"), key := Value.str (Str.ofString "__module__") 551, val := Value.str (Str.ofString "livehall.errors") 416 }, { hash := PyData.keyHash P (Str.ofString "__firstlineno__"), key := Value.str (Str.ofString "__firstlineno__") 555, val := Value.int 115 554 }, { hash := PyData.keyHash P (Str.ofString "__init__"), key := Value.str (Str.ofString "__init__") 564, val := Value.ref 257 }, { hash := PyData.keyHash P (Str.ofString "__static_attributes__"), key := Value.str (Str.ofString "__static_attributes__") 566, val := Value.ref 258 }, { hash := PyData.keyHash P (Str.ofString "__doc__"), key := Value.str (Str.ofString "__doc__") 568, val := Value.none }] 3 }
def o_605 : Params → Obj := fun P => { cls := Value.none, data := Data.fields #[] }
def o_876 : Params → Obj := fun P => { cls := Value.type "tuple", data := Data.seq #[Value.str (Str.ofString "elder") 1276, Value.str (Str.ofString "name") 1277, Value.str (Str.ofString "own") 1278, Value.str (Str.ofString "ways") 1279, Value.str (Str.ofString "weak") 1280] }
def o_451 : Params → Obj := fun P => { cls := Value.type "tuple", data := Data.seq #[] }
def o_742 : Params → Obj := fun P => { cls := Value.none, data := Data.func { name := Str.ofString "frame_values", qualname := Str.ofString "frame_values", params := AT65, body := FuncBody.stmts BT65, scope := ST65, globals := 0, closure := [], defaults := Value.none, kwdefaults := Value.none } }
def o_1010 : Params → Obj := fun P => { cls := Value.type "tuple", data := Data.seq #[] }
def o_207 : Params → Obj := fun P => { cls := Value.type "tuple", data := Data.seq #[Value.str (Str.ofString "name") 484] }
def o_371 : Params → Obj := fun P => { cls := Value.type "tuple", data := Data.seq #[Value.ref 154] }
def o_672 : Params → Obj := fun P => { cls := Value.type "builtin_function_or_method", data := Data.fields #[Value.builtin "object.__init_subclass__", Value.ref 575] }
def o_946 : Params → Obj := fun P => { cls := Value.none, data := Data.fields #[] }
def o_535 : Params → Obj := fun P => { cls := Value.type "builtin_function_or_method", data := Data.fields #[Value.builtin "object.__init_subclass__", Value.ref 449] }
def o_806 : Params → Obj := fun P => { cls := Value.type "tuple", data := Data.seq #[Value.str (Str.ofString "store") 1182, Value.str (Str.ofString "families") 1183, Value.str (Str.ofString "number") 1184] }
def o_98 : Params → Obj := fun P => { cls := Value.type "function", data := Data.func { name := Str.ofString "is_leaf", qualname := Str.ofString "is_leaf", params := AT16, body := FuncBody.stmts BT16, scope := ST16, globals := 3, closure := [], defaults := Value.none, kwdefaults := Value.none, pyModule := Value.str (Str.ofString "livehall.bodies") 253, code := Value.ref 98 } }
def o_171 : Params → Obj := fun P => { cls := Value.none, data := Data.fields #[Value.int 97 0, Value.int 4 0, Value.ref 172] }
def o_327 : Params → Obj := fun P => { cls := Value.none, data := Data.fields #[] }
def o_637 : Params → Obj := fun P => { cls := Value.type "tuple", data := Data.seq #[Value.str (Str.ofString "self") 956, Value.str (Str.ofString "names") 957, Value.str (Str.ofString "body") 958] }
def o_911 : Params → Obj := fun P => { cls := Value.none, data := Data.func { name := Str.ofString "write", qualname := Str.ofString "Store.write", params := AM87x1, body := FuncBody.stmts BM87x1, scope := SM87x1, globals := 0, closure := [], defaults := Value.none, kwdefaults := Value.none } }
def o_495 : Params → Obj := fun P => { cls := Value.type "tuple", data := Data.seq #[] }
def o_774 : Params → Obj := fun P => { cls := Value.type "tuple", data := Data.seq #[] }
def o_247 : Params → Obj := fun P => { cls := Value.type "code", data := Data.fields #[Value.str (Str.ofString "NoField") 519, Value.str (Str.ofString "NoField") 520, Value.str (Str.ofString "/claim/cut.py") 521, Value.int 110 0, Value.int 0 0, Value.int 0 0, Value.int 0 0, Value.int 0 0, Value.ref 225, Value.bool false, Value.int 181 0, Value.ref 226, Value.none, Value.none, Value.none, Value.none, Value.int 522 0, Value.int 110 0, Value.str (Str.ofString "/claim/cut.py") 523] }
def o_411 : Params → Obj := fun P => { cls := Value.type "tuple", data := Data.seq #[Value.ref 350] }
def o_707 : Params → Obj := fun P => { cls := Value.type "code", data := Data.fields #[Value.str (Str.ofString "copied") 1055, Value.str (Str.ofString "copied") 1056, Value.str (Str.ofString "/claim/cut.py") 1057, Value.int 255 0, Value.int 1 0, Value.int 0 0, Value.int 0 0, Value.int 3 0, Value.ref 606, Value.bool true, Value.int 181 0, Value.ref 607, Value.none, Value.ref 608, Value.ref 609, Value.ref 610, Value.int 1060 0, Value.int 255 0, Value.str (Str.ofString "/claim/cut.py") 1061] }
def o_978 : Params → Obj := fun P => { cls := Value.type "tuple", data := Data.seq #[] }
def o_570 : Params → Obj := fun P => { cls := Value.type "tuple", data := Data.seq #[Value.str (Str.ofString "self") 868, Value.str (Str.ofString "step") 869] }
def o_841 : Params → Obj := fun P => { cls := Value.type "function", data := Data.func { name := Str.ofString "line_weak", qualname := Str.ofString "line_weak", params := AT80, body := FuncBody.stmts BT80, scope := ST80, globals := 3, closure := [], defaults := Value.none, kwdefaults := Value.none, pyModule := Value.str (Str.ofString "livehall.lines") 1146, code := Value.ref 738 } }
def o_43 : Params → Obj := fun P => { cls := Value.type "tuple", data := Data.seq #[] }
def o_77 : Params → Obj := fun P => { cls := Value.type "tuple", data := Data.seq #[Value.str (Str.ofString "e") 295, Value.str (Str.ofString "word") 296, Value.str (Str.ofString "es") 297] }
def o_151 : Params → Obj := fun P => { cls := Value.type "dict", data := Data.dict #[{ hash := PyData.keyHash P (Str.ofString "__module__"), key := Value.str (Str.ofString "__module__") 425, val := Value.str (Str.ofString "livehall.errors") 416 }, { hash := PyData.keyHash P (Str.ofString "__qualname__"), key := Value.str (Str.ofString "__qualname__") 427, val := Value.str (Str.ofString "HallError") 426 }, { hash := PyData.keyHash P (Str.ofString "__firstlineno__"), key := Value.str (Str.ofString "__firstlineno__") 429, val := Value.int 93 428 }, { hash := PyData.keyHash P (Str.ofString "__static_attributes__"), key := Value.str (Str.ofString "__static_attributes__") 430, val := Value.ref 152 }] 4 }
def o_307 : Params → Obj := fun P => { cls := Value.type "tuple", data := Data.seq #[Value.ref 154] }
def o_621 : Params → Obj := fun P => { cls := Value.type "code", data := Data.fields #[Value.str (Str.ofString "e_orders") 929, Value.str (Str.ofString "e_orders") 930, Value.str (Str.ofString "/claim/cut.py") 931, Value.int 205 0, Value.int 1 0, Value.int 0 0, Value.int 0 0, Value.int 3 0, Value.ref 528, Value.bool true, Value.int 181 0, Value.ref 529, Value.none, Value.none, Value.none, Value.ref 530, Value.int 932 0, Value.int 205 0, Value.str (Str.ofString "/claim/cut.py") 933] }
def o_895 : Params → Obj := fun P => { cls := Value.type "dict", data := Data.dict #[{ hash := PyData.keyHash P (Str.ofString "__module__"), key := Value.str (Str.ofString "__module__") 1305, val := Value.str (Str.ofString "livehall.store") 1250 }, { hash := PyData.keyHash P (Str.ofString "__qualname__"), key := Value.str (Str.ofString "__qualname__") 1307, val := Value.str (Str.ofString "Store") 1306 }, { hash := PyData.keyHash P (Str.ofString "__firstlineno__"), key := Value.str (Str.ofString "__firstlineno__") 1309, val := Value.int 368 1308 }, { hash := PyData.keyHash P (Str.ofString "__init__"), key := Value.str (Str.ofString "__init__") 1316, val := Value.ref 798 }, { hash := PyData.keyHash P (Str.ofString "write"), key := Value.str (Str.ofString "write") 1327, val := Value.ref 805 }, { hash := PyData.keyHash P (Str.ofString "new_number"), key := Value.str (Str.ofString "new_number") 1336, val := Value.ref 812 }, { hash := PyData.keyHash P (Str.ofString "take_changes"), key := Value.str (Str.ofString "take_changes") 1344, val := Value.ref 819 }, { hash := PyData.keyHash P (Str.ofString "turn"), key := Value.str (Str.ofString "turn") 1357, val := Value.ref 826 }, { hash := PyData.keyHash P (Str.ofString "__static_attributes__"), key := Value.str (Str.ofString "__static_attributes__") 1366, val := Value.ref 827 }] 9 }
def o_471 : Params → Obj := fun P => { cls := Value.type "builtin_function_or_method", data := Data.fields #[Value.builtin "object.__init_subclass__", Value.ref 401] }
def o_758 : Params → Obj := fun P => { cls := Value.none, data := Data.fields #[] }
def o_1029 : Params → Obj := fun P => { cls := Value.none, data := Data.func { name := Str.ofString "is_made", qualname := Str.ofString "is_made", params := AT102, body := FuncBody.stmts BT102, scope := ST102, globals := 0, closure := [], defaults := Value.none, kwdefaults := Value.none } }
def o_227 : Params → Obj := fun P => { cls := Value.type "tuple", data := Data.seq #[Value.str (Str.ofString "self") 506, Value.str (Str.ofString "name") 507] }
def o_391 : Params → Obj := fun P => { cls := Value.none, data := Data.fields #[] }
def o_691 : Params → Obj := fun P => { cls := Value.type "dict", data := Data.dict #[{ hash := PyData.keyHash P (Str.ofString "__module__"), key := Value.str (Str.ofString "__module__") 1025, val := Value.str (Str.ofString "livehall.frames") 974 }, { hash := PyData.keyHash P (Str.ofString "__firstlineno__"), key := Value.str (Str.ofString "__firstlineno__") 1029, val := Value.int 246 1028 }, { hash := PyData.keyHash P (Str.ofString "__init__"), key := Value.str (Str.ofString "__init__") 1038, val := Value.ref 593 }, { hash := PyData.keyHash P (Str.ofString "__static_attributes__"), key := Value.str (Str.ofString "__static_attributes__") 1041, val := Value.ref 594 }, { hash := PyData.keyHash P (Str.ofString "__dict__"), key := Value.str (Str.ofString "__dict__") 1043, val := Value.ref 597 }, { hash := PyData.keyHash P (Str.ofString "__weakref__"), key := Value.str (Str.ofString "__weakref__") 1045, val := Value.ref 598 }, { hash := PyData.keyHash P (Str.ofString "__doc__"), key := Value.str (Str.ofString "__doc__") 1046, val := Value.none }] 4 }
def o_962 : Params → Obj := fun P => { cls := Value.type "code", data := Data.fields #[Value.str (Str.ofString "make_kind") 1394, Value.str (Str.ofString "make_kind") 1395, Value.str (Str.ofString "/claim/cut.py") 1396, Value.int 415 0, Value.int 5 0, Value.int 0 0, Value.int 0 0, Value.int 3 0, Value.ref 848, Value.bool true, Value.int 181 0, Value.ref 849, Value.none, Value.none, Value.none, Value.ref 850, Value.int 1397 0, Value.int 415 0, Value.str (Str.ofString "/claim/cut.py") 1398] }
def o_554 : Params → Obj := fun P => { cls := Value.type "tuple", data := Data.seq #[] }
def o_825 : Params → Obj := fun P => { cls := Value.none, data := Data.func { name := Str.ofString "numbers_below", qualname := Str.ofString "numbers_below", params := AT78, body := FuncBody.stmts BT78, scope := ST78, globals := 0, closure := [], defaults := Value.none, kwdefaults := Value.none } }
def o_114 : Params → Obj := fun P => { cls := Value.type "tuple", data := Data.seq #[] }
def o_191 : Params → Obj := fun P => { cls := Value.type "tuple", data := Data.seq #[Value.ref 154] }
def o_347 : Params → Obj := fun P => { cls := Value.type "dict", data := Data.dict #[{ hash := PyData.keyHash P (Str.ofString "__module__"), key := Value.str (Str.ofString "__module__") 626, val := Value.str (Str.ofString "livehall.errors") 416 }, { hash := PyData.keyHash P (Str.ofString "__firstlineno__"), key := Value.str (Str.ofString "__firstlineno__") 630, val := Value.int 126 629 }, { hash := PyData.keyHash P (Str.ofString "__static_attributes__"), key := Value.str (Str.ofString "__static_attributes__") 631, val := Value.ref 306 }, { hash := PyData.keyHash P (Str.ofString "__doc__"), key := Value.str (Str.ofString "__doc__") 632, val := Value.none }] 2 }
def o_656 : Params → Obj := fun P => { cls := Value.none, data := Data.fields #[Value.int 236 0, Value.int 4 0, Value.ref 571] }
def o_927 : Params → Obj := fun P => { cls := Value.type "function", data := Data.func { name := Str.ofString "take_changes", qualname := Str.ofString "Store.take_changes", params := AM87x3, body := FuncBody.stmts BM87x3, scope := SM87x3, globals := 3, closure := [], defaults := Value.none, kwdefaults := Value.none, pyModule := Value.str (Str.ofString "livehall.store") 1250, code := Value.ref 818 } }
def o_515 : Params → Obj := fun P => { cls := Value.type "tuple", data := Data.seq #[] }
def o_790 : Params → Obj := fun P => { cls := Value.type "code", data := Data.fields #[Value.str (Str.ofString "kind_name") 1156, Value.str (Str.ofString "kind_name") 1157, Value.str (Str.ofString "/claim/cut.py") 1158, Value.int 308 0, Value.int 2 0, Value.int 0 0, Value.int 0 0, Value.int 3 0, Value.ref 686, Value.bool true, Value.int 181 0, Value.ref 687, Value.none, Value.ref 688, Value.ref 689, Value.ref 690, Value.int 1161 0, Value.int 308 0, Value.str (Str.ofString "/claim/cut.py") 1162] }
def o_267 : Params → Obj := fun P => { cls := Value.type "builtin_function_or_method", data := Data.fields #[Value.builtin "type.__prepare__", Value.type "type"] }
def o_431 : Params → Obj := fun P => { cls := Value.type "tuple", data := Data.seq #[] }
def o_723 : Params → Obj := fun P => { cls := Value.type "tuple", data := Data.seq #[] }
def o_994 : Params → Obj := fun P => { cls := Value.none, data := Data.fields #[] }
def o_586 : Params → Obj := fun P => { cls := Value.type "builtin_function_or_method", data := Data.fields #[Value.builtin "object.__init_subclass__", Value.ref 495] }
def o_857 : Params → Obj := fun P => { cls := Value.type "code", data := Data.fields #[Value.str (Str.ofString "things_of") 1244, Value.str (Str.ofString "things_of") 1245, Value.str (Str.ofString "/claim/cut.py") 1246, Value.int 351 0, Value.int 2 0, Value.int 0 0, Value.int 0 0, Value.int 3 0, Value.ref 752, Value.bool true, Value.int 181 0, Value.ref 753, Value.none, Value.none, Value.none, Value.ref 754, Value.int 1247 0, Value.int 351 0, Value.str (Str.ofString "/claim/cut.py") 1248] }
def o_19 : Params → Obj := fun P => { cls := Value.type "tuple", data := Data.seq #[] }
def o_35 : Params → Obj := fun P => { cls := Value.type "tuple", data := Data.seq #[Value.str (Str.ofString "thing") 223] }
def o_69 : Params → Obj := fun P => { cls := Value.type "tuple", data := Data.seq #[Value.str (Str.ofString "e") 270, Value.str (Str.ofString "body") 271] }
def o_138 : Params → Obj := fun P => { cls := Value.none, data := Data.fields #[] }
def o_295 : Params → Obj := fun P => { cls := Value.none, data := Data.fields #[] }
def o_613 : Params → Obj := fun P => { cls := Value.type "tuple", data := Data.seq #[Value.str (Str.ofString "builder") 924, Value.str (Str.ofString "row") 925] }
def o_884 : Params → Obj := fun P => { cls := Value.none, data := Data.fields #[] }
def o_463 : Params → Obj := fun P => { cls := Value.type "tuple", data := Data.seq #[] }
def o_750 : Params → Obj := fun P => { cls := Value.type "tuple", data := Data.seq #[] }
def o_1018 : Params → Obj := fun P => { cls := Value.none, data := Data.fields #[] }
def o_219 : Params → Obj := fun P => { cls := Value.type "cell", data := Data.cell (some (Value.ref 218)) }
def o_379 : Params → Obj := fun P => { cls := Value.type "dict", data := Data.dict #[{ hash := PyData.keyHash P (Str.ofString "__module__"), key := Value.str (Str.ofString "__module__") 658, val := Value.str (Str.ofString "livehall.errors") 416 }, { hash := PyData.keyHash P (Str.ofString "__firstlineno__"), key := Value.str (Str.ofString "__firstlineno__") 662, val := Value.int 130 661 }, { hash := PyData.keyHash P (Str.ofString "__static_attributes__"), key := Value.str (Str.ofString "__static_attributes__") 663, val := Value.ref 330 }, { hash := PyData.keyHash P (Str.ofString "__doc__"), key := Value.str (Str.ofString "__doc__") 664, val := Value.none }] 2 }
def o_683 : Params → Obj := fun P => { cls := Value.type "tuple", data := Data.seq #[] }
def o_954 : Params → Obj := fun P => { cls := Value.type "tuple", data := Data.seq #[Value.str (Str.ofString "fields") 1387, Value.str (Str.ofString "weak") 1388, Value.str (Str.ofString "others") 1389, Value.str (Str.ofString "field") 1390] }
def o_546 : Params → Obj := fun P => { cls := Value.type "frame", slots := #[some (Value.ref 458), some (Value.ref 3), some (Value.ref 455), none, some (Value.str (Str.ofString "livehall.steps") 822), none, some (Value.ref 0)] }
def o_814 : Params → Obj := fun P => { cls := Value.type "tuple", data := Data.seq #[] }
def o_106 : Params → Obj := fun P => { cls := Value.type "tuple", data := Data.seq #[] }
def o_179 : Params → Obj := fun P => { cls := Value.none, data := Data.func { name := Str.ofString "__init__", qualname := Str.ofString "BadName.__init__", params := AM26x0, body := FuncBody.stmts BM26x0, scope := SM26x0, globals := 0, closure := [], defaults := Value.none, kwdefaults := Value.none } }
def o_339 : Params → Obj := fun P => { cls := Value.type "tuple", data := Data.seq #[Value.ref 154] }
def o_645 : Params → Obj := fun P => { cls := Value.type "getset_descriptor", data := Data.fields #[Value.str (Str.ofString "__dict__") 967, Value.ref 554, Value.builtin "function.__dict__", Value.builtin "function.__dict__#set"] }
def o_919 : Params → Obj := fun P => { cls := Value.type "code", data := Data.fields #[Value.str (Str.ofString "new_number") 1328, Value.str (Str.ofString "Store.new_number") 1329, Value.str (Str.ofString "/claim/cut.py") 1330, Value.int 385 0, Value.int 2 0, Value.int 0 0, Value.int 0 0, Value.int 3 0, Value.ref 806, Value.bool true, Value.int 181 0, Value.ref 807, Value.none, Value.ref 808, Value.ref 809, Value.ref 810, Value.int 1334 0, Value.int 385 0, Value.str (Str.ofString "/claim/cut.py") 1335] }
def o_503 : Params → Obj := fun P => { cls := Value.type "builtin_function_or_method", data := Data.fields #[Value.builtin "object.__init_subclass__", Value.ref 425] }
def o_782 : Params → Obj := fun P => { cls := Value.none, data := Data.func { name := Str.ofString "kind_number", qualname := Str.ofString "kind_number", params := AT72, body := FuncBody.stmts BT72, scope := ST72, globals := 0, closure := [], defaults := Value.none, kwdefaults := Value.none } }
def o_255 : Params → Obj := fun P => { cls := Value.type "code", data := Data.fields #[Value.str (Str.ofString "__init__") 529, Value.str (Str.ofString "NoField.__init__") 530, Value.str (Str.ofString "/claim/cut.py") 531, Value.int 112 0, Value.int 2 0, Value.int 0 0, Value.int 0 0, Value.int 3 0, Value.ref 230, Value.bool true, Value.int 181 0, Value.ref 231, Value.none, Value.ref 232, Value.ref 233, Value.ref 234, Value.int 535 0, Value.int 112 0, Value.str (Str.ofString "/claim/cut.py") 536] }
def o_419 : Params → Obj := fun P => { cls := Value.type "tuple", data := Data.seq #[Value.str (Str.ofString "name") 704] }
def o_715 : Params → Obj := fun P => { cls := Value.type "function", data := Data.func { name := Str.ofString "chain", qualname := Str.ofString "chain", params := AT61, body := FuncBody.stmts BT61, scope := ST61, globals := 3, closure := [], defaults := Value.none, kwdefaults := Value.none, pyModule := Value.str (Str.ofString "livehall.frames") 974, code := Value.ref 618 } }
def o_986 : Params → Obj := fun P => { cls := Value.type "code", data := Data.fields #[Value.str (Str.ofString "renamed_way") 1425, Value.str (Str.ofString "renamed_way") 1426, Value.str (Str.ofString "/claim/cut.py") 1427, Value.int 437 0, Value.int 4 0, Value.int 0 0, Value.int 0 0, Value.int 3 0, Value.ref 872, Value.bool true, Value.int 181 0, Value.ref 873, Value.none, Value.none, Value.none, Value.ref 874, Value.int 1428 0, Value.int 437 0, Value.str (Str.ofString "/claim/cut.py") 1429] }
def o_578 : Params → Obj := fun P => { cls := Value.type "code", data := Data.fields #[Value.str (Str.ofString "finished") 873, Value.str (Str.ofString "Builder.finished") 874, Value.str (Str.ofString "/claim/cut.py") 875, Value.int 181 0, Value.int 1 0, Value.int 0 0, Value.int 0 0, Value.int 3 0, Value.ref 488, Value.bool true, Value.int 181 0, Value.ref 489, Value.none, Value.none, Value.none, Value.ref 490, Value.int 876 0, Value.int 181 0, Value.str (Str.ofString "/claim/cut.py") 877] }
def o_849 : Params → Obj := fun P => { cls := Value.type "tuple", data := Data.seq #[Value.str (Str.ofString "store") 1237, Value.str (Str.ofString "number") 1238, Value.str (Str.ofString "word") 1239, Value.str (Str.ofString "kind") 1240] }
def o_51 : Params → Obj := fun P => { cls := Value.none, data := Data.func { name := Str.ofString "same_leaf", qualname := Str.ofString "same_leaf", params := AT9, body := FuncBody.stmts BT9, scope := ST9, globals := 0, closure := [], defaults := Value.none, kwdefaults := Value.none } }
def o_90 : Params → Obj := fun P => { cls := Value.type "dict", data := Data.dict #[{ hash := PyData.keyHash P (Str.ofString "body"), key := Value.str (Str.ofString "body") 331, val := Value.str (Str.ofString "row") 332 }, { hash := PyData.keyHash P (Str.ofString "es"), key := Value.str (Str.ofString "es") 333, val := Value.str (Str.ofString "e") 334 }] 2 }
def o_159 : Params → Obj := fun P => { cls := Value.type "getset_descriptor", data := Data.fields #[Value.str (Str.ofString "__weakref__") 431, Value.ref 154, Value.builtin "ExceptionGroup.__weakref__", Value.none] }
def o_315 : Params → Obj := fun P => { cls := Value.type "dict", data := Data.dict #[{ hash := PyData.keyHash P (Str.ofString "__module__"), key := Value.str (Str.ofString "__module__") 594, val := Value.str (Str.ofString "livehall.errors") 416 }, { hash := PyData.keyHash P (Str.ofString "__firstlineno__"), key := Value.str (Str.ofString "__firstlineno__") 598, val := Value.int 122 597 }, { hash := PyData.keyHash P (Str.ofString "__static_attributes__"), key := Value.str (Str.ofString "__static_attributes__") 599, val := Value.ref 282 }, { hash := PyData.keyHash P (Str.ofString "__doc__"), key := Value.str (Str.ofString "__doc__") 600, val := Value.none }] 2 }
def o_629 : Params → Obj := fun P => { cls := Value.type "builtin_function_or_method", data := Data.fields #[Value.builtin "type.__prepare__", Value.type "type"] }
def o_903 : Params → Obj := fun P => { cls := Value.type "tuple", data := Data.seq #[] }
def o_483 : Params → Obj := fun P => { cls := Value.type "tuple", data := Data.seq #[] }
def o_766 : Params → Obj := fun P => { cls := Value.type "tuple", data := Data.seq #[Value.str (Str.ofString "frame") 1131, Value.str (Str.ofString "step") 1132, Value.str (Str.ofString "many") 1133] }
def o_1037 : Params → Obj := fun P => { cls := Value.type "code", data := Data.fields #[Value.str (Str.ofString "drop_kind") 1492, Value.str (Str.ofString "drop_kind") 1493, Value.str (Str.ofString "/claim/cut.py") 1494, Value.int 509 0, Value.int 2 0, Value.int 0 0, Value.int 0 0, Value.int 3 0, Value.ref 918, Value.bool true, Value.int 181 0, Value.ref 919, Value.none, Value.ref 920, Value.ref 921, Value.ref 922, Value.int 1498 0, Value.int 509 0, Value.str (Str.ofString "/claim/cut.py") 1499] }
def o_235 : Params → Obj := fun P => { cls := Value.type "super", data := Data.fields #[Value.ref 218, Value.ref 218, Value.ref 218] }
def o_403 : Params → Obj := fun P => { cls := Value.type "tuple", data := Data.seq #[Value.ref 154] }
def o_699 : Params → Obj := fun P => { cls := Value.none, data := Data.func { name := Str.ofString "first_frame", qualname := Str.ofString "first_frame", params := AT59, body := FuncBody.stmts BT59, scope := ST59, globals := 0, closure := [], defaults := Value.none, kwdefaults := Value.none } }
def o_970 : Params → Obj := fun P => { cls := Value.type "function", data := Data.func { name := Str.ofString "check_gone", qualname := Str.ofString "check_gone", params := AT92, body := FuncBody.stmts BT92, scope := ST92, globals := 3, closure := [], defaults := Value.none, kwdefaults := Value.none, pyModule := Value.str (Str.ofString "livehall.kinds") 1374, code := Value.ref 858 } }
def o_562 : Params → Obj := fun P => { cls := Value.none, data := Data.fields #[] }
def o_833 : Params → Obj := fun P => { cls := Value.type "code", data := Data.fields #[Value.str (Str.ofString "line_fields") 1208, Value.str (Str.ofString "line_fields") 1209, Value.str (Str.ofString "/claim/cut.py") 1210, Value.int 334 0, Value.int 2 0, Value.int 0 0, Value.int 0 0, Value.int 3 0, Value.ref 726, Value.bool true, Value.int 181 0, Value.ref 727, Value.none, Value.ref 728, Value.ref 729, Value.ref 730, Value.int 1215 0, Value.int 334 0, Value.str (Str.ofString "/claim/cut.py") 1216] }
def o_122 : Params → Obj := fun P => { cls := Value.none, data := Data.func { name := Str.ofString "parts_in", qualname := Str.ofString "parts_in", params := AT20, body := FuncBody.stmts BT20, scope := ST20, globals := 0, closure := [], defaults := Value.none, kwdefaults := Value.none } }
def o_199 : Params → Obj := fun P => { cls := Value.type "tuple", data := Data.seq #[Value.ref 182] }
def o_359 : Params → Obj := fun P => { cls := Value.none, data := Data.fields #[] }
def o_664 : Params → Obj := fun P => { cls := Value.type "code", data := Data.fields #[Value.str (Str.ofString "__init__") 988, Value.str (Str.ofString "Frame.__init__") 989, Value.str (Str.ofString "/claim/cut.py") 990, Value.int 236 0, Value.int 7 0, Value.int 0 0, Value.int 0 0, Value.int 3 0, Value.ref 566, Value.bool true, Value.int 181 0, Value.ref 567, Value.none, Value.ref 568, Value.ref 569, Value.ref 570, Value.int 998 0, Value.int 236 0, Value.str (Str.ofString "/claim/cut.py") 999] }
def o_935 : Params → Obj := fun P => { cls := Value.type "tuple", data := Data.seq #[Value.str (Str.ofString "changes") 1358, Value.str (Str.ofString "held_rows") 1359, Value.str (Str.ofString "kind_numbers") 1360, Value.str (Str.ofString "kind_rows") 1361, Value.str (Str.ofString "next_numbers") 1362, Value.str (Str.ofString "run_rows") 1363, Value.str (Str.ofString "tables") 1364, Value.str (Str.ofString "thing_rows") 1365] }
def o_527 : Params → Obj := fun P => { cls := Value.type "tuple", data := Data.seq #[] }
def o_798 : Params → Obj := fun P => { cls := Value.none, data := Data.fields #[] }
def o_275 : Params → Obj := fun P => { cls := Value.type "tuple", data := Data.seq #[Value.str (Str.ofString "__class__") 559] }
def o_439 : Params → Obj := fun P => { cls := Value.type "builtin_function_or_method", data := Data.fields #[Value.builtin "object.__init_subclass__", Value.ref 377] }
def o_734 : Params → Obj := fun P => { cls := Value.type "tuple", data := Data.seq #[] }
def o_1002 : Params → Obj := fun P => { cls := Value.none, data := Data.func { name := Str.ofString "rename_made", qualname := Str.ofString "rename_made", params := AT98, body := FuncBody.stmts BT98, scope := ST98, globals := 0, closure := [], defaults := Value.none, kwdefaults := Value.none } }
def o_597 : Params → Obj := fun P => { cls := Value.type "tuple", data := Data.seq #[] }
def o_868 : Params → Obj := fun P => { cls := Value.type "frame", slots := #[some (Value.ref 762), some (Value.ref 3), some (Value.ref 759), none, some (Value.str (Str.ofString "livehall.store") 1250), none, some (Value.ref 0)] }
def o_9 : Params → Obj := fun P => { cls := Value.type "tuple", data := Data.seq #[Value.str (Str.ofString "k") 190] }
def o_25 : Params → Obj := fun P => { cls := Value.type "function", data := Data.func { name := Str.ofString "is_name", qualname := Str.ofString "is_name", params := AT5, body := FuncBody.stmts BT5, scope := ST5, globals := 3, closure := [], defaults := Value.none, kwdefaults := Value.none, pyModule := Value.str (Str.ofString "livehall.values") 194, code := Value.ref 32 } }
def o_57 : Params → Obj := fun P => { cls := Value.type "tuple", data := Data.seq #[] }
def o_128 : Params → Obj := fun P => { cls := Value.type "code", data := Data.fields #[Value.str (Str.ofString "leaves_in") 388, Value.str (Str.ofString "leaves_in") 389, Value.str (Str.ofString "/claim/cut.py") 390, Value.int 70 0, Value.int 2 0, Value.int 0 0, Value.int 0 0, Value.int 3 0, Value.ref 126, Value.bool true, Value.int 181 0, Value.ref 127, Value.none, Value.none, Value.none, Value.ref 128, Value.int 391 0, Value.int 70 0, Value.str (Str.ofString "/claim/cut.py") 392] }
def o_281 : Params → Obj := fun P => { cls := Value.type "function", data := Data.func { name := Str.ofString "__init__", qualname := Str.ofString "BadField.__init__", params := AM30x0, body := FuncBody.stmts BM30x0, scope := SM30x0, globals := 3, closure := [(Str.ofString "__class__", 245)], defaults := Value.none, kwdefaults := Value.none, pyModule := Value.str (Str.ofString "livehall.errors") 416, code := Value.ref 256, closureTuple := Value.ref 250 } }
def o_603 : Params → Obj := fun P => { cls := Value.type "function", data := Data.func { name := Str.ofString "while_orders", qualname := Str.ofString "while_orders", params := AT50, body := FuncBody.stmts BT50, scope := ST50, globals := 3, closure := [], defaults := Value.none, kwdefaults := Value.none, pyModule := Value.str (Str.ofString "livehall.steps") 822, code := Value.ref 512 } }
def o_874 : Params → Obj := fun P => { cls := Value.type "code", data := Data.fields #[Value.str (Str.ofString "__init__") 1264, Value.str (Str.ofString "Kind.__init__") 1265, Value.str (Str.ofString "/claim/cut.py") 1266, Value.int 357 0, Value.int 6 0, Value.int 0 0, Value.int 0 0, Value.int 3 0, Value.ref 764, Value.bool true, Value.int 181 0, Value.ref 765, Value.none, Value.ref 766, Value.ref 767, Value.ref 768, Value.int 1273 0, Value.int 357 0, Value.str (Str.ofString "/claim/cut.py") 1274] }
def o_449 : Params → Obj := fun P => { cls := Value.type "code", data := Data.fields #[Value.str (Str.ofString "NoRun") 728, Value.str (Str.ofString "NoRun") 729, Value.str (Str.ofString "/claim/cut.py") 730, Value.int 141 0, Value.int 0 0, Value.int 0 0, Value.int 0 0, Value.int 0 0, Value.ref 383, Value.bool false, Value.int 181 0, Value.ref 384, Value.none, Value.none, Value.none, Value.none, Value.int 731 0, Value.int 141 0, Value.str (Str.ofString "/claim/cut.py") 732] }
def o_740 : Params → Obj := fun P => { cls := Value.type "tuple", data := Data.seq #[Value.str (Str.ofString "frame") 1101] }
def o_1008 : Params → Obj := fun P => { cls := Value.type "code", data := Data.fields #[Value.str (Str.ofString "reshape") 1454, Value.str (Str.ofString "reshape") 1455, Value.str (Str.ofString "/claim/cut.py") 1456, Value.int 463 0, Value.int 5 0, Value.int 0 0, Value.int 0 0, Value.int 3 0, Value.ref 894, Value.bool true, Value.int 181 0, Value.ref 895, Value.none, Value.none, Value.none, Value.ref 896, Value.int 1457 0, Value.int 463 0, Value.str (Str.ofString "/claim/cut.py") 1458] }
def o_205 : Params → Obj := fun P => { cls := Value.type "code", data := Data.fields #[Value.str (Str.ofString "__init__") 475, Value.str (Str.ofString "Known.__init__") 476, Value.str (Str.ofString "/claim/cut.py") 477, Value.int 102 0, Value.int 2 0, Value.int 0 0, Value.int 0 0, Value.int 3 0, Value.ref 188, Value.bool true, Value.int 181 0, Value.ref 189, Value.none, Value.ref 190, Value.ref 191, Value.ref 192, Value.int 481 0, Value.int 102 0, Value.str (Str.ofString "/claim/cut.py") 482] }
def o_365 : Params → Obj := fun P => { cls := Value.type "super", data := Data.fields #[Value.ref 320, Value.ref 320, Value.ref 320] }
def o_670 : Params → Obj := fun P => { cls := Value.type "getset_descriptor", data := Data.fields #[Value.str (Str.ofString "__weakref__") 1013, Value.ref 575, Value.builtin "ExceptionGroup.__weakref__", Value.none] }
def o_941 : Params → Obj := fun P => { cls := Value.type "builtin_function_or_method", data := Data.fields #[Value.builtin "object.__init_subclass__", Value.ref 829] }
def o_533 : Params → Obj := fun P => { cls := Value.type "type", data := Data.cls { name := Str.ofString "NoText", bases := [Value.ref 154], mro := [Value.ref 449, Value.ref 154, Value.type "ValueError", Value.type "Exception", Value.type "BaseException", Value.type "object"], ns := 448, qualname := Str.ofString "NoText" }, slots := #[some (Value.ref 440), none, some (Value.str (Str.ofString "NoText") 806), some (Value.str (Str.ofString "NoText") 814), some (Value.builtin "ValueError.__new__"), some (Value.bool true)] }
def o_804 : Params → Obj := fun P => { cls := Value.type "tuple", data := Data.seq #[] }
def o_96 : Params → Obj := fun P => { cls := Value.none, data := Data.func { name := Str.ofString "is_leaf", qualname := Str.ofString "is_leaf", params := AT16, body := FuncBody.stmts BT16, scope := ST16, globals := 0, closure := [], defaults := Value.none, kwdefaults := Value.none } }
def o_169 : Params → Obj := fun P => { cls := Value.type "cell", data := Data.cell (some (Value.ref 176)) }
def o_325 : Params → Obj := fun P => { cls := Value.type "dict", data := Data.dict #[{ hash := PyData.keyHash P (Str.ofString "__module__"), key := Value.str (Str.ofString "__module__") 610, val := Value.str (Str.ofString "livehall.errors") 416 }, { hash := PyData.keyHash P (Str.ofString "__qualname__"), key := Value.str (Str.ofString "__qualname__") 612, val := Value.str (Str.ofString "InUse") 611 }, { hash := PyData.keyHash P (Str.ofString "__firstlineno__"), key := Value.str (Str.ofString "__firstlineno__") 614, val := Value.int 124 613 }, { hash := PyData.keyHash P (Str.ofString "__static_attributes__"), key := Value.str (Str.ofString "__static_attributes__") 615, val := Value.ref 294 }] 4 }
def o_635 : Params → Obj := fun P => { cls := Value.type "tuple", data := Data.seq #[] }
def o_909 : Params → Obj := fun P => { cls := Value.type "tuple", data := Data.seq #[Value.str (Str.ofString "self") 1320, Value.str (Str.ofString "table") 1321, Value.str (Str.ofString "key") 1322, Value.str (Str.ofString "row") 1323, Value.str (Str.ofString "rows") 1324] }
def o_493 : Params → Obj := fun P => { cls := Value.type "builtin_function_or_method", data := Data.fields #[Value.builtin "type.__prepare__", Value.type "type"] }
def o_772 : Params → Obj := fun P => { cls := Value.none, data := Data.fields #[] }
def o_245 : Params → Obj := fun P => { cls := Value.type "tuple", data := Data.seq #[] }
def o_409 : Params → Obj := fun P => { cls := Value.type "code", data := Data.fields #[Value.str (Str.ofString "NoName") 685, Value.str (Str.ofString "NoName") 686, Value.str (Str.ofString "/claim/cut.py") 687, Value.int 134 0, Value.int 0 0, Value.int 0 0, Value.int 0 0, Value.int 0 0, Value.ref 351, Value.bool false, Value.int 181 0, Value.ref 352, Value.none, Value.none, Value.none, Value.none, Value.int 688 0, Value.int 134 0, Value.str (Str.ofString "/claim/cut.py") 689] }
def o_705 : Params → Obj := fun P => { cls := Value.type "tuple", data := Data.seq #[] }
def o_976 : Params → Obj := fun P => { cls := Value.type "code", data := Data.fields #[Value.str (Str.ofString "check_come") 1409, Value.str (Str.ofString "check_come") 1410, Value.str (Str.ofString "/claim/cut.py") 1411, Value.int 427 0, Value.int 3 0, Value.int 0 0, Value.int 0 0, Value.int 3 0, Value.ref 860, Value.bool true, Value.int 181 0, Value.ref 861, Value.none, Value.ref 862, Value.ref 863, Value.ref 864, Value.int 1416 0, Value.int 427 0, Value.str (Str.ofString "/claim/cut.py") 1417] }
def o_568 : Params → Obj := fun P => { cls := Value.type "tuple", data := Data.seq #[] }
def o_839 : Params → Obj := fun P => { cls := Value.none, data := Data.func { name := Str.ofString "line_weak", qualname := Str.ofString "line_weak", params := AT80, body := FuncBody.stmts BT80, scope := ST80, globals := 0, closure := [], defaults := Value.none, kwdefaults := Value.none } }
def o_41 : Params → Obj := fun P => { cls := Value.none, data := Data.fields #[] }
def o_75 : Params → Obj := fun P => { cls := Value.type "tuple", data := Data.seq #[Value.str (Str.ofString "name") 291] }
def o_149 : Params → Obj := fun P => { cls := Value.type "tuple", data := Data.seq #[Value.type "ValueError"] }
def o_301 : Params → Obj := fun P => { cls := Value.type "super", data := Data.fields #[Value.ref 272, Value.ref 272, Value.ref 272] }
def o_619 : Params → Obj := fun P => { cls := Value.none, data := Data.fields #[] }
def o_893 : Params → Obj := fun P => { cls := Value.type "tuple", data := Data.seq #[] }
def o_469 : Params → Obj := fun P => { cls := Value.type "type", data := Data.cls { name := Str.ofString "Ended", bases := [Value.ref 154], mro := [Value.ref 401, Value.ref 154, Value.type "ValueError", Value.type "Exception", Value.type "BaseException", Value.type "object"], ns := 400, qualname := Str.ofString "Ended" }, slots := #[some (Value.ref 392), none, some (Value.str (Str.ofString "Ended") 742), some (Value.str (Str.ofString "Ended") 750), some (Value.builtin "ValueError.__new__"), some (Value.bool true)] }
def o_756 : Params → Obj := fun P => { cls := Value.type "function", data := Data.func { name := Str.ofString "step_of", qualname := Str.ofString "step_of", params := AT67, body := FuncBody.stmts BT67, scope := ST67, globals := 3, closure := [], defaults := Value.none, kwdefaults := Value.none, pyModule := Value.str (Str.ofString "livehall.frames") 974, code := Value.ref 656 } }
def o_1027 : Params → Obj := fun P => { cls := Value.type "tuple", data := Data.seq #[] }
def o_225 : Params → Obj := fun P => { cls := Value.type "tuple", data := Data.seq #[Value.str (Str.ofString "__class__") 505] }
def o_389 : Params → Obj := fun P => { cls := Value.type "dict", data := Data.dict #[{ hash := PyData.keyHash P (Str.ofString "__module__"), key := Value.str (Str.ofString "__module__") 674, val := Value.str (Str.ofString "livehall.errors") 416 }, { hash := PyData.keyHash P (Str.ofString "__qualname__"), key := Value.str (Str.ofString "__qualname__") 676, val := Value.str (Str.ofString "BadValue") 675 }, { hash := PyData.keyHash P (Str.ofString "__firstlineno__"), key := Value.str (Str.ofString "__firstlineno__") 678, val := Value.int 132 677 }, { hash := PyData.keyHash P (Str.ofString "__static_attributes__"), key := Value.str (Str.ofString "__static_attributes__") 679, val := Value.ref 342 }] 4 }
def o_689 : Params → Obj := fun P => { cls := Value.type "function", data := Data.func { name := Str.ofString "__init__", qualname := Str.ofString "Run.__init__", params := AM58x0, body := FuncBody.stmts BM58x0, scope := SM58x0, globals := 3, closure := [], defaults := Value.none, kwdefaults := Value.none, pyModule := Value.str (Str.ofString "livehall.frames") 974, code := Value.ref 592 } }
def o_960 : Params → Obj := fun P => { cls := Value.none, data := Data.fields #[] }
def o_552 : Params → Obj := fun P => { cls := Value.type "code", data := Data.fields #[Value.str (Str.ofString "__init__") 842, Value.str (Str.ofString "Builder.__init__") 843, Value.str (Str.ofString "/claim/cut.py") 844, Value.int 157 0, Value.int 1 0, Value.int 0 0, Value.int 0 0, Value.int 3 0, Value.ref 460, Value.bool true, Value.int 181 0, Value.ref 461, Value.none, Value.ref 462, Value.ref 463, Value.ref 464, Value.int 846 0, Value.int 157 0, Value.str (Str.ofString "/claim/cut.py") 847] }
def o_823 : Params → Obj := fun P => { cls := Value.type "tuple", data := Data.seq #[Value.str (Str.ofString "store") 1199, Value.str (Str.ofString "number") 1200, Value.str (Str.ofString "families") 1201, Value.str (Str.ofString "numbers") 1202, Value.str (Str.ofString "waiting") 1203, Value.str (Str.ofString "kind") 1204] }
def o_112 : Params → Obj := fun P => { cls := Value.none, data := Data.fields #[] }
def o_185 : Params → Obj := fun P => { cls := Value.type "super", data := Data.fields #[Value.ref 176, Value.ref 176, Value.ref 176] }
def o_345 : Params → Obj := fun P => { cls := Value.type "frame", slots := #[some (Value.ref 304), some (Value.ref 3), some (Value.ref 301), none, some (Value.str (Str.ofString "livehall.errors") 416), none, some (Value.ref 0)] }
def o_654 : Params → Obj := fun P => { cls := Value.type "dict", data := Data.dict #[{ hash := PyData.keyHash P (Str.ofString "__module__"), key := Value.str (Str.ofString "__module__") 983, val := Value.str (Str.ofString "livehall.frames") 974 }, { hash := PyData.keyHash P (Str.ofString "__qualname__"), key := Value.str (Str.ofString "__qualname__") 985, val := Value.str (Str.ofString "Frame") 984 }, { hash := PyData.keyHash P (Str.ofString "__firstlineno__"), key := Value.str (Str.ofString "__firstlineno__") 987, val := Value.int 234 986 }, { hash := PyData.keyHash P (Str.ofString "__init__"), key := Value.str (Str.ofString "__init__") 1000, val := Value.ref 572 }, { hash := PyData.keyHash P (Str.ofString "__static_attributes__"), key := Value.str (Str.ofString "__static_attributes__") 1010, val := Value.ref 573 }] 5 }
def o_925 : Params → Obj := fun P => { cls := Value.none, data := Data.func { name := Str.ofString "take_changes", qualname := Str.ofString "Store.take_changes", params := AM87x3, body := FuncBody.stmts BM87x3, scope := SM87x3, globals := 0, closure := [], defaults := Value.none, kwdefaults := Value.none } }
def o_513 : Params → Obj := fun P => { cls := Value.type "code", data := Data.fields #[Value.str (Str.ofString "NoBack") 792, Value.str (Str.ofString "NoBack") 793, Value.str (Str.ofString "/claim/cut.py") 794, Value.int 149 0, Value.int 0 0, Value.int 0 0, Value.int 0 0, Value.int 0 0, Value.ref 431, Value.bool false, Value.int 181 0, Value.ref 432, Value.none, Value.none, Value.none, Value.none, Value.int 795 0, Value.int 149 0, Value.str (Str.ofString "/claim/cut.py") 796] }
def o_788 : Params → Obj := fun P => { cls := Value.type "tuple", data := Data.seq #[] }
def o_261 : Params → Obj := fun P => { cls := Value.type "builtin_function_or_method", data := Data.fields #[Value.builtin "object.__init_subclass__", Value.ref 239] }
def o_429 : Params → Obj := fun P => { cls := Value.type "builtin_function_or_method", data := Data.fields #[Value.builtin "type.__prepare__", Value.type "type"] }
def o_721 : Params → Obj := fun P => { cls := Value.type "code", data := Data.fields #[Value.str (Str.ofString "begun") 1072, Value.str (Str.ofString "begun") 1073, Value.str (Str.ofString "/claim/cut.py") 1074, Value.int 268 0, Value.int 1 0, Value.int 0 0, Value.int 0 0, Value.int 3 0, Value.ref 620, Value.bool true, Value.int 181 0, Value.ref 621, Value.none, Value.ref 622, Value.ref 623, Value.ref 624, Value.int 1076 0, Value.int 268 0, Value.str (Str.ofString "/claim/cut.py") 1077] }
def o_992 : Params → Obj := fun P => { cls := Value.type "function", data := Data.func { name := Str.ofString "rename_in_kinds", qualname := Str.ofString "rename_in_kinds", params := AT96, body := FuncBody.stmts BT96, scope := ST96, globals := 3, closure := [], defaults := Value.none, kwdefaults := Value.none, pyModule := Value.str (Str.ofString "livehall.kinds") 1374, code := Value.ref 880 } }
def o_584 : Params → Obj := fun P => { cls := Value.type "getset_descriptor", data := Data.fields #[Value.str (Str.ofString "__weakref__") 886, Value.ref 495, Value.builtin "ExceptionGroup.__weakref__", Value.none] }
def o_855 : Params → Obj := fun P => { cls := Value.none, data := Data.fields #[] }
def o_17 : Params → Obj := fun P => { cls := Value.type "code", data := Data.fields #[Value.str (Str.ofString "all_between") 200, Value.str (Str.ofString "all_between") 201, Value.str (Str.ofString "/claim/cut.py") 202, Value.int 7 0, Value.int 3 0, Value.int 0 0, Value.int 0 0, Value.int 3 0, Value.ref 22, Value.bool true, Value.int 181 0, Value.ref 23, Value.none, Value.none, Value.none, Value.ref 24, Value.int 203 0, Value.int 7 0, Value.str (Str.ofString "/claim/cut.py") 204] }
def o_33 : Params → Obj := fun P => { cls := Value.type "tuple", data := Data.seq #[] }
def o_67 : Params → Obj := fun P => { cls := Value.type "tuple", data := Data.seq #[Value.str (Str.ofString "e") 264] }
def o_136 : Params → Obj := fun P => { cls := Value.type "function", data := Data.func { name := Str.ofString "kinds_in", qualname := Str.ofString "kinds_in", params := AT22, body := FuncBody.stmts BT22, scope := ST22, globals := 3, closure := [], defaults := Value.none, kwdefaults := Value.none, pyModule := Value.str (Str.ofString "livehall.bodies") 253, code := Value.ref 136 } }
def o_293 : Params → Obj := fun P => { cls := Value.type "dict", data := Data.dict #[{ hash := PyData.keyHash P (Str.ofString "__module__"), key := Value.str (Str.ofString "__module__") 578, val := Value.str (Str.ofString "livehall.errors") 416 }, { hash := PyData.keyHash P (Str.ofString "__qualname__"), key := Value.str (Str.ofString "__qualname__") 580, val := Value.str (Str.ofString "Fixed") 579 }, { hash := PyData.keyHash P (Str.ofString "__firstlineno__"), key := Value.str (Str.ofString "__firstlineno__") 582, val := Value.int 120 581 }, { hash := PyData.keyHash P (Str.ofString "__static_attributes__"), key := Value.str (Str.ofString "__static_attributes__") 583, val := Value.ref 270 }] 4 }
def o_611 : Params → Obj := fun P => { cls := Value.type "tuple", data := Data.seq #[] }
def o_882 : Params → Obj := fun P => { cls := Value.type "builtin_function_or_method", data := Data.fields #[Value.builtin "object.__init_subclass__", Value.ref 773] }
def o_461 : Params → Obj := fun P => { cls := Value.type "builtin_function_or_method", data := Data.fields #[Value.builtin "type.__prepare__", Value.type "type"] }
def o_748 : Params → Obj := fun P => { cls := Value.type "code", data := Data.fields #[Value.str (Str.ofString "run_values") 1105, Value.str (Str.ofString "run_values") 1106, Value.str (Str.ofString "/claim/cut.py") 1107, Value.int 284 0, Value.int 1 0, Value.int 0 0, Value.int 0 0, Value.int 3 0, Value.ref 646, Value.bool true, Value.int 181 0, Value.ref 647, Value.none, Value.none, Value.none, Value.ref 648, Value.int 1108 0, Value.int 284 0, Value.str (Str.ofString "/claim/cut.py") 1109] }
def o_1016 : Params → Obj := fun P => { cls := Value.type "function", data := Data.func { name := Str.ofString "move_kind", qualname := Str.ofString "move_kind", params := AT100, body := FuncBody.stmts BT100, scope := ST100, globals := 3, closure := [], defaults := Value.none, kwdefaults := Value.none, pyModule := Value.str (Str.ofString "livehall.kinds") 1374, code := Value.ref 904 } }
def o_217 : Params → Obj := fun P => { cls := Value.type "builtin_function_or_method", data := Data.fields #[Value.builtin "type.__prepare__", Value.type "type"] }
def o_377 : Params → Obj := fun P => { cls := Value.type "frame", slots := #[some (Value.ref 328), some (Value.ref 3), some (Value.ref 325), none, some (Value.str (Str.ofString "livehall.errors") 416), none, some (Value.ref 0)] }
def o_681 : Params → Obj := fun P => { cls := Value.type "code", data := Data.fields #[Value.str (Str.ofString "Run") 1020, Value.str (Str.ofString "Run") 1021, Value.str (Str.ofString "/claim/cut.py") 1022, Value.int 246 0, Value.int 0 0, Value.int 0 0, Value.int 0 0, Value.int 0 0, Value.ref 583, Value.bool false, Value.int 181 0, Value.ref 584, Value.none, Value.none, Value.none, Value.none, Value.int 1023 0, Value.int 246 0, Value.str (Str.ofString "/claim/cut.py") 1024] }
def o_952 : Params → Obj := fun P => { cls := Value.type "tuple", data := Data.seq #[] }
def o_544 : Params → Obj := fun P => { cls := Value.none, data := Data.fields #[Value.int 157 0, Value.int 4 0, Value.ref 465, Value.int 163 0, Value.int 4 0, Value.ref 472, Value.int 167 0, Value.int 4 0, Value.ref 479, Value.int 178 0, Value.int 4 0, Value.ref 486, Value.int 181 0, Value.int 4 0, Value.ref 491] }
def o_812 : Params → Obj := fun P => { cls := Value.none, data := Data.fields #[] }
def o_104 : Params → Obj := fun P => { cls := Value.type "code", data := Data.fields #[Value.str (Str.ofString "shape_of") 352, Value.str (Str.ofString "shape_of") 353, Value.str (Str.ofString "/claim/cut.py") 354, Value.int 35 0, Value.int 2 0, Value.int 0 0, Value.int 0 0, Value.int 3 0, Value.ref 100, Value.bool true, Value.int 181 0, Value.ref 101, Value.none, Value.ref 102, Value.ref 103, Value.ref 104, Value.int 357 0, Value.int 35 0, Value.str (Str.ofString "/claim/cut.py") 358] }
def o_177 : Params → Obj := fun P => { cls := Value.type "tuple", data := Data.seq #[Value.str (Str.ofString "self") 452, Value.str (Str.ofString "name") 453] }
def o_333 : Params → Obj := fun P => { cls := Value.type "super", data := Data.fields #[Value.ref 296, Value.ref 296, Value.ref 296] }
def o_643 : Params → Obj := fun P => { cls := Value.type "dict", data := Data.dict #[{ hash := PyData.keyHash P (Str.ofString "__module__"), key := Value.str (Str.ofString "__module__") 948, val := Value.str (Str.ofString "livehall.steps") 822 }, { hash := PyData.keyHash P (Str.ofString "__firstlineno__"), key := Value.str (Str.ofString "__firstlineno__") 952, val := Value.int 227 951 }, { hash := PyData.keyHash P (Str.ofString "__init__"), key := Value.str (Str.ofString "__init__") 961, val := Value.ref 551 }, { hash := PyData.keyHash P (Str.ofString "__static_attributes__"), key := Value.str (Str.ofString "__static_attributes__") 966, val := Value.ref 552 }, { hash := PyData.keyHash P (Str.ofString "__dict__"), key := Value.str (Str.ofString "__dict__") 968, val := Value.ref 555 }, { hash := PyData.keyHash P (Str.ofString "__weakref__"), key := Value.str (Str.ofString "__weakref__") 970, val := Value.ref 556 }, { hash := PyData.keyHash P (Str.ofString "__doc__"), key := Value.str (Str.ofString "__doc__") 971, val := Value.none }] 4 }
def o_917 : Params → Obj := fun P => { cls := Value.type "tuple", data := Data.seq #[] }
def o_501 : Params → Obj := fun P => { cls := Value.type "type", data := Data.cls { name := Str.ofString "NoFrame", bases := [Value.ref 154], mro := [Value.ref 425, Value.ref 154, Value.type "ValueError", Value.type "Exception", Value.type "BaseException", Value.type "object"], ns := 424, qualname := Str.ofString "NoFrame" }, slots := #[some (Value.ref 416), none, some (Value.str (Str.ofString "NoFrame") 774), some (Value.str (Str.ofString "NoFrame") 782), some (Value.builtin "ValueError.__new__"), some (Value.bool true)] }
def o_780 : Params → Obj := fun P => { cls := Value.type "tuple", data := Data.seq #[Value.str (Str.ofString "store") 1151, Value.str (Str.ofString "name") 1152] }
def o_253 : Params → Obj := fun P => { cls := Value.type "tuple", data := Data.seq #[] }
def o_417 : Params → Obj := fun P => { cls := Value.type "code", data := Data.fields #[Value.str (Str.ofString "__init__") 695, Value.str (Str.ofString "NoName.__init__") 696, Value.str (Str.ofString "/claim/cut.py") 697, Value.int 136 0, Value.int 2 0, Value.int 0 0, Value.int 0 0, Value.int 3 0, Value.ref 356, Value.bool true, Value.int 181 0, Value.ref 357, Value.none, Value.ref 358, Value.ref 359, Value.ref 360, Value.int 701 0, Value.int 136 0, Value.str (Str.ofString "/claim/cut.py") 702] }
def o_713 : Params → Obj := fun P => { cls := Value.none, data := Data.func { name := Str.ofString "chain", qualname := Str.ofString "chain", params := AT61, body := FuncBody.stmts BT61, scope := ST61, globals := 0, closure := [], defaults := Value.none, kwdefaults := Value.none } }
def o_984 : Params → Obj := fun P => { cls := Value.none, data := Data.fields #[] }
def o_576 : Params → Obj := fun P => { cls := Value.none, data := Data.fields #[] }
def o_847 : Params → Obj := fun P => { cls := Value.type "tuple", data := Data.seq #[] }
def o_49 : Params → Obj := fun P => { cls := Value.type "tuple", data := Data.seq #[Value.str (Str.ofString "one") 237, Value.str (Str.ofString "other") 238] }
def o_83 : Params → Obj := fun P => { cls := Value.type "tuple", data := Data.seq #[Value.str (Str.ofString "e") 313, Value.str (Str.ofString "e") 314] }
def o_157 : Params → Obj := fun P => { cls := Value.type "dict", data := Data.dict #[{ hash := PyData.keyHash P (Str.ofString "__module__"), key := Value.str (Str.ofString "__module__") 425, val := Value.str (Str.ofString "livehall.errors") 416 }, { hash := PyData.keyHash P (Str.ofString "__firstlineno__"), key := Value.str (Str.ofString "__firstlineno__") 429, val := Value.int 93 428 }, { hash := PyData.keyHash P (Str.ofString "__static_attributes__"), key := Value.str (Str.ofString "__static_attributes__") 430, val := Value.ref 152 }, { hash := PyData.keyHash P (Str.ofString "__weakref__"), key := Value.str (Str.ofString "__weakref__") 432, val := Value.ref 155 }, { hash := PyData.keyHash P (Str.ofString "__doc__"), key := Value.str (Str.ofString "__doc__") 433, val := Value.none }] 3 }
def o_313 : Params → Obj := fun P => { cls := Value.type "frame", slots := #[some (Value.ref 280), some (Value.ref 3), some (Value.ref 277), none, some (Value.str (Str.ofString "livehall.errors") 416), none, some (Value.ref 0)] }
def o_627 : Params → Obj := fun P => { cls := Value.type "function", data := Data.func { name := Str.ofString "steps_of", qualname := Str.ofString "steps_of", params := AT54, body := FuncBody.stmts BT54, scope := ST54, globals := 3, closure := [], defaults := Value.none, kwdefaults := Value.none, pyModule := Value.str (Str.ofString "livehall.steps") 822, code := Value.ref 536 } }
def o_901 : Params → Obj := fun P => { cls := Value.none, data := Data.fields #[] }
def o_481 : Params → Obj := fun P => { cls := Value.type "code", data := Data.fields #[Value.str (Str.ofString "NoAsk") 760, Value.str (Str.ofString "NoAsk") 761, Value.str (Str.ofString "/claim/cut.py") 762, Value.int 145 0, Value.int 0 0, Value.int 0 0, Value.int 0 0, Value.int 0 0, Value.ref 407, Value.bool false, Value.int 181 0, Value.ref 408, Value.none, Value.none, Value.none, Value.none, Value.int 763 0, Value.int 145 0, Value.str (Str.ofString "/claim/cut.py") 764] }
def o_764 : Params → Obj := fun P => { cls := Value.type "tuple", data := Data.seq #[] }
def o_1035 : Params → Obj := fun P => { cls := Value.type "tuple", data := Data.seq #[] }
def o_233 : Params → Obj := fun P => { cls := Value.type "dict", data := Data.dict #[{ hash := PyData.keyHash P (Str.ofString "__module__"), key := Value.str (Str.ofString "__module__") 497, val := Value.str (Str.ofString "livehall.errors") 416 }, { hash := PyData.keyHash P (Str.ofString "__firstlineno__"), key := Value.str (Str.ofString "__firstlineno__") 501, val := Value.int 105 500 }, { hash := PyData.keyHash P (Str.ofString "__init__"), key := Value.str (Str.ofString "__init__") 510, val := Value.ref 215 }, { hash := PyData.keyHash P (Str.ofString "__static_attributes__"), key := Value.str (Str.ofString "__static_attributes__") 512, val := Value.ref 216 }, { hash := PyData.keyHash P (Str.ofString "__doc__"), key := Value.str (Str.ofString "__doc__") 514, val := Value.none }] 3 }
def o_397 : Params → Obj := fun P => { cls := Value.type "super", data := Data.fields #[Value.ref 344, Value.ref 344, Value.ref 344] }
def o_697 : Params → Obj := fun P => { cls := Value.type "tuple", data := Data.seq #[] }
def o_968 : Params → Obj := fun P => { cls := Value.none, data := Data.func { name := Str.ofString "check_gone", qualname := Str.ofString "check_gone", params := AT92, body := FuncBody.stmts BT92, scope := ST92, globals := 0, closure := [], defaults := Value.none, kwdefaults := Value.none } }
def o_560 : Params → Obj := fun P => { cls := Value.type "function", data := Data.func { name := Str.ofString "new_mark", qualname := Str.ofString "Builder.new_mark", params := AM48x1, body := FuncBody.stmts BM48x1, scope := SM48x1, globals := 3, closure := [], defaults := Value.none, kwdefaults := Value.none, pyModule := Value.str (Str.ofString "livehall.steps") 822, code := Value.ref 472 } }
def o_831 : Params → Obj := fun P => { cls := Value.type "tuple", data := Data.seq #[] }
def o_120 : Params → Obj := fun P => { cls := Value.type "tuple", data := Data.seq #[Value.str (Str.ofString "body") 380, Value.str (Str.ofString "met") 381, Value.str (Str.ofString "waiting") 382, Value.str (Str.ofString "sort") 383, Value.str (Str.ofString "part") 384] }
def o_197 : Params → Obj := fun P => { cls := Value.type "code", data := Data.fields #[Value.str (Str.ofString "Known") 465, Value.str (Str.ofString "Known") 466, Value.str (Str.ofString "/claim/cut.py") 467, Value.int 100 0, Value.int 0 0, Value.int 0 0, Value.int 0 0, Value.int 0 0, Value.ref 183, Value.bool false, Value.int 181 0, Value.ref 184, Value.none, Value.none, Value.none, Value.none, Value.int 468 0, Value.int 100 0, Value.str (Str.ofString "/claim/cut.py") 469] }
def o_357 : Params → Obj := fun P => { cls := Value.type "dict", data := Data.dict #[{ hash := PyData.keyHash P (Str.ofString "__module__"), key := Value.str (Str.ofString "__module__") 642, val := Value.str (Str.ofString "livehall.errors") 416 }, { hash := PyData.keyHash P (Str.ofString "__qualname__"), key := Value.str (Str.ofString "__qualname__") 644, val := Value.str (Str.ofString "NoWay") 643 }, { hash := PyData.keyHash P (Str.ofString "__firstlineno__"), key := Value.str (Str.ofString "__firstlineno__") 646, val := Value.int 128 645 }, { hash := PyData.keyHash P (Str.ofString "__static_attributes__"), key := Value.str (Str.ofString "__static_attributes__") 647, val := Value.ref 318 }] 4 }
def o_662 : Params → Obj := fun P => { cls := Value.type "tuple", data := Data.seq #[] }
def o_933 : Params → Obj := fun P => { cls := Value.type "code", data := Data.fields #[Value.str (Str.ofString "turn") 1345, Value.str (Str.ofString "Store.turn") 1346, Value.str (Str.ofString "/claim/cut.py") 1347, Value.int 395 0, Value.int 2 0, Value.int 0 0, Value.int 0 0, Value.int 3 0, Value.ref 820, Value.bool true, Value.int 181 0, Value.ref 821, Value.none, Value.ref 822, Value.ref 823, Value.ref 824, Value.int 1355 0, Value.int 395 0, Value.str (Str.ofString "/claim/cut.py") 1356] }
def o_525 : Params → Obj := fun P => { cls := Value.type "builtin_function_or_method", data := Data.fields #[Value.builtin "type.__prepare__", Value.type "type"] }
def o_796 : Params → Obj := fun P => { cls := Value.type "function", data := Data.func { name := Str.ofString "kind_names", qualname := Str.ofString "kind_names", params := AT74, body := FuncBody.stmts BT74, scope := ST74, globals := 3, closure := [], defaults := Value.none, kwdefaults := Value.none, pyModule := Value.str (Str.ofString "livehall.lines") 1146, code := Value.ref 696 } }
def o_273 : Params → Obj := fun P => { cls := Value.type "frame", slots := #[some (Value.ref 248), some (Value.ref 3), some (Value.ref 244), none, some (Value.str (Str.ofString "livehall.errors") 416), none, some (Value.ref 0)] }
def o_437 : Params → Obj := fun P => { cls := Value.type "type", data := Data.cls { name := Str.ofString "Same", bases := [Value.ref 154], mro := [Value.ref 377, Value.ref 154, Value.type "ValueError", Value.type "Exception", Value.type "BaseException", Value.type "object"], ns := 376, qualname := Str.ofString "Same" }, slots := #[some (Value.ref 368), none, some (Value.str (Str.ofString "Same") 710), some (Value.str (Str.ofString "Same") 718), some (Value.builtin "ValueError.__new__"), some (Value.bool true)] }
def o_732 : Params → Obj := fun P => { cls := Value.none, data := Data.fields #[] }
def o_1000 : Params → Obj := fun P => { cls := Value.type "tuple", data := Data.seq #[Value.str (Str.ofString "store") 1446, Value.str (Str.ofString "names") 1447, Value.str (Str.ofString "change") 1448] }
def o_592 : Params → Obj := fun P => { cls := Value.type "code", data := Data.fields #[Value.str (Str.ofString "when_orders") 891, Value.str (Str.ofString "when_orders") 892, Value.str (Str.ofString "/claim/cut.py") 893, Value.int 185 0, Value.int 2 0, Value.int 0 0, Value.int 0 0, Value.int 3 0, Value.ref 500, Value.bool true, Value.int 181 0, Value.ref 501, Value.none, Value.ref 502, Value.ref 503, Value.ref 504, Value.int 898 0, Value.int 185 0, Value.str (Str.ofString "/claim/cut.py") 899] }
def o_866 : Params → Obj := fun P => { cls := Value.none, data := Data.fields #[Value.int 357 0, Value.int 4 0, Value.ref 769] }
def o_13 : Params → Obj := fun P => { cls := Value.type "function", data := Data.func { name := Str.ofString "_wall", qualname := Str.ofString "_wall", params := AT0, body := FuncBody.stmts BT0, scope := ST0, globals := 3, closure := [], defaults := Value.none, kwdefaults := Value.none, pyModule := Value.str (Str.ofString "__main__") 164, code := Value.ref 20 } }
def o_29 : Params → Obj := fun P => { cls := Value.type "tuple", data := Data.seq #[] }
def o_63 : Params → Obj := fun P => { cls := Value.type "dict", data := Data.dict #[{ hash := PyData.keyHash P (Str.ofString "do"), key := Value.str (Str.ofString "do") 255, val := Value.ref 70 }, { hash := PyData.keyHash P (Str.ofString "let"), key := Value.str (Str.ofString "let") 257, val := Value.ref 71 }, { hash := PyData.keyHash P (Str.ofString "put"), key := Value.str (Str.ofString "put") 260, val := Value.ref 72 }, { hash := PyData.keyHash P (Str.ofString "give"), key := Value.str (Str.ofString "give") 263, val := Value.ref 73 }, { hash := PyData.keyHash P (Str.ofString "when"), key := Value.str (Str.ofString "when") 265, val := Value.ref 74 }, { hash := PyData.keyHash P (Str.ofString "while"), key := Value.str (Str.ofString "while") 269, val := Value.ref 75 }, { hash := PyData.keyHash P (Str.ofString "raise"), key := Value.str (Str.ofString "raise") 272, val := Value.ref 76 }, { hash := PyData.keyHash P (Str.ofString "try"), key := Value.str (Str.ofString "try") 274, val := Value.ref 77 }] 8 }
def o_132 : Params → Obj := fun P => { cls := Value.type "tuple", data := Data.seq #[Value.str (Str.ofString "body") 397] }
def o_285 : Params → Obj := fun P => { cls := Value.type "super", data := Data.fields #[Value.ref 260, Value.ref 260, Value.ref 260] }
def o_607 : Params → Obj := fun P => { cls := Value.type "tuple", data := Data.seq #[] }
def o_878 : Params → Obj := fun P => { cls := Value.type "type", data := Data.cls { name := Str.ofString "Kind", bases := [Value.type "object"], mro := [Value.ref 773, Value.type "object"], ns := 772, qualname := Str.ofString "Kind" }, slots := #[none, none, some (Value.str (Str.ofString "Kind") 1252), some (Value.str (Str.ofString "Kind") 1260), some (Value.builtin "object.__new__"), some (Value.bool true)] }
def o_453 : Params → Obj := fun P => { cls := Value.type "type", data := Data.cls { name := Str.ofString "NoRun", bases := [Value.ref 154], mro := [Value.ref 389, Value.ref 154, Value.type "ValueError", Value.type "Exception", Value.type "BaseException", Value.type "object"], ns := 388, qualname := Str.ofString "NoRun" }, slots := #[some (Value.ref 380), none, some (Value.str (Str.ofString "NoRun") 726), some (Value.str (Str.ofString "NoRun") 734), some (Value.builtin "ValueError.__new__"), some (Value.bool true)] }
def o_744 : Params → Obj := fun P => { cls := Value.type "function", data := Data.func { name := Str.ofString "frame_values", qualname := Str.ofString "frame_values", params := AT65, body := FuncBody.stmts BT65, scope := ST65, globals := 3, closure := [], defaults := Value.none, kwdefaults := Value.none, pyModule := Value.str (Str.ofString "livehall.frames") 974, code := Value.ref 644 } }
def o_1012 : Params → Obj := fun P => { cls := Value.type "tuple", data := Data.seq #[Value.str (Str.ofString "store") 1463, Value.str (Str.ofString "kind") 1464, Value.str (Str.ofString "elder") 1465, Value.str (Str.ofString "number") 1466, Value.str (Str.ofString "above") 1467, Value.str (Str.ofString "family") 1468, Value.str (Str.ofString "own") 1469, Value.str (Str.ofString "field") 1470, Value.str (Str.ofString "row") 1471] }
def o_209 : Params → Obj := fun P => { cls := Value.type "type", data := Data.cls { name := Str.ofString "Known", bases := [Value.ref 154], mro := [Value.ref 197, Value.ref 154, Value.type "ValueError", Value.type "Exception", Value.type "BaseException", Value.type "object"], ns := 196, qualname := Str.ofString "Known" }, slots := #[some (Value.ref 179), none, some (Value.str (Str.ofString "Known") 463), some (Value.str (Str.ofString "Known") 471), some (Value.builtin "ValueError.__new__"), some (Value.bool true)] }
def o_373 : Params → Obj := fun P => { cls := Value.type "dict", data := Data.dict #[{ hash := PyData.keyHash P (Str.ofString "__module__"), key := Value.str (Str.ofString "__module__") 658, val := Value.str (Str.ofString "livehall.errors") 416 }, { hash := PyData.keyHash P (Str.ofString "__qualname__"), key := Value.str (Str.ofString "__qualname__") 660, val := Value.str (Str.ofString "NoThing") 659 }, { hash := PyData.keyHash P (Str.ofString "__firstlineno__"), key := Value.str (Str.ofString "__firstlineno__") 662, val := Value.int 130 661 }, { hash := PyData.keyHash P (Str.ofString "__static_attributes__"), key := Value.str (Str.ofString "__static_attributes__") 663, val := Value.ref 330 }] 4 }
def o_677 : Params → Obj := fun P => { cls := Value.type "builtin_function_or_method", data := Data.fields #[Value.builtin "type.__prepare__", Value.type "type"] }
def o_948 : Params → Obj := fun P => { cls := Value.type "tuple", data := Data.seq #[] }
def o_540 : Params → Obj := fun P => { cls := Value.type "tuple", data := Data.seq #[] }
def o_808 : Params → Obj := fun P => { cls := Value.none, data := Data.func { name := Str.ofString "heirs_by_elder", qualname := Str.ofString "heirs_by_elder", params := AT76, body := FuncBody.stmts BT76, scope := ST76, globals := 0, closure := [], defaults := Value.none, kwdefaults := Value.none } }
def o_100 : Params → Obj := fun P => { cls := Value.none, data := Data.fields #[] }
def o_173 : Params → Obj := fun P => { cls := Value.type "frame", slots := #[some (Value.ref 164), some (Value.ref 3), some (Value.ref 160), none, some (Value.str (Str.ofString "livehall.errors") 416), none, some (Value.ref 0)] }
def o_329 : Params → Obj := fun P => { cls := Value.type "frame", slots := #[some (Value.ref 292), some (Value.ref 3), some (Value.ref 289), none, some (Value.str (Str.ofString "livehall.errors") 416), none, some (Value.ref 0)] }
def o_639 : Params → Obj := fun P => { cls := Value.none, data := Data.func { name := Str.ofString "__init__", qualname := Str.ofString "Way.__init__", params := AM55x0, body := FuncBody.stmts BM55x0, scope := SM55x0, globals := 0, closure := [], defaults := Value.none, kwdefaults := Value.none } }
def o_913 : Params → Obj := fun P => { cls := Value.type "function", data := Data.func { name := Str.ofString "write", qualname := Str.ofString "Store.write", params := AM87x1, body := FuncBody.stmts BM87x1, scope := SM87x1, globals := 3, closure := [], defaults := Value.none, kwdefaults := Value.none, pyModule := Value.str (Str.ofString "livehall.store") 1250, code := Value.ref 804 } }
def o_497 : Params → Obj := fun P => { cls := Value.type "code", data := Data.fields #[Value.str (Str.ofString "NoFrame") 776, Value.str (Str.ofString "NoFrame") 777, Value.str (Str.ofString "/claim/cut.py") 778, Value.int 147 0, Value.int 0 0, Value.int 0 0, Value.int 0 0, Value.int 0 0, Value.ref 419, Value.bool false, Value.int 181 0, Value.ref 420, Value.none, Value.none, Value.none, Value.none, Value.int 779 0, Value.int 147 0, Value.str (Str.ofString "/claim/cut.py") 780] }
def o_776 : Params → Obj := fun P => { cls := Value.type "code", data := Data.fields #[Value.str (Str.ofString "put_ready") 1137, Value.str (Str.ofString "put_ready") 1138, Value.str (Str.ofString "/claim/cut.py") 1139, Value.int 299 0, Value.int 3 0, Value.int 0 0, Value.int 0 0, Value.int 3 0, Value.ref 672, Value.bool true, Value.int 181 0, Value.ref 673, Value.none, Value.ref 674, Value.ref 675, Value.ref 676, Value.int 1143 0, Value.int 299 0, Value.str (Str.ofString "/claim/cut.py") 1144] }
def o_249 : Params → Obj := fun P => { cls := Value.type "tuple", data := Data.seq #[Value.ref 224] }
def o_413 : Params → Obj := fun P => { cls := Value.none, data := Data.fields #[] }
def o_709 : Params → Obj := fun P => { cls := Value.type "tuple", data := Data.seq #[] }
def o_980 : Params → Obj := fun P => { cls := Value.none, data := Data.func { name := Str.ofString "refit", qualname := Str.ofString "refit", params := AT94, body := FuncBody.stmts BT94, scope := ST94, globals := 0, closure := [], defaults := Value.none, kwdefaults := Value.none } }
def o_572 : Params → Obj := fun P => { cls := Value.none, data := Data.func { name := Str.ofString "placed", qualname := Str.ofString "Builder.placed", params := AM48x3, body := FuncBody.stmts BM48x3, scope := SM48x3, globals := 0, closure := [], defaults := Value.none, kwdefaults := Value.none } }
def o_843 : Params → Obj := fun P => { cls := Value.none, data := Data.fields #[] }
def o_45 : Params → Obj := fun P => { cls := Value.type "code", data := Data.fields #[Value.str (Str.ofString "is_whole") 227, Value.str (Str.ofString "is_whole") 228, Value.str (Str.ofString "/claim/cut.py") 229, Value.int 15 0, Value.int 1 0, Value.int 0 0, Value.int 0 0, Value.int 3 0, Value.ref 48, Value.bool true, Value.int 181 0, Value.ref 49, Value.none, Value.ref 50, Value.ref 51, Value.ref 52, Value.int 231 0, Value.int 15 0, Value.str (Str.ofString "/claim/cut.py") 232] }
def o_79 : Params → Obj := fun P => { cls := Value.type "tuple", data := Data.seq #[Value.str (Str.ofString "kind") 302] }
def o_153 : Params → Obj := fun P => { cls := Value.none, data := Data.fields #[] }
def o_309 : Params → Obj := fun P => { cls := Value.type "dict", data := Data.dict #[{ hash := PyData.keyHash P (Str.ofString "__module__"), key := Value.str (Str.ofString "__module__") 594, val := Value.str (Str.ofString "livehall.errors") 416 }, { hash := PyData.keyHash P (Str.ofString "__qualname__"), key := Value.str (Str.ofString "__qualname__") 596, val := Value.str (Str.ofString "Ring") 595 }, { hash := PyData.keyHash P (Str.ofString "__firstlineno__"), key := Value.str (Str.ofString "__firstlineno__") 598, val := Value.int 122 597 }, { hash := PyData.keyHash P (Str.ofString "__static_attributes__"), key := Value.str (Str.ofString "__static_attributes__") 599, val := Value.ref 282 }] 4 }
def o_623 : Params → Obj := fun P => { cls := Value.type "tuple", data := Data.seq #[] }
def o_897 : Params → Obj := fun P => { cls := Value.none, data := Data.fields #[Value.int 370 0, Value.int 4 0, Value.ref 797, Value.int 380 0, Value.int 4 0, Value.ref 804, Value.int 385 0, Value.int 4 0, Value.ref 811, Value.int 390 0, Value.int 4 0, Value.ref 818, Value.int 395 0, Value.int 4 0, Value.ref 825] }
def o_477 : Params → Obj := fun P => { cls := Value.type "builtin_function_or_method", data := Data.fields #[Value.builtin "type.__prepare__", Value.type "type"] }
def o_760 : Params → Obj := fun P => { cls := Value.type "tuple", data := Data.seq #[] }
def o_1031 : Params → Obj := fun P => { cls := Value.type "function", data := Data.func { name := Str.ofString "is_made", qualname := Str.ofString "is_made", params := AT102, body := FuncBody.stmts BT102, scope := ST102, globals := 3, closure := [], defaults := Value.none, kwdefaults := Value.none, pyModule := Value.str (Str.ofString "livehall.kinds") 1374, code := Value.ref 916 } }
def o_229 : Params → Obj := fun P => { cls := Value.none, data := Data.func { name := Str.ofString "__init__", qualname := Str.ofString "NoKind.__init__", params := AM28x0, body := FuncBody.stmts BM28x0, scope := SM28x0, globals := 0, closure := [], defaults := Value.none, kwdefaults := Value.none } }
def o_393 : Params → Obj := fun P => { cls := Value.type "frame", slots := #[some (Value.ref 340), some (Value.ref 3), some (Value.ref 337), none, some (Value.str (Str.ofString "livehall.errors") 416), none, some (Value.ref 0)] }
def o_693 : Params → Obj := fun P => { cls := Value.type "getset_descriptor", data := Data.fields #[Value.str (Str.ofString "__dict__") 1042, Value.ref 596, Value.builtin "function.__dict__", Value.builtin "function.__dict__#set"] }
def o_964 : Params → Obj := fun P => { cls := Value.type "tuple", data := Data.seq #[] }
def o_556 : Params → Obj := fun P => { cls := Value.type "tuple", data := Data.seq #[Value.str (Str.ofString "self") 852] }
def o_827 : Params → Obj := fun P => { cls := Value.type "function", data := Data.func { name := Str.ofString "numbers_below", qualname := Str.ofString "numbers_below", params := AT78, body := FuncBody.stmts BT78, scope := ST78, globals := 3, closure := [], defaults := Value.none, kwdefaults := Value.none, pyModule := Value.str (Str.ofString "livehall.lines") 1146, code := Value.ref 724 } }
def o_116 : Params → Obj := fun P => { cls := Value.type "code", data := Data.fields #[Value.str (Str.ofString "is_body") 366, Value.str (Str.ofString "is_body") 367, Value.str (Str.ofString "/claim/cut.py") 368, Value.int 48 0, Value.int 1 0, Value.int 0 0, Value.int 0 0, Value.int 3 0, Value.ref 112, Value.bool true, Value.int 181 0, Value.ref 113, Value.none, Value.ref 114, Value.ref 115, Value.ref 116, Value.int 374 0, Value.int 48 0, Value.str (Str.ofString "/claim/cut.py") 375] }
def o_193 : Params → Obj := fun P => { cls := Value.type "dict", data := Data.dict #[{ hash := PyData.keyHash P (Str.ofString "__module__"), key := Value.str (Str.ofString "__module__") 470, val := Value.str (Str.ofString "livehall.errors") 416 }, { hash := PyData.keyHash P (Str.ofString "__qualname__"), key := Value.str (Str.ofString "__qualname__") 472, val := Value.str (Str.ofString "Known") 471 }, { hash := PyData.keyHash P (Str.ofString "__firstlineno__"), key := Value.str (Str.ofString "__firstlineno__") 474, val := Value.int 100 473 }, { hash := PyData.keyHash P (Str.ofString "__init__"), key := Value.str (Str.ofString "__init__") 483, val := Value.ref 194 }, { hash := PyData.keyHash P (Str.ofString "__static_attributes__"), key := Value.str (Str.ofString "__static_attributes__") 485, val := Value.ref 195 }, { hash := PyData.keyHash P (Str.ofString "__classcell__"), key := Value.str (Str.ofString "__classcell__") 486, val := Value.ref 182 }] 6 }
def o_349 : Params → Obj := fun P => { cls := Value.type "super", data := Data.fields #[Value.ref 308, Value.ref 308, Value.ref 308] }
def o_658 : Params → Obj := fun P => { cls := Value.type "frame", slots := #[some (Value.ref 564), some (Value.ref 3), some (Value.ref 561), none, some (Value.str (Str.ofString "livehall.frames") 974), none, some (Value.ref 0)] }
def o_929 : Params → Obj := fun P => { cls := Value.none, data := Data.fields #[] }
def o_517 : Params → Obj := fun P => { cls := Value.type "type", data := Data.cls { name := Str.ofString "NoBack", bases := [Value.ref 154], mro := [Value.ref 437, Value.ref 154, Value.type "ValueError", Value.type "Exception", Value.type "BaseException", Value.type "object"], ns := 436, qualname := Str.ofString "NoBack" }, slots := #[some (Value.ref 428), none, some (Value.str (Str.ofString "NoBack") 790), some (Value.str (Str.ofString "NoBack") 798), some (Value.builtin "ValueError.__new__"), some (Value.bool true)] }
def o_792 : Params → Obj := fun P => { cls := Value.type "tuple", data := Data.seq #[] }
def o_269 : Params → Obj := fun P => { cls := Value.type "cell", data := Data.cell (some (Value.ref 260)) }
def o_433 : Params → Obj := fun P => { cls := Value.type "code", data := Data.fields #[Value.str (Str.ofString "Same") 712, Value.str (Str.ofString "Same") 713, Value.str (Str.ofString "/claim/cut.py") 714, Value.int 139 0, Value.int 0 0, Value.int 0 0, Value.int 0 0, Value.int 0 0, Value.ref 371, Value.bool false, Value.int 181 0, Value.ref 372, Value.none, Value.none, Value.none, Value.none, Value.int 715 0, Value.int 139 0, Value.str (Str.ofString "/claim/cut.py") 716] }
def o_725 : Params → Obj := fun P => { cls := Value.none, data := Data.func { name := Str.ofString "halted_runs", qualname := Str.ofString "halted_runs", params := AT63, body := FuncBody.stmts BT63, scope := ST63, globals := 0, closure := [], defaults := Value.none, kwdefaults := Value.none } }
def o_996 : Params → Obj := fun P => { cls := Value.type "code", data := Data.fields #[Value.str (Str.ofString "rename_fields") 1437, Value.str (Str.ofString "rename_fields") 1438, Value.str (Str.ofString "/claim/cut.py") 1439, Value.int 447 0, Value.int 3 0, Value.int 0 0, Value.int 0 0, Value.int 3 0, Value.ref 882, Value.bool true, Value.int 181 0, Value.ref 883, Value.none, Value.none, Value.none, Value.ref 884, Value.int 1440 0, Value.int 447 0, Value.str (Str.ofString "/claim/cut.py") 1441] }
def o_588 : Params → Obj := fun P => { cls := Value.none, data := Data.fields #[] }
def o_862 : Params → Obj := fun P => { cls := Value.type "tuple", data := Data.seq #[] }
def o_21 : Params → Obj := fun P => { cls := Value.type "tuple", data := Data.seq #[Value.str (Str.ofString "thing") 209] }
def o_37 : Params → Obj := fun P => { cls := Value.none, data := Data.func { name := Str.ofString "is_plain_value", qualname := Str.ofString "is_plain_value", params := AT7, body := FuncBody.stmts BT7, scope := ST7, globals := 0, closure := [], defaults := Value.none, kwdefaults := Value.none } }
def o_71 : Params → Obj := fun P => { cls := Value.type "tuple", data := Data.seq #[Value.str (Str.ofString "body") 275, Value.str (Str.ofString "name") 276, Value.str (Str.ofString "body") 277] }
def o_140 : Params → Obj := fun P => { cls := Value.type "tuple", data := Data.seq #[] }
def o_297 : Params → Obj := fun P => { cls := Value.type "frame", slots := #[some (Value.ref 268), some (Value.ref 3), some (Value.ref 265), none, some (Value.str (Str.ofString "livehall.errors") 416), none, some (Value.ref 0)] }
def o_615 : Params → Obj := fun P => { cls := Value.none, data := Data.func { name := Str.ofString "row_orders", qualname := Str.ofString "row_orders", params := AT52, body := FuncBody.stmts BT52, scope := ST52, globals := 0, closure := [], defaults := Value.none, kwdefaults := Value.none } }
def o_886 : Params → Obj := fun P => { cls := Value.type "tuple", data := Data.seq #[] }
def o_465 : Params → Obj := fun P => { cls := Value.type "code", data := Data.fields #[Value.str (Str.ofString "Ended") 744, Value.str (Str.ofString "Ended") 745, Value.str (Str.ofString "/claim/cut.py") 746, Value.int 143 0, Value.int 0 0, Value.int 0 0, Value.int 0 0, Value.int 0 0, Value.ref 395, Value.bool false, Value.int 181 0, Value.ref 396, Value.none, Value.none, Value.none, Value.none, Value.int 747 0, Value.int 143 0, Value.str (Str.ofString "/claim/cut.py") 748] }
def o_752 : Params → Obj := fun P => { cls := Value.type "tuple", data := Data.seq #[Value.str (Str.ofString "frame") 1114] }
def o_1020 : Params → Obj := fun P => { cls := Value.type "tuple", data := Data.seq #[] }
def o_221 : Params → Obj := fun P => { cls := Value.none, data := Data.fields #[Value.int 107 0, Value.int 4 0, Value.ref 214] }
def o_381 : Params → Obj := fun P => { cls := Value.type "super", data := Data.fields #[Value.ref 332, Value.ref 332, Value.ref 332] }
def o_685 : Params → Obj := fun P => { cls := Value.type "tuple", data := Data.seq #[Value.str (Str.ofString "self") 1033, Value.str (Str.ofString "top") 1034, Value.str (Str.ofString "outcome") 1035] }
def o_956 : Params → Obj := fun P => { cls := Value.none, data := Data.func { name := Str.ofString "check_own_fields", qualname := Str.ofString "check_own_fields", params := AT90, body := FuncBody.stmts BT90, scope := ST90, globals := 0, closure := [], defaults := Value.none, kwdefaults := Value.none } }
def o_548 : Params → Obj := fun P => { cls := Value.none, data := Data.fields #[] }
def o_816 : Params → Obj := fun P => { cls := Value.type "code", data := Data.fields #[Value.str (Str.ofString "heir_numbers") 1188, Value.str (Str.ofString "heir_numbers") 1189, Value.str (Str.ofString "/claim/cut.py") 1190, Value.int 323 0, Value.int 2 0, Value.int 0 0, Value.int 0 0, Value.int 3 0, Value.ref 712, Value.bool true, Value.int 181 0, Value.ref 713, Value.none, Value.ref 714, Value.ref 715, Value.ref 716, Value.int 1193 0, Value.int 323 0, Value.str (Str.ofString "/claim/cut.py") 1194] }
def o_108 : Params → Obj := fun P => { cls := Value.none, data := Data.func { name := Str.ofString "parts_of", qualname := Str.ofString "parts_of", params := AT18, body := FuncBody.stmts BT18, scope := ST18, globals := 0, closure := [], defaults := Value.none, kwdefaults := Value.none } }
def o_181 : Params → Obj := fun P => { cls := Value.type "function", data := Data.func { name := Str.ofString "__init__", qualname := Str.ofString "BadName.__init__", params := AM26x0, body := FuncBody.stmts BM26x0, scope := SM26x0, globals := 3, closure := [(Str.ofString "__class__", 161)], defaults := Value.none, kwdefaults := Value.none, pyModule := Value.str (Str.ofString "livehall.errors") 416, code := Value.ref 172, closureTuple := Value.ref 166 } }
def o_341 : Params → Obj := fun P => { cls := Value.type "dict", data := Data.dict #[{ hash := PyData.keyHash P (Str.ofString "__module__"), key := Value.str (Str.ofString "__module__") 626, val := Value.str (Str.ofString "livehall.errors") 416 }, { hash := PyData.keyHash P (Str.ofString "__qualname__"), key := Value.str (Str.ofString "__qualname__") 628, val := Value.str (Str.ofString "BadBody") 627 }, { hash := PyData.keyHash P (Str.ofString "__firstlineno__"), key := Value.str (Str.ofString "__firstlineno__") 630, val := Value.int 126 629 }, { hash := PyData.keyHash P (Str.ofString "__static_attributes__"), key := Value.str (Str.ofString "__static_attributes__") 631, val := Value.ref 306 }] 4 }
def o_647 : Params → Obj := fun P => { cls := Value.type "super", data := Data.fields #[Value.ref 554, Value.ref 554, Value.ref 554] }
def o_921 : Params → Obj := fun P => { cls := Value.type "tuple", data := Data.seq #[] }
def o_509 : Params → Obj := fun P => { cls := Value.type "builtin_function_or_method", data := Data.fields #[Value.builtin "type.__prepare__", Value.type "type"] }
def o_784 : Params → Obj := fun P => { cls := Value.type "function", data := Data.func { name := Str.ofString "kind_number", qualname := Str.ofString "kind_number", params := AT72, body := FuncBody.stmts BT72, scope := ST72, globals := 3, closure := [], defaults := Value.none, kwdefaults := Value.none, pyModule := Value.str (Str.ofString "livehall.lines") 1146, code := Value.ref 684 } }
def o_257 : Params → Obj := fun P => { cls := Value.type "tuple", data := Data.seq #[Value.str (Str.ofString "field") 538] }
def o_421 : Params → Obj := fun P => { cls := Value.type "type", data := Data.cls { name := Str.ofString "NoName", bases := [Value.ref 154], mro := [Value.ref 365, Value.ref 154, Value.type "ValueError", Value.type "Exception", Value.type "BaseException", Value.type "object"], ns := 364, qualname := Str.ofString "NoName" }, slots := #[some (Value.ref 347), none, some (Value.str (Str.ofString "NoName") 683), some (Value.str (Str.ofString "NoName") 691), some (Value.builtin "ValueError.__new__"), some (Value.bool true)] }
def o_717 : Params → Obj := fun P => { cls := Value.none, data := Data.fields #[] }
def o_988 : Params → Obj := fun P => { cls := Value.type "tuple", data := Data.seq #[] }
def o_580 : Params → Obj := fun P => { cls := Value.type "tuple", data := Data.seq #[Value.str (Str.ofString "catches") 879, Value.str (Str.ofString "guards") 880, Value.str (Str.ofString "marks") 881, Value.str (Str.ofString "steps") 882] }
def o_851 : Params → Obj := fun P => { cls := Value.none, data := Data.func { name := Str.ofString "finder", qualname := Str.ofString "finder", params := AT82, body := FuncBody.stmts BT82, scope := ST82, globals := 0, closure := [], defaults := Value.none, kwdefaults := Value.none } }
def o_53 : Params → Obj := fun P => { cls := Value.type "function", data := Data.func { name := Str.ofString "same_leaf", qualname := Str.ofString "same_leaf", params := AT9, body := FuncBody.stmts BT9, scope := ST9, globals := 3, closure := [], defaults := Value.none, kwdefaults := Value.none, pyModule := Value.str (Str.ofString "livehall.values") 194, code := Value.ref 60 } }
def o_92 : Params → Obj := fun P => { cls := Value.type "tuple", data := Data.seq #[] }
def o_161 : Params → Obj := fun P => { cls := Value.type "builtin_function_or_method", data := Data.fields #[Value.builtin "object.__init_subclass__", Value.ref 154] }
def o_317 : Params → Obj := fun P => { cls := Value.type "super", data := Data.fields #[Value.ref 284, Value.ref 284, Value.ref 284] }
def o_631 : Params → Obj := fun P => { cls := Value.type "tuple", data := Data.seq #[] }
def o_905 : Params → Obj := fun P => { cls := Value.type "code", data := Data.fields #[Value.str (Str.ofString "__init__") 1310, Value.str (Str.ofString "Store.__init__") 1311, Value.str (Str.ofString "/claim/cut.py") 1312, Value.int 370 0, Value.int 1 0, Value.int 0 0, Value.int 0 0, Value.int 3 0, Value.ref 792, Value.bool true, Value.int 181 0, Value.ref 793, Value.none, Value.ref 794, Value.ref 795, Value.ref 796, Value.int 1314 0, Value.int 370 0, Value.str (Str.ofString "/claim/cut.py") 1315] }
def o_485 : Params → Obj := fun P => { cls := Value.type "type", data := Data.cls { name := Str.ofString "NoAsk", bases := [Value.ref 154], mro := [Value.ref 413, Value.ref 154, Value.type "ValueError", Value.type "Exception", Value.type "BaseException", Value.type "object"], ns := 412, qualname := Str.ofString "NoAsk" }, slots := #[some (Value.ref 404), none, some (Value.str (Str.ofString "NoAsk") 758), some (Value.str (Str.ofString "NoAsk") 766), some (Value.builtin "ValueError.__new__"), some (Value.bool true)] }
def o_768 : Params → Obj := fun P => { cls := Value.none, data := Data.func { name := Str.ofString "take_ready", qualname := Str.ofString "take_ready", params := AT69, body := FuncBody.stmts BT69, scope := ST69, globals := 0, closure := [], defaults := Value.none, kwdefaults := Value.none } }
def o_241 : Params → Obj := fun P => { cls := Value.type "tuple", data := Data.seq #[Value.ref 154] }
def o_405 : Params → Obj := fun P => { cls := Value.type "dict", data := Data.dict #[{ hash := PyData.keyHash P (Str.ofString "__module__"), key := Value.str (Str.ofString "__module__") 690, val := Value.str (Str.ofString "livehall.errors") 416 }, { hash := PyData.keyHash P (Str.ofString "__qualname__"), key := Value.str (Str.ofString "__qualname__") 692, val := Value.str (Str.ofString "NoName") 691 }, { hash := PyData.keyHash P (Str.ofString "__firstlineno__"), key := Value.str (Str.ofString "__firstlineno__") 694, val := Value.int 134 693 }, { hash := PyData.keyHash P (Str.ofString "__init__"), key := Value.str (Str.ofString "__init__") 703, val := Value.ref 362 }, { hash := PyData.keyHash P (Str.ofString "__static_attributes__"), key := Value.str (Str.ofString "__static_attributes__") 705, val := Value.ref 363 }, { hash := PyData.keyHash P (Str.ofString "__classcell__"), key := Value.str (Str.ofString "__classcell__") 706, val := Value.ref 350 }] 6 }
def o_701 : Params → Obj := fun P => { cls := Value.type "function", data := Data.func { name := Str.ofString "first_frame", qualname := Str.ofString "first_frame", params := AT59, body := FuncBody.stmts BT59, scope := ST59, globals := 3, closure := [], defaults := Value.none, kwdefaults := Value.none, pyModule := Value.str (Str.ofString "livehall.frames") 974, code := Value.ref 604 } }
def o_972 : Params → Obj := fun P => { cls := Value.none, data := Data.fields #[] }
def o_564 : Params → Obj := fun P => { cls := Value.type "tuple", data := Data.seq #[] }
def o_835 : Params → Obj := fun P => { cls := Value.type "tuple", data := Data.seq #[] }
def o_124 : Params → Obj := fun P => { cls := Value.type "function", data := Data.func { name := Str.ofString "parts_in", qualname := Str.ofString "parts_in", params := AT20, body := FuncBody.stmts BT20, scope := ST20, globals := 3, closure := [], defaults := Value.none, kwdefaults := Value.none, pyModule := Value.str (Str.ofString "livehall.bodies") 253, code := Value.ref 124 } }
def o_201 : Params → Obj := fun P => { cls := Value.none, data := Data.fields #[] }
def o_361 : Params → Obj := fun P => { cls := Value.type "frame", slots := #[some (Value.ref 316), some (Value.ref 3), some (Value.ref 313), none, some (Value.str (Str.ofString "livehall.errors") 416), none, some (Value.ref 0)] }
def o_666 : Params → Obj := fun P => { cls := Value.type "tuple", data := Data.seq #[Value.str (Str.ofString "asked") 1001, Value.str (Str.ofString "at") 1002, Value.str (Str.ofString "below") 1003, Value.str (Str.ofString "given") 1004, Value.str (Str.ofString "kind") 1005, Value.str (Str.ofString "names") 1006, Value.str (Str.ofString "way") 1007, Value.str (Str.ofString "word") 1008, Value.str (Str.ofString "work") 1009] }
def o_937 : Params → Obj := fun P => { cls := Value.type "type", data := Data.cls { name := Str.ofString "Store", bases := [Value.type "object"], mro := [Value.ref 829, Value.type "object"], ns := 828, qualname := Str.ofString "Store" }, slots := #[none, none, some (Value.str (Str.ofString "Store") 1298), some (Value.str (Str.ofString "Store") 1306), some (Value.builtin "object.__new__"), some (Value.bool true)] }
def o_529 : Params → Obj := fun P => { cls := Value.type "code", data := Data.fields #[Value.str (Str.ofString "NoText") 808, Value.str (Str.ofString "NoText") 809, Value.str (Str.ofString "/claim/cut.py") 810, Value.int 151 0, Value.int 0 0, Value.int 0 0, Value.int 0 0, Value.int 0 0, Value.ref 443, Value.bool false, Value.int 181 0, Value.ref 444, Value.none, Value.none, Value.none, Value.none, Value.int 811 0, Value.int 151 0, Value.str (Str.ofString "/claim/cut.py") 812] }
def o_800 : Params → Obj := fun P => { cls := Value.type "tuple", data := Data.seq #[] }
def o_277 : Params → Obj := fun P => { cls := Value.type "tuple", data := Data.seq #[Value.str (Str.ofString "self") 560, Value.str (Str.ofString "field") 561] }
def o_445 : Params → Obj := fun P => { cls := Value.type "builtin_function_or_method", data := Data.fields #[Value.builtin "type.__prepare__", Value.type "type"] }
def o_736 : Params → Obj := fun P => { cls := Value.type "code", data := Data.fields #[Value.str (Str.ofString "change_frames") 1085, Value.str (Str.ofString "change_frames") 1086, Value.str (Str.ofString "/claim/cut.py") 1087, Value.int 273 0, Value.int 2 0, Value.int 0 0, Value.int 0 0, Value.int 3 0, Value.ref 632, Value.bool true, Value.int 181 0, Value.ref 633, Value.none, Value.ref 634, Value.ref 635, Value.ref 636, Value.int 1095 0, Value.int 273 0, Value.str (Str.ofString "/claim/cut.py") 1096] }
def o_1004 : Params → Obj := fun P => { cls := Value.type "function", data := Data.func { name := Str.ofString "rename_made", qualname := Str.ofString "rename_made", params := AT98, body := FuncBody.stmts BT98, scope := ST98, globals := 3, closure := [], defaults := Value.none, kwdefaults := Value.none, pyModule := Value.str (Str.ofString "livehall.kinds") 1374, code := Value.ref 892 } }
def o_599 : Params → Obj := fun P => { cls := Value.type "tuple", data := Data.seq #[Value.str (Str.ofString "builder") 904, Value.str (Str.ofString "row") 905, Value.str (Str.ofString "again") 906, Value.str (Str.ofString "behind") 907] }
def o_870 : Params → Obj := fun P => { cls := Value.none, data := Data.fields #[] }
def o_8 : Params → Obj := fun P => { cls := Value.none, data := Data.fields #[] }
def o_24 : Params → Obj := fun P => { cls := Value.type "code", data := Data.fields #[Value.str (Str.ofString "is_name") 206, Value.str (Str.ofString "is_name") 207, Value.str (Str.ofString "/claim/cut.py") 208, Value.int 9 0, Value.int 1 0, Value.int 0 0, Value.int 0 0, Value.int 3 0, Value.ref 27, Value.bool true, Value.int 181 0, Value.ref 28, Value.none, Value.ref 29, Value.ref 30, Value.ref 31, Value.int 210 0, Value.int 9 0, Value.str (Str.ofString "/claim/cut.py") 211] }
def o_56 : Params → Obj := fun P => { cls := Value.type "tuple", data := Data.seq #[Value.str (Str.ofString "one") 245, Value.str (Str.ofString "other") 246, Value.str (Str.ofString "waiting") 247, Value.str (Str.ofString "left") 248, Value.str (Str.ofString "right") 249] }
def o_127 : Params → Obj := fun P => { cls := Value.none, data := Data.func { name := Str.ofString "leaves_in", qualname := Str.ofString "leaves_in", params := AT21, body := FuncBody.stmts BT21, scope := ST21, globals := 0, closure := [], defaults := Value.none, kwdefaults := Value.none } }
def o_280 : Params → Obj := fun P => { cls := Value.type "code", data := Data.fields #[Value.str (Str.ofString "__init__") 556, Value.str (Str.ofString "BadField.__init__") 557, Value.str (Str.ofString "/claim/cut.py") 558, Value.int 117 0, Value.int 2 0, Value.int 0 0, Value.int 0 0, Value.int 3 0, Value.ref 251, Value.bool true, Value.int 181 0, Value.ref 252, Value.none, Value.ref 253, Value.ref 254, Value.ref 255, Value.int 562 0, Value.int 117 0, Value.str (Str.ofString "/claim/cut.py") 563] }
def o_602 : Params → Obj := fun P => { cls := Value.type "code", data := Data.fields #[Value.str (Str.ofString "while_orders") 901, Value.str (Str.ofString "while_orders") 902, Value.str (Str.ofString "/claim/cut.py") 903, Value.int 189 0, Value.int 2 0, Value.int 0 0, Value.int 0 0, Value.int 3 0, Value.ref 507, Value.bool true, Value.int 181 0, Value.ref 508, Value.none, Value.ref 509, Value.ref 510, Value.ref 511, Value.int 908 0, Value.int 189 0, Value.str (Str.ofString "/claim/cut.py") 909] }
def o_873 : Params → Obj := fun P => { cls := Value.none, data := Data.func { name := Str.ofString "__init__", qualname := Str.ofString "Kind.__init__", params := AM85x0, body := FuncBody.stmts BM85x0, scope := SM85x0, globals := 0, closure := [], defaults := Value.none, kwdefaults := Value.none } }
def o_448 : Params → Obj := fun P => { cls := Value.none, data := Data.fields #[] }
def o_739 : Params → Obj := fun P => { cls := Value.none, data := Data.fields #[] }
def o_1007 : Params → Obj := fun P => { cls := Value.none, data := Data.func { name := Str.ofString "reshape", qualname := Str.ofString "reshape", params := AT99, body := FuncBody.stmts BT99, scope := ST99, globals := 0, closure := [], defaults := Value.none, kwdefaults := Value.none } }
def o_204 : Params → Obj := fun P => { cls := Value.none, data := Data.func { name := Str.ofString "__init__", qualname := Str.ofString "Known.__init__", params := AM27x0, body := FuncBody.stmts BM27x0, scope := SM27x0, globals := 0, closure := [], defaults := Value.none, kwdefaults := Value.none } }
def o_364 : Params → Obj := fun P => { cls := Value.type "type", data := Data.cls { name := Str.ofString "NoWay", bases := [Value.ref 154], mro := [Value.ref 320, Value.ref 154, Value.type "ValueError", Value.type "Exception", Value.type "BaseException", Value.type "object"], ns := 319, qualname := Str.ofString "NoWay" }, slots := #[some (Value.ref 311), none, some (Value.str (Str.ofString "NoWay") 635), some (Value.str (Str.ofString "NoWay") 643), some (Value.builtin "ValueError.__new__"), some (Value.bool true)] }
def o_669 : Params → Obj := fun P => { cls := Value.type "getset_descriptor", data := Data.fields #[Value.str (Str.ofString "__dict__") 1011, Value.ref 575, Value.builtin "function.__dict__", Value.builtin "function.__dict__#set"] }
def o_940 : Params → Obj := fun P => { cls := Value.type "super", data := Data.fields #[Value.ref 829, Value.ref 829, Value.ref 829] }
def o_532 : Params → Obj := fun P => { cls := Value.type "dict", data := Data.dict #[{ hash := PyData.keyHash P (Str.ofString "__module__"), key := Value.str (Str.ofString "__module__") 813, val := Value.str (Str.ofString "livehall.errors") 416 }, { hash := PyData.keyHash P (Str.ofString "__firstlineno__"), key := Value.str (Str.ofString "__firstlineno__") 817, val := Value.int 151 816 }, { hash := PyData.keyHash P (Str.ofString "__static_attributes__"), key := Value.str (Str.ofString "__static_attributes__") 818, val := Value.ref 447 }, { hash := PyData.keyHash P (Str.ofString "__doc__"), key := Value.str (Str.ofString "__doc__") 819, val := Value.none }] 2 }
def o_803 : Params → Obj := fun P => { cls := Value.type "function", data := Data.func { name := Str.ofString "line_numbers", qualname := Str.ofString "line_numbers", params := AT75, body := FuncBody.stmts BT75, scope := ST75, globals := 3, closure := [], defaults := Value.none, kwdefaults := Value.none, pyModule := Value.str (Str.ofString "livehall.lines") 1146, code := Value.ref 703 } }
def o_95 : Params → Obj := fun P => { cls := Value.type "tuple", data := Data.seq #[] }
def o_168 : Params → Obj := fun P => { cls := Value.type "dict", data := Data.dict #[{ hash := PyData.keyHash P (Str.ofString "__module__"), key := Value.str (Str.ofString "__module__") 443, val := Value.str (Str.ofString "livehall.errors") 416 }, { hash := PyData.keyHash P (Str.ofString "__qualname__"), key := Value.str (Str.ofString "__qualname__") 445, val := Value.str (Str.ofString "BadName") 444 }, { hash := PyData.keyHash P (Str.ofString "__firstlineno__"), key := Value.str (Str.ofString "__firstlineno__") 447, val := Value.int 95 446 }, { hash := PyData.keyHash P (Str.ofString "__init__"), key := Value.str (Str.ofString "__init__") 456, val := Value.ref 173 }, { hash := PyData.keyHash P (Str.ofString "__static_attributes__"), key := Value.str (Str.ofString "__static_attributes__") 458, val := Value.ref 174 }, { hash := PyData.keyHash P (Str.ofString "__classcell__"), key := Value.str (Str.ofString "__classcell__") 459, val := Value.ref 161 }] 6 }
def o_324 : Params → Obj := fun P => { cls := Value.type "builtin_function_or_method", data := Data.fields #[Value.builtin "type.__prepare__", Value.type "type"] }
def o_634 : Params → Obj := fun P => { cls := Value.type "frame", slots := #[some (Value.ref 543), some (Value.ref 3), some (Value.ref 540), none, some (Value.str (Str.ofString "livehall.steps") 822), none, some (Value.ref 0)] }
def o_908 : Params → Obj := fun P => { cls := Value.none, data := Data.fields #[] }
def o_492 : Params → Obj := fun P => { cls := Value.type "tuple", data := Data.seq #[Value.ref 154] }
def o_771 : Params → Obj := fun P => { cls := Value.type "tuple", data := Data.seq #[] }
def o_244 : Params → Obj := fun P => { cls := Value.type "cell", data := Data.cell (some (Value.ref 239)) }
def o_408 : Params → Obj := fun P => { cls := Value.none, data := Data.fields #[Value.int 136 0, Value.int 4 0, Value.ref 361] }
def o_704 : Params → Obj := fun P => { cls := Value.type "tuple", data := Data.seq #[Value.str (Str.ofString "frame") 1058, Value.str (Str.ofString "twin") 1059] }
def o_975 : Params → Obj := fun P => { cls := Value.none, data := Data.func { name := Str.ofString "check_come", qualname := Str.ofString "check_come", params := AT93, body := FuncBody.stmts BT93, scope := ST93, globals := 0, closure := [], defaults := Value.none, kwdefaults := Value.none } }
def o_567 : Params → Obj := fun P => { cls := Value.type "function", data := Data.func { name := Str.ofString "lay", qualname := Str.ofString "Builder.lay", params := AM48x2, body := FuncBody.stmts BM48x2, scope := SM48x2, globals := 3, closure := [], defaults := Value.none, kwdefaults := Value.none, pyModule := Value.str (Str.ofString "livehall.steps") 822, code := Value.ref 479 } }
def o_838 : Params → Obj := fun P => { cls := Value.type "tuple", data := Data.seq #[] }
def o_40 : Params → Obj := fun P => { cls := Value.type "tuple", data := Data.seq #[] }
def o_74 : Params → Obj := fun P => { cls := Value.type "tuple", data := Data.seq #[] }
def o_143 : Params → Obj := fun P => { cls := Value.type "function", data := Data.func { name := Str.ofString "renamed", qualname := Str.ofString "renamed", params := AT23, body := FuncBody.stmts BT23, scope := ST23, globals := 3, closure := [], defaults := Value.none, kwdefaults := Value.none, pyModule := Value.str (Str.ofString "livehall.bodies") 253, code := Value.ref 143 } }
def o_300 : Params → Obj := fun P => { cls := Value.type "type", data := Data.cls { name := Str.ofString "Fixed", bases := [Value.ref 154], mro := [Value.ref 272, Value.ref 154, Value.type "ValueError", Value.type "Exception", Value.type "BaseException", Value.type "object"], ns := 271, qualname := Str.ofString "Fixed" }, slots := #[some (Value.ref 263), none, some (Value.str (Str.ofString "Fixed") 571), some (Value.str (Str.ofString "Fixed") 579), some (Value.builtin "ValueError.__new__"), some (Value.bool true)] }
def o_618 : Params → Obj := fun P => { cls := Value.type "tuple", data := Data.seq #[] }
def o_889 : Params → Obj := fun P => { cls := Value.type "function", data := Data.func { name := Str.ofString "lay_row", qualname := Str.ofString "lay_row", params := AT86, body := FuncBody.stmts BT86, scope := ST86, globals := 3, closure := [], defaults := Value.none, kwdefaults := Value.none, pyModule := Value.str (Str.ofString "livehall.store") 1250, code := Value.ref 783 } }
def o_468 : Params → Obj := fun P => { cls := Value.type "dict", data := Data.dict #[{ hash := PyData.keyHash P (Str.ofString "__module__"), key := Value.str (Str.ofString "__module__") 749, val := Value.str (Str.ofString "livehall.errors") 416 }, { hash := PyData.keyHash P (Str.ofString "__firstlineno__"), key := Value.str (Str.ofString "__firstlineno__") 753, val := Value.int 143 752 }, { hash := PyData.keyHash P (Str.ofString "__static_attributes__"), key := Value.str (Str.ofString "__static_attributes__") 754, val := Value.ref 399 }, { hash := PyData.keyHash P (Str.ofString "__doc__"), key := Value.str (Str.ofString "__doc__") 755, val := Value.none }] 2 }
def o_755 : Params → Obj := fun P => { cls := Value.type "code", data := Data.fields #[Value.str (Str.ofString "step_of") 1111, Value.str (Str.ofString "step_of") 1112, Value.str (Str.ofString "/claim/cut.py") 1113, Value.int 288 0, Value.int 1 0, Value.int 0 0, Value.int 0 0, Value.int 3 0, Value.ref 651, Value.bool true, Value.int 181 0, Value.ref 652, Value.none, Value.ref 653, Value.ref 654, Value.ref 655, Value.int 1115 0, Value.int 288 0, Value.str (Str.ofString "/claim/cut.py") 1116] }
def o_1023 : Params → Obj := fun P => { cls := Value.type "function", data := Data.func { name := Str.ofString "rename_kind", qualname := Str.ofString "rename_kind", params := AT101, body := FuncBody.stmts BT101, scope := ST101, globals := 3, closure := [], defaults := Value.none, kwdefaults := Value.none, pyModule := Value.str (Str.ofString "livehall.kinds") 1374, code := Value.ref 911 } }
def o_224 : Params → Obj := fun P => { cls := Value.type "tuple", data := Data.seq #[Value.ref 203] }
def o_388 : Params → Obj := fun P => { cls := Value.type "builtin_function_or_method", data := Data.fields #[Value.builtin "type.__prepare__", Value.type "type"] }
def o_688 : Params → Obj := fun P => { cls := Value.type "code", data := Data.fields #[Value.str (Str.ofString "__init__") 1030, Value.str (Str.ofString "Run.__init__") 1031, Value.str (Str.ofString "/claim/cut.py") 1032, Value.int 248 0, Value.int 3 0, Value.int 0 0, Value.int 0 0, Value.int 3 0, Value.ref 587, Value.bool true, Value.int 181 0, Value.ref 588, Value.none, Value.ref 589, Value.ref 590, Value.ref 591, Value.int 1036 0, Value.int 248 0, Value.str (Str.ofString "/claim/cut.py") 1037] }
def o_959 : Params → Obj := fun P => { cls := Value.type "tuple", data := Data.seq #[] }
def o_551 : Params → Obj := fun P => { cls := Value.none, data := Data.func { name := Str.ofString "__init__", qualname := Str.ofString "Builder.__init__", params := AM48x0, body := FuncBody.stmts BM48x0, scope := SM48x0, globals := 0, closure := [], defaults := Value.none, kwdefaults := Value.none } }
def o_822 : Params → Obj := fun P => { cls := Value.none, data := Data.fields #[] }
def o_111 : Params → Obj := fun P => { cls := Value.type "tuple", data := Data.seq #[] }
def o_184 : Params → Obj := fun P => { cls := Value.type "type", data := Data.cls { name := Str.ofString "BadName", bases := [Value.ref 154], mro := [Value.ref 176, Value.ref 154, Value.type "ValueError", Value.type "Exception", Value.type "BaseException", Value.type "object"], ns := 175, qualname := Str.ofString "BadName" }, slots := #[some (Value.ref 158), none, some (Value.str (Str.ofString "BadName") 436), some (Value.str (Str.ofString "BadName") 444), some (Value.builtin "ValueError.__new__"), some (Value.bool true)] }
def o_344 : Params → Obj := fun P => { cls := Value.type "code", data := Data.fields #[Value.str (Str.ofString "BadBody") 621, Value.str (Str.ofString "BadBody") 622, Value.str (Str.ofString "/claim/cut.py") 623, Value.int 126 0, Value.int 0 0, Value.int 0 0, Value.int 0 0, Value.int 0 0, Value.ref 302, Value.bool false, Value.int 181 0, Value.ref 303, Value.none, Value.none, Value.none, Value.none, Value.int 624 0, Value.int 126 0, Value.str (Str.ofString "/claim/cut.py") 625] }
def o_653 : Params → Obj := fun P => { cls := Value.type "builtin_function_or_method", data := Data.fields #[Value.builtin "type.__prepare__", Value.type "type"] }
def o_924 : Params → Obj := fun P => { cls := Value.type "tuple", data := Data.seq #[] }
def o_512 : Params → Obj := fun P => { cls := Value.none, data := Data.fields #[] }
def o_787 : Params → Obj := fun P => { cls := Value.type "tuple", data := Data.seq #[Value.str (Str.ofString "store") 1159, Value.str (Str.ofString "number") 1160] }
def o_260 : Params → Obj := fun P => { cls := Value.type "super", data := Data.fields #[Value.ref 239, Value.ref 239, Value.ref 239] }
def o_428 : Params → Obj := fun P => { cls := Value.type "tuple", data := Data.seq #[Value.ref 154] }
def o_720 : Params → Obj := fun P => { cls := Value.none, data := Data.func { name := Str.ofString "begun", qualname := Str.ofString "begun", params := AT62, body := FuncBody.stmts BT62, scope := ST62, globals := 0, closure := [], defaults := Value.none, kwdefaults := Value.none } }
def o_991 : Params → Obj := fun P => { cls := Value.type "code", data := Data.fields #[Value.str (Str.ofString "rename_in_kinds") 1431, Value.str (Str.ofString "rename_in_kinds") 1432, Value.str (Str.ofString "/claim/cut.py") 1433, Value.int 442 0, Value.int 5 0, Value.int 0 0, Value.int 0 0, Value.int 3 0, Value.ref 877, Value.bool true, Value.int 181 0, Value.ref 878, Value.none, Value.none, Value.none, Value.ref 879, Value.int 1434 0, Value.int 442 0, Value.str (Str.ofString "/claim/cut.py") 1435] }
def o_583 : Params → Obj := fun P => { cls := Value.type "getset_descriptor", data := Data.fields #[Value.str (Str.ofString "__dict__") 884, Value.ref 495, Value.builtin "function.__dict__", Value.builtin "function.__dict__#set"] }
def o_854 : Params → Obj := fun P => { cls := Value.type "tuple", data := Data.seq #[] }
def o_16 : Params → Obj := fun P => { cls := Value.none, data := Data.func { name := Str.ofString "all_between", qualname := Str.ofString "all_between", params := AT4, body := FuncBody.stmts BT4, scope := ST4, globals := 0, closure := [], defaults := Value.none, kwdefaults := Value.none } }
def o_32 : Params → Obj := fun P => { cls := Value.type "function", data := Data.func { name := Str.ofString "is_short_text", qualname := Str.ofString "is_short_text", params := AT6, body := FuncBody.stmts BT6, scope := ST6, globals := 3, closure := [], defaults := Value.none, kwdefaults := Value.none, pyModule := Value.str (Str.ofString "livehall.values") 194, code := Value.ref 39 } }
def o_66 : Params → Obj := fun P => { cls := Value.type "tuple", data := Data.seq #[Value.str (Str.ofString "field") 261, Value.str (Str.ofString "e") 262] }
def o_135 : Params → Obj := fun P => { cls := Value.type "code", data := Data.fields #[Value.str (Str.ofString "kinds_in") 394, Value.str (Str.ofString "kinds_in") 395, Value.str (Str.ofString "/claim/cut.py") 396, Value.int 72 0, Value.int 1 0, Value.int 0 0, Value.int 0 0, Value.int 3 0, Value.ref 131, Value.bool true, Value.int 181 0, Value.ref 132, Value.none, Value.ref 133, Value.ref 134, Value.ref 135, Value.int 398 0, Value.int 72 0, Value.str (Str.ofString "/claim/cut.py") 399] }
def o_292 : Params → Obj := fun P => { cls := Value.type "builtin_function_or_method", data := Data.fields #[Value.builtin "type.__prepare__", Value.type "type"] }
def o_610 : Params → Obj := fun P => { cls := Value.type "function", data := Data.func { name := Str.ofString "try_orders", qualname := Str.ofString "try_orders", params := AT51, body := FuncBody.stmts BT51, scope := ST51, globals := 3, closure := [], defaults := Value.none, kwdefaults := Value.none, pyModule := Value.str (Str.ofString "livehall.steps") 822, code := Value.ref 519 } }
def o_881 : Params → Obj := fun P => { cls := Value.type "super", data := Data.fields #[Value.ref 773, Value.ref 773, Value.ref 773] }
def o_460 : Params → Obj := fun P => { cls := Value.type "tuple", data := Data.seq #[Value.ref 154] }
def o_747 : Params → Obj := fun P => { cls := Value.none, data := Data.func { name := Str.ofString "run_values", qualname := Str.ofString "run_values", params := AT66, body := FuncBody.stmts BT66, scope := ST66, globals := 0, closure := [], defaults := Value.none, kwdefaults := Value.none } }
def o_1015 : Params → Obj := fun P => { cls := Value.type "code", data := Data.fields #[Value.str (Str.ofString "move_kind") 1460, Value.str (Str.ofString "move_kind") 1461, Value.str (Str.ofString "/claim/cut.py") 1462, Value.int 479 0, Value.int 3 0, Value.int 0 0, Value.int 0 0, Value.int 3 0, Value.ref 899, Value.bool true, Value.int 181 0, Value.ref 900, Value.none, Value.ref 901, Value.ref 902, Value.ref 903, Value.int 1472 0, Value.int 479 0, Value.str (Str.ofString "/claim/cut.py") 1473] }
def o_216 : Params → Obj := fun P => { cls := Value.type "tuple", data := Data.seq #[Value.ref 154] }
def o_376 : Params → Obj := fun P => { cls := Value.type "code", data := Data.fields #[Value.str (Str.ofString "NoThing") 653, Value.str (Str.ofString "NoThing") 654, Value.str (Str.ofString "/claim/cut.py") 655, Value.int 130 0, Value.int 0 0, Value.int 0 0, Value.int 0 0, Value.int 0 0, Value.ref 326, Value.bool false, Value.int 181 0, Value.ref 327, Value.none, Value.none, Value.none, Value.none, Value.int 656 0, Value.int 130 0, Value.str (Str.ofString "/claim/cut.py") 657] }
def o_680 : Params → Obj := fun P => { cls := Value.none, data := Data.fields #[Value.int 248 0, Value.int 4 0, Value.ref 592] }
def o_951 : Params → Obj := fun P => { cls := Value.type "function", data := Data.func { name := Str.ofString "check_new_name", qualname := Str.ofString "check_new_name", params := AT89, body := FuncBody.stmts BT89, scope := ST89, globals := 3, closure := [], defaults := Value.none, kwdefaults := Value.none, pyModule := Value.str (Str.ofString "livehall.kinds") 1374, code := Value.ref 839 } }
def o_543 : Params → Obj := fun P => { cls := Value.type "tuple", data := Data.seq #[] }
def o_811 : Params → Obj := fun P => { cls := Value.type "tuple", data := Data.seq #[] }
def o_103 : Params → Obj := fun P => { cls := Value.none, data := Data.func { name := Str.ofString "shape_of", qualname := Str.ofString "shape_of", params := AT17, body := FuncBody.stmts BT17, scope := ST17, globals := 0, closure := [], defaults := Value.none, kwdefaults := Value.none } }
def o_176 : Params → Obj := fun P => { cls := Value.none, data := Data.fields #[] }
def o_332 : Params → Obj := fun P => { cls := Value.type "type", data := Data.cls { name := Str.ofString "InUse", bases := [Value.ref 154], mro := [Value.ref 296, Value.ref 154, Value.type "ValueError", Value.type "Exception", Value.type "BaseException", Value.type "object"], ns := 295, qualname := Str.ofString "InUse" }, slots := #[some (Value.ref 287), none, some (Value.str (Str.ofString "InUse") 603), some (Value.str (Str.ofString "InUse") 611), some (Value.builtin "ValueError.__new__"), some (Value.bool true)] }
def o_642 : Params → Obj := fun P => { cls := Value.type "tuple", data := Data.seq #[Value.str (Str.ofString "body") 962, Value.str (Str.ofString "catches") 963, Value.str (Str.ofString "names") 964, Value.str (Str.ofString "steps") 965] }
def o_916 : Params → Obj := fun P => { cls := Value.type "tuple", data := Data.seq #[Value.str (Str.ofString "self") 1331, Value.str (Str.ofString "table") 1332, Value.str (Str.ofString "number") 1333] }
def o_500 : Params → Obj := fun P => { cls := Value.type "dict", data := Data.dict #[{ hash := PyData.keyHash P (Str.ofString "__module__"), key := Value.str (Str.ofString "__module__") 781, val := Value.str (Str.ofString "livehall.errors") 416 }, { hash := PyData.keyHash P (Str.ofString "__firstlineno__"), key := Value.str (Str.ofString "__firstlineno__") 785, val := Value.int 147 784 }, { hash := PyData.keyHash P (Str.ofString "__static_attributes__"), key := Value.str (Str.ofString "__static_attributes__") 786, val := Value.ref 423 }, { hash := PyData.keyHash P (Str.ofString "__doc__"), key := Value.str (Str.ofString "__doc__") 787, val := Value.none }] 2 }
def o_779 : Params → Obj := fun P => { cls := Value.none, data := Data.fields #[] }
def o_252 : Params → Obj := fun P => { cls := Value.type "tuple", data := Data.seq #[Value.str (Str.ofString "self") 533, Value.str (Str.ofString "field") 534] }
def o_416 : Params → Obj := fun P => { cls := Value.none, data := Data.func { name := Str.ofString "__init__", qualname := Str.ofString "NoName.__init__", params := AM38x0, body := FuncBody.stmts BM38x0, scope := SM38x0, globals := 0, closure := [], defaults := Value.none, kwdefaults := Value.none } }
def o_712 : Params → Obj := fun P => { cls := Value.type "tuple", data := Data.seq #[] }
def o_983 : Params → Obj := fun P => { cls := Value.type "tuple", data := Data.seq #[] }
def o_575 : Params → Obj := fun P => { cls := Value.type "tuple", data := Data.seq #[] }
def o_846 : Params → Obj := fun P => { cls := Value.type "function", data := Data.func { name := Str.ofString "own_fields", qualname := Str.ofString "own_fields", params := AT81, body := FuncBody.stmts BT81, scope := ST81, globals := 3, closure := [], defaults := Value.none, kwdefaults := Value.none, pyModule := Value.str (Str.ofString "livehall.lines") 1146, code := Value.ref 743 } }
def o_48 : Params → Obj := fun P => { cls := Value.none, data := Data.fields #[] }
def o_82 : Params → Obj := fun P => { cls := Value.type "tuple", data := Data.seq #[Value.str (Str.ofString "e") 310, Value.str (Str.ofString "e") 311] }
def o_156 : Params → Obj := fun P => { cls := Value.type "tuple", data := Data.seq #[] }
def o_312 : Params → Obj := fun P => { cls := Value.type "code", data := Data.fields #[Value.str (Str.ofString "Ring") 589, Value.str (Str.ofString "Ring") 590, Value.str (Str.ofString "/claim/cut.py") 591, Value.int 122 0, Value.int 0 0, Value.int 0 0, Value.int 0 0, Value.int 0 0, Value.ref 278, Value.bool false, Value.int 181 0, Value.ref 279, Value.none, Value.none, Value.none, Value.none, Value.int 592 0, Value.int 122 0, Value.str (Str.ofString "/claim/cut.py") 593] }
def o_626 : Params → Obj := fun P => { cls := Value.type "code", data := Data.fields #[Value.str (Str.ofString "steps_of") 935, Value.str (Str.ofString "steps_of") 936, Value.str (Str.ofString "/claim/cut.py") 937, Value.int 213 0, Value.int 1 0, Value.int 0 0, Value.int 0 0, Value.int 3 0, Value.ref 533, Value.bool true, Value.int 181 0, Value.ref 534, Value.none, Value.none, Value.none, Value.ref 535, Value.int 938 0, Value.int 213 0, Value.str (Str.ofString "/claim/cut.py") 939] }
def o_900 : Params → Obj := fun P => { cls := Value.type "tuple", data := Data.seq #[] }
def o_480 : Params → Obj := fun P => { cls := Value.none, data := Data.fields #[] }
def o_763 : Params → Obj := fun P => { cls := Value.type "function", data := Data.func { name := Str.ofString "ready_ask", qualname := Str.ofString "ready_ask", params := AT68, body := FuncBody.stmts BT68, scope := ST68, globals := 3, closure := [], defaults := Value.none, kwdefaults := Value.none, pyModule := Value.str (Str.ofString "livehall.frames") 974, code := Value.ref 663 } }
def o_1034 : Params → Obj := fun P => { cls := Value.type "tuple", data := Data.seq #[Value.str (Str.ofString "store") 1495, Value.str (Str.ofString "kind") 1496, Value.str (Str.ofString "number") 1497] }
def o_232 : Params → Obj := fun P => { cls := Value.type "tuple", data := Data.seq #[Value.str (Str.ofString "name") 511] }
def o_396 : Params → Obj := fun P => { cls := Value.type "type", data := Data.cls { name := Str.ofString "BadValue", bases := [Value.ref 154], mro := [Value.ref 344, Value.ref 154, Value.type "ValueError", Value.type "Exception", Value.type "BaseException", Value.type "object"], ns := 343, qualname := Str.ofString "BadValue" }, slots := #[some (Value.ref 335), none, some (Value.str (Str.ofString "BadValue") 667), some (Value.str (Str.ofString "BadValue") 675), some (Value.builtin "ValueError.__new__"), some (Value.bool true)] }
def o_696 : Params → Obj := fun P => { cls := Value.type "builtin_function_or_method", data := Data.fields #[Value.builtin "object.__init_subclass__", Value.ref 596] }
def o_967 : Params → Obj := fun P => { cls := Value.type "tuple", data := Data.seq #[] }
def o_559 : Params → Obj := fun P => { cls := Value.type "code", data := Data.fields #[Value.str (Str.ofString "new_mark") 849, Value.str (Str.ofString "Builder.new_mark") 850, Value.str (Str.ofString "/claim/cut.py") 851, Value.int 163 0, Value.int 1 0, Value.int 0 0, Value.int 0 0, Value.int 3 0, Value.ref 467, Value.bool true, Value.int 181 0, Value.ref 468, Value.none, Value.ref 469, Value.ref 470, Value.ref 471, Value.int 853 0, Value.int 163 0, Value.str (Str.ofString "/claim/cut.py") 854] }
def o_830 : Params → Obj := fun P => { cls := Value.type "tuple", data := Data.seq #[Value.str (Str.ofString "store") 1211, Value.str (Str.ofString "number") 1212, Value.str (Str.ofString "fields") 1213, Value.str (Str.ofString "kind") 1214] }
def o_119 : Params → Obj := fun P => { cls := Value.none, data := Data.fields #[] }
def o_196 : Params → Obj := fun P => { cls := Value.none, data := Data.fields #[Value.int 102 0, Value.int 4 0, Value.ref 193] }
def o_356 : Params → Obj := fun P => { cls := Value.type "builtin_function_or_method", data := Data.fields #[Value.builtin "type.__prepare__", Value.type "type"] }
def o_661 : Params → Obj := fun P => { cls := Value.type "tuple", data := Data.seq #[Value.str (Str.ofString "self") 991, Value.str (Str.ofString "way") 992, Value.str (Str.ofString "kind") 993, Value.str (Str.ofString "word") 994, Value.str (Str.ofString "asked") 995, Value.str (Str.ofString "given") 996, Value.str (Str.ofString "below") 997] }
def o_932 : Params → Obj := fun P => { cls := Value.none, data := Data.func { name := Str.ofString "turn", qualname := Str.ofString "Store.turn", params := AM87x4, body := FuncBody.stmts BM87x4, scope := SM87x4, globals := 0, closure := [], defaults := Value.none, kwdefaults := Value.none } }
def o_524 : Params → Obj := fun P => { cls := Value.type "tuple", data := Data.seq #[Value.ref 154] }
def o_795 : Params → Obj := fun P => { cls := Value.type "code", data := Data.fields #[Value.str (Str.ofString "kind_names") 1164, Value.str (Str.ofString "kind_names") 1165, Value.str (Str.ofString "/claim/cut.py") 1166, Value.int 310 0, Value.int 2 0, Value.int 0 0, Value.int 0 0, Value.int 3 0, Value.ref 693, Value.bool true, Value.int 181 0, Value.ref 694, Value.none, Value.none, Value.none, Value.ref 695, Value.int 1167 0, Value.int 310 0, Value.str (Str.ofString "/claim/cut.py") 1168] }
def o_272 : Params → Obj := fun P => { cls := Value.type "code", data := Data.fields #[Value.str (Str.ofString "BadField") 546, Value.str (Str.ofString "BadField") 547, Value.str (Str.ofString "/claim/cut.py") 548, Value.int 115 0, Value.int 0 0, Value.int 0 0, Value.int 0 0, Value.int 0 0, Value.ref 246, Value.bool false, Value.int 181 0, Value.ref 247, Value.none, Value.none, Value.none, Value.none, Value.int 549 0, Value.int 115 0, Value.str (Str.ofString "/claim/cut.py") 550] }
def o_436 : Params → Obj := fun P => { cls := Value.type "dict", data := Data.dict #[{ hash := PyData.keyHash P (Str.ofString "__module__"), key := Value.str (Str.ofString "__module__") 717, val := Value.str (Str.ofString "livehall.errors") 416 }, { hash := PyData.keyHash P (Str.ofString "__firstlineno__"), key := Value.str (Str.ofString "__firstlineno__") 721, val := Value.int 139 720 }, { hash := PyData.keyHash P (Str.ofString "__static_attributes__"), key := Value.str (Str.ofString "__static_attributes__") 722, val := Value.ref 375 }, { hash := PyData.keyHash P (Str.ofString "__doc__"), key := Value.str (Str.ofString "__doc__") 723, val := Value.none }] 2 }
def o_731 : Params → Obj := fun P => { cls := Value.type "tuple", data := Data.seq #[] }
def o_999 : Params → Obj := fun P => { cls := Value.none, data := Data.fields #[] }
def o_591 : Params → Obj := fun P => { cls := Value.none, data := Data.func { name := Str.ofString "when_orders", qualname := Str.ofString "when_orders", params := AT49, body := FuncBody.stmts BT49, scope := ST49, globals := 0, closure := [], defaults := Value.none, kwdefaults := Value.none } }
def o_865 : Params → Obj := fun P => { cls := Value.type "tuple", data := Data.seq #[] }
def o_1026 : Params → Obj := fun P => { cls := Value.none, data := Data.fields #[Value.int 1 0, Value.int 0 0, Value.ref 20, Value.int 7 0, Value.int 0 0, Value.ref 25, Value.int 9 0, Value.int 0 0, Value.ref 32, Value.int 11 0, Value.int 0 0, Value.ref 39, Value.int 13 0, Value.int 0 0, Value.ref 46, Value.int 15 0, Value.int 0 0, Value.ref 53, Value.int 17 0, Value.int 0 0, Value.ref 60, Value.int 19 0, Value.int 0 0, Value.ref 67, Value.int 33 0, Value.int 0 0, Value.ref 98, Value.int 35 0, Value.int 0 0, Value.ref 105, Value.int 39 0, Value.int 0 0, Value.ref 110, Value.int 48 0, Value.int 0 0, Value.ref 117, Value.int 61 0, Value.int 0 0, Value.ref 124, Value.int 70 0, Value.int 0 0, Value.ref 129, Value.int 72 0, Value.int 0 0, Value.ref 136, Value.int 74 0, Value.int 0 0, Value.ref 143, Value.int 93 0, Value.int 0 0, Value.ref 150, Value.int 95 0, Value.int 0 0, Value.ref 164, Value.int 100 0, Value.int 0 0, Value.ref 185, Value.int 105 0, Value.int 0 0, Value.ref 206, Value.int 110 0, Value.int 0 0, Value.ref 227, Value.int 115 0, Value.int 0 0, Value.ref 248, Value.int 120 0, Value.int 0 0, Value.ref 268, Value.int 122 0, Value.int 0 0, Value.ref 280, Value.int 124 0, Value.int 0 0, Value.ref 292, Value.int 126 0, Value.int 0 0, Value.ref 304, Value.int 128 0, Value.int 0 0, Value.ref 316, Value.int 130 0, Value.int 0 0, Value.ref 328, Value.int 132 0, Value.int 0 0, Value.ref 340, Value.int 134 0, Value.int 0 0, Value.ref 353, Value.int 139 0, Value.int 0 0, Value.ref 373, Value.int 141 0, Value.int 0 0, Value.ref 385, Value.int 143 0, Value.int 0 0, Value.ref 397, Value.int 145 0, Value.int 0 0, Value.ref 409, Value.int 147 0, Value.int 0 0, Value.ref 421, Value.int 149 0, Value.int 0 0, Value.ref 433, Value.int 151 0, Value.int 0 0, Value.ref 445, Value.int 155 0, Value.int 0 0, Value.ref 458, Value.int 185 0, Value.int 0 0, Value.ref 505, Value.int 189 0, Value.int 0 0, Value.ref 512, Value.int 193 0, Value.int 0 0, Value.ref 519, Value.int 197 0, Value.int 0 0, Value.ref 526, Value.int 205 0, Value.int 0 0, Value.ref 531, Value.int 213 0, Value.int 0 0, Value.ref 536, Value.int 227 0, Value.int 0 0, Value.ref 543, Value.int 234 0, Value.int 0 0, Value.ref 564, Value.int 246 0, Value.int 0 0, Value.ref 585, Value.int 251 0, Value.int 0 0, Value.ref 604, Value.int 255 0, Value.int 0 0, Value.ref 611, Value.int 261 0, Value.int 0 0, Value.ref 618, Value.int 268 0, Value.int 0 0, Value.ref 625, Value.int 270 0, Value.int 0 0, Value.ref 630, Value.int 273 0, Value.int 0 0, Value.ref 637, Value.int 282 0, Value.int 0 0, Value.ref 644, Value.int 284 0, Value.int 0 0, Value.ref 649, Value.int 288 0, Value.int 0 0, Value.ref 656, Value.int 290 0, Value.int 0 0, Value.ref 663, Value.int 295 0, Value.int 0 0, Value.ref 670, Value.int 299 0, Value.int 0 0, Value.ref 677, Value.int 304 0, Value.int 0 0, Value.ref 684, Value.int 308 0, Value.int 0 0, Value.ref 691, Value.int 310 0, Value.int 0 0, Value.ref 696, Value.int 312 0, Value.int 0 0, Value.ref 703, Value.int 318 0, Value.int 0 0, Value.ref 710, Value.int 323 0, Value.int 0 0, Value.ref 717, Value.int 325 0, Value.int 0 0, Value.ref 724, Value.int 334 0, Value.int 0 0, Value.ref 731, Value.int 339 0, Value.int 0 0, Value.ref 738, Value.int 344 0, Value.int 0 0, Value.ref 743, Value.int 346 0, Value.int 0 0, Value.ref 750, Value.int 351 0, Value.int 0 0, Value.ref 755, Value.int 355 0, Value.int 0 0, Value.ref 762, Value.int 363 0, Value.int 0 0, Value.ref 783, Value.int 368 0, Value.int 0 0, Value.ref 790, Value.int 403 0, Value.int 0 0, Value.ref 839, Value.int 408 0, Value.int 0 0, Value.ref 846, Value.int 415 0, Value.int 0 0, Value.ref 851, Value.int 423 0, Value.int 0 0, Value.ref 858, Value.int 427 0, Value.int 0 0, Value.ref 865, Value.int 431 0, Value.int 0 0, Value.ref 870, Value.int 437 0, Value.int 0 0, Value.ref 875, Value.int 442 0, Value.int 0 0, Value.ref 880, Value.int 447 0, Value.int 0 0, Value.ref 885, Value.int 456 0, Value.int 0 0, Value.ref 892, Value.int 463 0, Value.int 0 0, Value.ref 897, Value.int 479 0, Value.int 0 0, Value.ref 904, Value.int 494 0, Value.int 0 0, Value.ref 911, Value.int 504 0, Value.int 0 0, Value.ref 916, Value.int 509 0, Value.int 0 0, Value.ref 923] }
def o_12 : Params → Obj := fun P => { cls := Value.type "code", data := Data.fields #[Value.str (Str.ofString "_wall") 187, Value.str (Str.ofString "_wall") 188, Value.str (Str.ofString "/claim/cut.py") 189, Value.int 1 0, Value.int 1 0, Value.int 0 0, Value.int 0 0, Value.int 3 0, Value.ref 15, Value.bool true, Value.int 181 0, Value.ref 16, Value.none, Value.ref 17, Value.ref 18, Value.ref 19, Value.int 191 0, Value.int 1 0, Value.str (Str.ofString "/claim/cut.py") 192] }
def o_28 : Params → Obj := fun P => { cls := Value.type "tuple", data := Data.seq #[Value.str (Str.ofString "thing") 216] }
def o_60 : Params → Obj := fun P => { cls := Value.type "function", data := Data.func { name := Str.ofString "same", qualname := Str.ofString "same", params := AT10, body := FuncBody.stmts BT10, scope := ST10, globals := 3, closure := [], defaults := Value.none, kwdefaults := Value.none, pyModule := Value.str (Str.ofString "livehall.values") 194, code := Value.ref 67 } }
def o_131 : Params → Obj := fun P => { cls := Value.none, data := Data.fields #[] }
def o_284 : Params → Obj := fun P => { cls := Value.type "type", data := Data.cls { name := Str.ofString "BadField", bases := [Value.ref 154], mro := [Value.ref 260, Value.ref 154, Value.type "ValueError", Value.type "Exception", Value.type "BaseException", Value.type "object"], ns := 259, qualname := Str.ofString "BadField" }, slots := #[some (Value.ref 242), none, some (Value.str (Str.ofString "BadField") 544), some (Value.str (Str.ofString "BadField") 552), some (Value.builtin "ValueError.__new__"), some (Value.bool true)] }
def o_606 : Params → Obj := fun P => { cls := Value.type "tuple", data := Data.seq #[Value.str (Str.ofString "builder") 914, Value.str (Str.ofString "row") 915, Value.str (Str.ofString "taken") 916, Value.str (Str.ofString "behind") 917] }
def o_877 : Params → Obj := fun P => { cls := Value.type "dict", data := Data.dict #[{ hash := PyData.keyHash P (Str.ofString "__module__"), key := Value.str (Str.ofString "__module__") 1259, val := Value.str (Str.ofString "livehall.store") 1250 }, { hash := PyData.keyHash P (Str.ofString "__firstlineno__"), key := Value.str (Str.ofString "__firstlineno__") 1263, val := Value.int 355 1262 }, { hash := PyData.keyHash P (Str.ofString "__init__"), key := Value.str (Str.ofString "__init__") 1275, val := Value.ref 770 }, { hash := PyData.keyHash P (Str.ofString "__static_attributes__"), key := Value.str (Str.ofString "__static_attributes__") 1281, val := Value.ref 771 }, { hash := PyData.keyHash P (Str.ofString "__dict__"), key := Value.str (Str.ofString "__dict__") 1283, val := Value.ref 774 }, { hash := PyData.keyHash P (Str.ofString "__weakref__"), key := Value.str (Str.ofString "__weakref__") 1285, val := Value.ref 775 }, { hash := PyData.keyHash P (Str.ofString "__doc__"), key := Value.str (Str.ofString "__doc__") 1286, val := Value.none }] 4 }
def o_452 : Params → Obj := fun P => { cls := Value.type "dict", data := Data.dict #[{ hash := PyData.keyHash P (Str.ofString "__module__"), key := Value.str (Str.ofString "__module__") 733, val := Value.str (Str.ofString "livehall.errors") 416 }, { hash := PyData.keyHash P (Str.ofString "__firstlineno__"), key := Value.str (Str.ofString "__firstlineno__") 737, val := Value.int 141 736 }, { hash := PyData.keyHash P (Str.ofString "__static_attributes__"), key := Value.str (Str.ofString "__static_attributes__") 738, val := Value.ref 387 }, { hash := PyData.keyHash P (Str.ofString "__doc__"), key := Value.str (Str.ofString "__doc__") 739, val := Value.none }] 2 }
def o_743 : Params → Obj := fun P => { cls := Value.type "code", data := Data.fields #[Value.str (Str.ofString "frame_values") 1098, Value.str (Str.ofString "frame_values") 1099, Value.str (Str.ofString "/claim/cut.py") 1100, Value.int 282 0, Value.int 1 0, Value.int 0 0, Value.int 0 0, Value.int 3 0, Value.ref 639, Value.bool true, Value.int 181 0, Value.ref 640, Value.none, Value.ref 641, Value.ref 642, Value.ref 643, Value.int 1102 0, Value.int 282 0, Value.str (Str.ofString "/claim/cut.py") 1103] }
def o_1011 : Params → Obj := fun P => { cls := Value.none, data := Data.fields #[] }
def o_208 : Params → Obj := fun P => { cls := Value.type "dict", data := Data.dict #[{ hash := PyData.keyHash P (Str.ofString "__module__"), key := Value.str (Str.ofString "__module__") 470, val := Value.str (Str.ofString "livehall.errors") 416 }, { hash := PyData.keyHash P (Str.ofString "__firstlineno__"), key := Value.str (Str.ofString "__firstlineno__") 474, val := Value.int 100 473 }, { hash := PyData.keyHash P (Str.ofString "__init__"), key := Value.str (Str.ofString "__init__") 483, val := Value.ref 194 }, { hash := PyData.keyHash P (Str.ofString "__static_attributes__"), key := Value.str (Str.ofString "__static_attributes__") 485, val := Value.ref 195 }, { hash := PyData.keyHash P (Str.ofString "__doc__"), key := Value.str (Str.ofString "__doc__") 487, val := Value.none }] 3 }
def o_372 : Params → Obj := fun P => { cls := Value.type "builtin_function_or_method", data := Data.fields #[Value.builtin "type.__prepare__", Value.type "type"] }
def o_676 : Params → Obj := fun P => { cls := Value.type "tuple", data := Data.seq #[] }
def o_947 : Params → Obj := fun P => { cls := Value.type "tuple", data := Data.seq #[Value.str (Str.ofString "store") 1379, Value.str (Str.ofString "name") 1380] }
def o_536 : Params → Obj := fun P => { cls := Value.type "tuple", data := Data.seq #[Value.str (Str.ofString "same") 824, Value.str (Str.ofString "add") 825, Value.str (Str.ofString "sub") 826, Value.str (Str.ofString "mul") 827, Value.str (Str.ofString "under") 828] }
def o_807 : Params → Obj := fun P => { cls := Value.type "tuple", data := Data.seq #[] }
def o_99 : Params → Obj := fun P => { cls := Value.type "tuple", data := Data.seq #[] }
def o_172 : Params → Obj := fun P => { cls := Value.type "code", data := Data.fields #[Value.str (Str.ofString "BadName") 438, Value.str (Str.ofString "BadName") 439, Value.str (Str.ofString "/claim/cut.py") 440, Value.int 95 0, Value.int 0 0, Value.int 0 0, Value.int 0 0, Value.int 0 0, Value.ref 162, Value.bool false, Value.int 181 0, Value.ref 163, Value.none, Value.none, Value.none, Value.none, Value.int 441 0, Value.int 95 0, Value.str (Str.ofString "/claim/cut.py") 442] }
def o_328 : Params → Obj := fun P => { cls := Value.type "code", data := Data.fields #[Value.str (Str.ofString "InUse") 605, Value.str (Str.ofString "InUse") 606, Value.str (Str.ofString "/claim/cut.py") 607, Value.int 124 0, Value.int 0 0, Value.int 0 0, Value.int 0 0, Value.int 0 0, Value.ref 290, Value.bool false, Value.int 181 0, Value.ref 291, Value.none, Value.none, Value.none, Value.none, Value.int 608 0, Value.int 124 0, Value.str (Str.ofString "/claim/cut.py") 609] }
def o_638 : Params → Obj := fun P => { cls := Value.type "tuple", data := Data.seq #[] }
def o_912 : Params → Obj := fun P => { cls := Value.type "code", data := Data.fields #[Value.str (Str.ofString "write") 1317, Value.str (Str.ofString "Store.write") 1318, Value.str (Str.ofString "/claim/cut.py") 1319, Value.int 380 0, Value.int 4 0, Value.int 0 0, Value.int 0 0, Value.int 3 0, Value.ref 799, Value.bool true, Value.int 181 0, Value.ref 800, Value.none, Value.ref 801, Value.ref 802, Value.ref 803, Value.int 1325 0, Value.int 380 0, Value.str (Str.ofString "/claim/cut.py") 1326] }
def o_496 : Params → Obj := fun P => { cls := Value.none, data := Data.fields #[] }
def o_775 : Params → Obj := fun P => { cls := Value.none, data := Data.func { name := Str.ofString "put_ready", qualname := Str.ofString "put_ready", params := AT70, body := FuncBody.stmts BT70, scope := ST70, globals := 0, closure := [], defaults := Value.none, kwdefaults := Value.none } }
def o_248 : Params → Obj := fun P => { cls := Value.type "frame", slots := #[some (Value.ref 227), some (Value.ref 3), some (Value.ref 223), none, some (Value.str (Str.ofString "livehall.errors") 416), none, some (Value.ref 0)] }
def o_412 : Params → Obj := fun P => { cls := Value.type "tuple", data := Data.seq #[Value.str (Str.ofString "__class__") 698] }
def o_708 : Params → Obj := fun P => { cls := Value.type "function", data := Data.func { name := Str.ofString "copied", qualname := Str.ofString "copied", params := AT60, body := FuncBody.stmts BT60, scope := ST60, globals := 3, closure := [], defaults := Value.none, kwdefaults := Value.none, pyModule := Value.str (Str.ofString "livehall.frames") 974, code := Value.ref 611 } }
def o_979 : Params → Obj := fun P => { cls := Value.none, data := Data.fields #[] }
def o_571 : Params → Obj := fun P => { cls := Value.type "tuple", data := Data.seq #[] }
def o_842 : Params → Obj := fun P => { cls := Value.type "tuple", data := Data.seq #[] }
def o_44 : Params → Obj := fun P => { cls := Value.none, data := Data.func { name := Str.ofString "is_whole", qualname := Str.ofString "is_whole", params := AT8, body := FuncBody.stmts BT8, scope := ST8, globals := 0, closure := [], defaults := Value.none, kwdefaults := Value.none } }
def o_78 : Params → Obj := fun P => { cls := Value.type "tuple", data := Data.seq #[Value.str (Str.ofString "word") 299, Value.str (Str.ofString "es") 300] }
def o_152 : Params → Obj := fun P => { cls := Value.type "tuple", data := Data.seq #[] }
def o_308 : Params → Obj := fun P => { cls := Value.type "builtin_function_or_method", data := Data.fields #[Value.builtin "type.__prepare__", Value.type "type"] }
def o_622 : Params → Obj := fun P => { cls := Value.type "function", data := Data.func { name := Str.ofString "e_orders", qualname := Str.ofString "e_orders", params := AT53, body := FuncBody.stmts BT53, scope := ST53, globals := 3, closure := [], defaults := Value.none, kwdefaults := Value.none, pyModule := Value.str (Str.ofString "livehall.steps") 822, code := Value.ref 531 } }
def o_896 : Params → Obj := fun P => { cls := Value.type "tuple", data := Data.seq #[] }
def o_476 : Params → Obj := fun P => { cls := Value.type "tuple", data := Data.seq #[Value.ref 154] }
def o_759 : Params → Obj := fun P => { cls := Value.type "tuple", data := Data.seq #[Value.str (Str.ofString "frame") 1121, Value.str (Str.ofString "step") 1122, Value.str (Str.ofString "at") 1123, Value.str (Str.ofString "asked") 1124] }
def o_1030 : Params → Obj := fun P => { cls := Value.type "code", data := Data.fields #[Value.str (Str.ofString "is_made") 1486, Value.str (Str.ofString "is_made") 1487, Value.str (Str.ofString "/claim/cut.py") 1488, Value.int 504 0, Value.int 2 0, Value.int 0 0, Value.int 0 0, Value.int 3 0, Value.ref 913, Value.bool true, Value.int 181 0, Value.ref 914, Value.none, Value.none, Value.none, Value.ref 915, Value.int 1489 0, Value.int 504 0, Value.str (Str.ofString "/claim/cut.py") 1490] }
def o_228 : Params → Obj := fun P => { cls := Value.type "tuple", data := Data.seq #[] }
def o_392 : Params → Obj := fun P => { cls := Value.type "code", data := Data.fields #[Value.str (Str.ofString "BadValue") 669, Value.str (Str.ofString "BadValue") 670, Value.str (Str.ofString "/claim/cut.py") 671, Value.int 132 0, Value.int 0 0, Value.int 0 0, Value.int 0 0, Value.int 0 0, Value.ref 338, Value.bool false, Value.int 181 0, Value.ref 339, Value.none, Value.none, Value.none, Value.none, Value.int 672 0, Value.int 132 0, Value.str (Str.ofString "/claim/cut.py") 673] }
def o_692 : Params → Obj := fun P => { cls := Value.type "type", data := Data.cls { name := Str.ofString "Run", bases := [Value.type "object"], mro := [Value.ref 596, Value.type "object"], ns := 595, qualname := Str.ofString "Run" }, slots := #[none, none, some (Value.str (Str.ofString "Run") 1018), some (Value.str (Str.ofString "Run") 1026), some (Value.builtin "object.__new__"), some (Value.bool true)] }
def o_963 : Params → Obj := fun P => { cls := Value.type "function", data := Data.func { name := Str.ofString "make_kind", qualname := Str.ofString "make_kind", params := AT91, body := FuncBody.stmts BT91, scope := ST91, globals := 3, closure := [], defaults := Value.none, kwdefaults := Value.none, pyModule := Value.str (Str.ofString "livehall.kinds") 1374, code := Value.ref 851 } }
def o_555 : Params → Obj := fun P => { cls := Value.none, data := Data.fields #[] }
def o_826 : Params → Obj := fun P => { cls := Value.type "code", data := Data.fields #[Value.str (Str.ofString "numbers_below") 1196, Value.str (Str.ofString "numbers_below") 1197, Value.str (Str.ofString "/claim/cut.py") 1198, Value.int 325 0, Value.int 2 0, Value.int 0 0, Value.int 0 0, Value.int 3 0, Value.ref 719, Value.bool true, Value.int 181 0, Value.ref 720, Value.none, Value.ref 721, Value.ref 722, Value.ref 723, Value.int 1205 0, Value.int 325 0, Value.str (Str.ofString "/claim/cut.py") 1206] }
def o_115 : Params → Obj := fun P => { cls := Value.none, data := Data.func { name := Str.ofString "is_body", qualname := Str.ofString "is_body", params := AT19, body := FuncBody.stmts BT19, scope := ST19, globals := 0, closure := [], defaults := Value.none, kwdefaults := Value.none } }
def o_192 : Params → Obj := fun P => { cls := Value.type "builtin_function_or_method", data := Data.fields #[Value.builtin "type.__prepare__", Value.type "type"] }
def o_348 : Params → Obj := fun P => { cls := Value.type "type", data := Data.cls { name := Str.ofString "BadBody", bases := [Value.ref 154], mro := [Value.ref 308, Value.ref 154, Value.type "ValueError", Value.type "Exception", Value.type "BaseException", Value.type "object"], ns := 307, qualname := Str.ofString "BadBody" }, slots := #[some (Value.ref 299), none, some (Value.str (Str.ofString "BadBody") 619), some (Value.str (Str.ofString "BadBody") 627), some (Value.builtin "ValueError.__new__"), some (Value.bool true)] }
def o_657 : Params → Obj := fun P => { cls := Value.type "code", data := Data.fields #[Value.str (Str.ofString "Frame") 978, Value.str (Str.ofString "Frame") 979, Value.str (Str.ofString "/claim/cut.py") 980, Value.int 234 0, Value.int 0 0, Value.int 0 0, Value.int 0 0, Value.int 0 0, Value.ref 562, Value.bool false, Value.int 181 0, Value.ref 563, Value.none, Value.none, Value.none, Value.none, Value.int 981 0, Value.int 234 0, Value.str (Str.ofString "/claim/cut.py") 982] }
def o_928 : Params → Obj := fun P => { cls := Value.type "tuple", data := Data.seq #[] }
def o_516 : Params → Obj := fun P => { cls := Value.type "dict", data := Data.dict #[{ hash := PyData.keyHash P (Str.ofString "__module__"), key := Value.str (Str.ofString "__module__") 797, val := Value.str (Str.ofString "livehall.errors") 416 }, { hash := PyData.keyHash P (Str.ofString "__firstlineno__"), key := Value.str (Str.ofString "__firstlineno__") 801, val := Value.int 149 800 }, { hash := PyData.keyHash P (Str.ofString "__static_attributes__"), key := Value.str (Str.ofString "__static_attributes__") 802, val := Value.ref 435 }, { hash := PyData.keyHash P (Str.ofString "__doc__"), key := Value.str (Str.ofString "__doc__") 803, val := Value.none }] 2 }
def o_791 : Params → Obj := fun P => { cls := Value.type "function", data := Data.func { name := Str.ofString "kind_name", qualname := Str.ofString "kind_name", params := AT73, body := FuncBody.stmts BT73, scope := ST73, globals := 3, closure := [], defaults := Value.none, kwdefaults := Value.none, pyModule := Value.str (Str.ofString "livehall.lines") 1146, code := Value.ref 691 } }
def o_268 : Params → Obj := fun P => { cls := Value.type "dict", data := Data.dict #[{ hash := PyData.keyHash P (Str.ofString "__module__"), key := Value.str (Str.ofString "__module__") 551, val := Value.str (Str.ofString "livehall.errors") 416 }, { hash := PyData.keyHash P (Str.ofString "__qualname__"), key := Value.str (Str.ofString "__qualname__") 553, val := Value.str (Str.ofString "BadField") 552 }, { hash := PyData.keyHash P (Str.ofString "__firstlineno__"), key := Value.str (Str.ofString "__firstlineno__") 555, val := Value.int 115 554 }, { hash := PyData.keyHash P (Str.ofString "__init__"), key := Value.str (Str.ofString "__init__") 564, val := Value.ref 257 }, { hash := PyData.keyHash P (Str.ofString "__static_attributes__"), key := Value.str (Str.ofString "__static_attributes__") 566, val := Value.ref 258 }, { hash := PyData.keyHash P (Str.ofString "__classcell__"), key := Value.str (Str.ofString "__classcell__") 567, val := Value.ref 245 }] 6 }
def o_432 : Params → Obj := fun P => { cls := Value.none, data := Data.fields #[] }
def o_724 : Params → Obj := fun P => { cls := Value.none, data := Data.fields #[] }
def o_995 : Params → Obj := fun P => { cls := Value.none, data := Data.func { name := Str.ofString "rename_fields", qualname := Str.ofString "rename_fields", params := AT97, body := FuncBody.stmts BT97, scope := ST97, globals := 0, closure := [], defaults := Value.none, kwdefaults := Value.none } }
def o_587 : Params → Obj := fun P => { cls := Value.type "tuple", data := Data.seq #[] }
def o_858 : Params → Obj := fun P => { cls := Value.type "function", data := Data.func { name := Str.ofString "things_of", qualname := Str.ofString "things_of", params := AT83, body := FuncBody.stmts BT83, scope := ST83, globals := 3, closure := [], defaults := Value.none, kwdefaults := Value.none, pyModule := Value.str (Str.ofString "livehall.lines") 1146, code := Value.ref 755 } }
def o_20 : Params → Obj := fun P => { cls := Value.none, data := Data.fields #[] }
def o_36 : Params → Obj := fun P => { cls := Value.type "tuple", data := Data.seq #[] }
def o_70 : Params → Obj := fun P => { cls := Value.type "tuple", data := Data.seq #[Value.str (Str.ofString "e") 273] }
def o_139 : Params → Obj := fun P => { cls := Value.type "tuple", data := Data.seq #[Value.str (Str.ofString "body") 404, Value.str (Str.ofString "wanted") 405, Value.str (Str.ofString "names") 406, Value.str (Str.ofString "built") 407, Value.str (Str.ofString "waiting") 408, Value.str (Str.ofString "sort") 409, Value.str (Str.ofString "part") 410, Value.str (Str.ofString "joined") 411, Value.str (Str.ofString "head") 412] }
def o_296 : Params → Obj := fun P => { cls := Value.type "code", data := Data.fields #[Value.str (Str.ofString "Fixed") 573, Value.str (Str.ofString "Fixed") 574, Value.str (Str.ofString "/claim/cut.py") 575, Value.int 120 0, Value.int 0 0, Value.int 0 0, Value.int 0 0, Value.int 0 0, Value.ref 266, Value.bool false, Value.int 181 0, Value.ref 267, Value.none, Value.none, Value.none, Value.none, Value.int 576 0, Value.int 120 0, Value.str (Str.ofString "/claim/cut.py") 577] }
def o_614 : Params → Obj := fun P => { cls := Value.type "tuple", data := Data.seq #[] }
def o_885 : Params → Obj := fun P => { cls := Value.type "tuple", data := Data.seq #[Value.str (Str.ofString "rows") 1292, Value.str (Str.ofString "key") 1293, Value.str (Str.ofString "row") 1294] }
def o_464 : Params → Obj := fun P => { cls := Value.none, data := Data.fields #[] }
def o_751 : Params → Obj := fun P => { cls := Value.none, data := Data.fields #[] }
def o_1019 : Params → Obj := fun P => { cls := Value.type "tuple", data := Data.seq #[Value.str (Str.ofString "store") 1478, Value.str (Str.ofString "kind") 1479, Value.str (Str.ofString "name") 1480, Value.str (Str.ofString "number") 1481, Value.str (Str.ofString "row") 1482] }
def o_220 : Params → Obj := fun P => { cls := Value.type "tuple", data := Data.seq #[] }
def o_380 : Params → Obj := fun P => { cls := Value.type "type", data := Data.cls { name := Str.ofString "NoThing", bases := [Value.ref 154], mro := [Value.ref 332, Value.ref 154, Value.type "ValueError", Value.type "Exception", Value.type "BaseException", Value.type "object"], ns := 331, qualname := Str.ofString "NoThing" }, slots := #[some (Value.ref 323), none, some (Value.str (Str.ofString "NoThing") 651), some (Value.str (Str.ofString "NoThing") 659), some (Value.builtin "ValueError.__new__"), some (Value.bool true)] }
def o_684 : Params → Obj := fun P => { cls := Value.none, data := Data.fields #[] }
def o_955 : Params → Obj := fun P => { cls := Value.type "tuple", data := Data.seq #[] }
def o_547 : Params → Obj := fun P => { cls := Value.type "tuple", data := Data.seq #[] }
def o_815 : Params → Obj := fun P => { cls := Value.none, data := Data.func { name := Str.ofString "heir_numbers", qualname := Str.ofString "heir_numbers", params := AT77, body := FuncBody.stmts BT77, scope := ST77, globals := 0, closure := [], defaults := Value.none, kwdefaults := Value.none } }
def o_107 : Params → Obj := fun P => { cls := Value.none, data := Data.fields #[] }
def o_180 : Params → Obj := fun P => { cls := Value.type "code", data := Data.fields #[Value.str (Str.ofString "__init__") 448, Value.str (Str.ofString "BadName.__init__") 449, Value.str (Str.ofString "/claim/cut.py") 450, Value.int 97 0, Value.int 2 0, Value.int 0 0, Value.int 0 0, Value.int 3 0, Value.ref 167, Value.bool true, Value.int 181 0, Value.ref 168, Value.none, Value.ref 169, Value.ref 170, Value.ref 171, Value.int 454 0, Value.int 97 0, Value.str (Str.ofString "/claim/cut.py") 455] }
def o_340 : Params → Obj := fun P => { cls := Value.type "builtin_function_or_method", data := Data.fields #[Value.builtin "type.__prepare__", Value.type "type"] }
def o_646 : Params → Obj := fun P => { cls := Value.type "getset_descriptor", data := Data.fields #[Value.str (Str.ofString "__weakref__") 969, Value.ref 554, Value.builtin "ExceptionGroup.__weakref__", Value.none] }
def o_920 : Params → Obj := fun P => { cls := Value.type "function", data := Data.func { name := Str.ofString "new_number", qualname := Str.ofString "Store.new_number", params := AM87x2, body := FuncBody.stmts BM87x2, scope := SM87x2, globals := 3, closure := [], defaults := Value.none, kwdefaults := Value.none, pyModule := Value.str (Str.ofString "livehall.store") 1250, code := Value.ref 811 } }
def o_508 : Params → Obj := fun P => { cls := Value.type "tuple", data := Data.seq #[Value.ref 154] }
def o_783 : Params → Obj := fun P => { cls := Value.type "code", data := Data.fields #[Value.str (Str.ofString "kind_number") 1148, Value.str (Str.ofString "kind_number") 1149, Value.str (Str.ofString "/claim/cut.py") 1150, Value.int 304 0, Value.int 2 0, Value.int 0 0, Value.int 0 0, Value.int 3 0, Value.ref 679, Value.bool true, Value.int 181 0, Value.ref 680, Value.none, Value.ref 681, Value.ref 682, Value.ref 683, Value.int 1153 0, Value.int 304 0, Value.str (Str.ofString "/claim/cut.py") 1154] }
def o_256 : Params → Obj := fun P => { cls := Value.type "function", data := Data.func { name := Str.ofString "__init__", qualname := Str.ofString "NoField.__init__", params := AM29x0, body := FuncBody.stmts BM29x0, scope := SM29x0, globals := 3, closure := [(Str.ofString "__class__", 224)], defaults := Value.none, kwdefaults := Value.none, pyModule := Value.str (Str.ofString "livehall.errors") 416, code := Value.ref 235, closureTuple := Value.ref 229 } }
def o_420 : Params → Obj := fun P => { cls := Value.type "dict", data := Data.dict #[{ hash := PyData.keyHash P (Str.ofString "__module__"), key := Value.str (Str.ofString "__module__") 690, val := Value.str (Str.ofString "livehall.errors") 416 }, { hash := PyData.keyHash P (Str.ofString "__firstlineno__"), key := Value.str (Str.ofString "__firstlineno__") 694, val := Value.int 134 693 }, { hash := PyData.keyHash P (Str.ofString "__init__"), key := Value.str (Str.ofString "__init__") 703, val := Value.ref 362 }, { hash := PyData.keyHash P (Str.ofString "__static_attributes__"), key := Value.str (Str.ofString "__static_attributes__") 705, val := Value.ref 363 }, { hash := PyData.keyHash P (Str.ofString "__doc__"), key := Value.str (Str.ofString "__doc__") 707, val := Value.none }] 3 }
def o_716 : Params → Obj := fun P => { cls := Value.type "tuple", data := Data.seq #[] }
def o_987 : Params → Obj := fun P => { cls := Value.type "function", data := Data.func { name := Str.ofString "renamed_way", qualname := Str.ofString "renamed_way", params := AT95, body := FuncBody.stmts BT95, scope := ST95, globals := 3, closure := [], defaults := Value.none, kwdefaults := Value.none, pyModule := Value.str (Str.ofString "livehall.kinds") 1374, code := Value.ref 875 } }
def o_579 : Params → Obj := fun P => { cls := Value.type "function", data := Data.func { name := Str.ofString "finished", qualname := Str.ofString "Builder.finished", params := AM48x4, body := FuncBody.stmts BM48x4, scope := SM48x4, globals := 3, closure := [], defaults := Value.none, kwdefaults := Value.none, pyModule := Value.str (Str.ofString "livehall.steps") 822, code := Value.ref 491 } }
def o_850 : Params → Obj := fun P => { cls := Value.type "tuple", data := Data.seq #[] }
def o_52 : Params → Obj := fun P => { cls := Value.type "code", data := Data.fields #[Value.str (Str.ofString "same_leaf") 234, Value.str (Str.ofString "same_leaf") 235, Value.str (Str.ofString "/claim/cut.py") 236, Value.int 17 0, Value.int 2 0, Value.int 0 0, Value.int 0 0, Value.int 3 0, Value.ref 55, Value.bool true, Value.int 181 0, Value.ref 56, Value.none, Value.ref 57, Value.ref 58, Value.ref 59, Value.int 239 0, Value.int 17 0, Value.str (Str.ofString "/claim/cut.py") 240] }
def o_91 : Params → Obj := fun P => { cls := Value.type "tuple", data := Data.seq #[Value.str (Str.ofString "name") 338, Value.str (Str.ofString "field") 339, Value.str (Str.ofString "word") 340, Value.str (Str.ofString "kind") 341, Value.str (Str.ofString "value") 342] }
def o_160 : Params → Obj := fun P => { cls := Value.type "super", data := Data.fields #[Value.ref 154, Value.ref 154, Value.ref 154] }
def o_316 : Params → Obj := fun P => { cls := Value.type "type", data := Data.cls { name := Str.ofString "Ring", bases := [Value.ref 154], mro := [Value.ref 284, Value.ref 154, Value.type "ValueError", Value.type "Exception", Value.type "BaseException", Value.type "object"], ns := 283, qualname := Str.ofString "Ring" }, slots := #[some (Value.ref 275), none, some (Value.str (Str.ofString "Ring") 587), some (Value.str (Str.ofString "Ring") 595), some (Value.builtin "ValueError.__new__"), some (Value.bool true)] }
def o_630 : Params → Obj := fun P => { cls := Value.type "dict", data := Data.dict #[{ hash := PyData.keyHash P (Str.ofString "__module__"), key := Value.str (Str.ofString "__module__") 948, val := Value.str (Str.ofString "livehall.steps") 822 }, { hash := PyData.keyHash P (Str.ofString "__qualname__"), key := Value.str (Str.ofString "__qualname__") 950, val := Value.str (Str.ofString "Way") 949 }, { hash := PyData.keyHash P (Str.ofString "__firstlineno__"), key := Value.str (Str.ofString "__firstlineno__") 952, val := Value.int 227 951 }, { hash := PyData.keyHash P (Str.ofString "__init__"), key := Value.str (Str.ofString "__init__") 961, val := Value.ref 551 }, { hash := PyData.keyHash P (Str.ofString "__static_attributes__"), key := Value.str (Str.ofString "__static_attributes__") 966, val := Value.ref 552 }] 5 }
def o_904 : Params → Obj := fun P => { cls := Value.none, data := Data.func { name := Str.ofString "__init__", qualname := Str.ofString "Store.__init__", params := AM87x0, body := FuncBody.stmts BM87x0, scope := SM87x0, globals := 0, closure := [], defaults := Value.none, kwdefaults := Value.none } }
def o_484 : Params → Obj := fun P => { cls := Value.type "dict", data := Data.dict #[{ hash := PyData.keyHash P (Str.ofString "__module__"), key := Value.str (Str.ofString "__module__") 765, val := Value.str (Str.ofString "livehall.errors") 416 }, { hash := PyData.keyHash P (Str.ofString "__firstlineno__"), key := Value.str (Str.ofString "__firstlineno__") 769, val := Value.int 145 768 }, { hash := PyData.keyHash P (Str.ofString "__static_attributes__"), key := Value.str (Str.ofString "__static_attributes__") 770, val := Value.ref 411 }, { hash := PyData.keyHash P (Str.ofString "__doc__"), key := Value.str (Str.ofString "__doc__") 771, val := Value.none }] 2 }
def o_767 : Params → Obj := fun P => { cls := Value.type "tuple", data := Data.seq #[] }
def o_1038 : Params → Obj := fun P => { cls := Value.type "function", data := Data.func { name := Str.ofString "drop_kind", qualname := Str.ofString "drop_kind", params := AT103, body := FuncBody.stmts BT103, scope := ST103, globals := 3, closure := [], defaults := Value.none, kwdefaults := Value.none, pyModule := Value.str (Str.ofString "livehall.kinds") 1374, code := Value.ref 923 } }
def o_236 : Params → Obj := fun P => { cls := Value.type "builtin_function_or_method", data := Data.fields #[Value.builtin "object.__init_subclass__", Value.ref 218] }
def o_404 : Params → Obj := fun P => { cls := Value.type "builtin_function_or_method", data := Data.fields #[Value.builtin "type.__prepare__", Value.type "type"] }
def o_700 : Params → Obj := fun P => { cls := Value.type "code", data := Data.fields #[Value.str (Str.ofString "first_frame") 1049, Value.str (Str.ofString "first_frame") 1050, Value.str (Str.ofString "/claim/cut.py") 1051, Value.int 251 0, Value.int 3 0, Value.int 0 0, Value.int 0 0, Value.int 3 0, Value.ref 601, Value.bool true, Value.int 181 0, Value.ref 602, Value.none, Value.none, Value.none, Value.ref 603, Value.int 1052 0, Value.int 251 0, Value.str (Str.ofString "/claim/cut.py") 1053] }
def o_971 : Params → Obj := fun P => { cls := Value.type "tuple", data := Data.seq #[] }
def o_563 : Params → Obj := fun P => { cls := Value.type "tuple", data := Data.seq #[Value.str (Str.ofString "self") 859, Value.str (Str.ofString "what") 860, Value.str (Str.ofString "part") 861] }
def o_834 : Params → Obj := fun P => { cls := Value.type "function", data := Data.func { name := Str.ofString "line_fields", qualname := Str.ofString "line_fields", params := AT79, body := FuncBody.stmts BT79, scope := ST79, globals := 3, closure := [], defaults := Value.none, kwdefaults := Value.none, pyModule := Value.str (Str.ofString "livehall.lines") 1146, code := Value.ref 731 } }
def o_123 : Params → Obj := fun P => { cls := Value.type "code", data := Data.fields #[Value.str (Str.ofString "parts_in") 377, Value.str (Str.ofString "parts_in") 378, Value.str (Str.ofString "/claim/cut.py") 379, Value.int 61 0, Value.int 1 0, Value.int 0 0, Value.int 0 0, Value.int 3 0, Value.ref 119, Value.bool true, Value.int 181 0, Value.ref 120, Value.none, Value.ref 121, Value.ref 122, Value.ref 123, Value.int 385 0, Value.int 61 0, Value.str (Str.ofString "/claim/cut.py") 386] }
def o_200 : Params → Obj := fun P => { cls := Value.type "tuple", data := Data.seq #[Value.str (Str.ofString "__class__") 478] }
def o_360 : Params → Obj := fun P => { cls := Value.type "code", data := Data.fields #[Value.str (Str.ofString "NoWay") 637, Value.str (Str.ofString "NoWay") 638, Value.str (Str.ofString "/claim/cut.py") 639, Value.int 128 0, Value.int 0 0, Value.int 0 0, Value.int 0 0, Value.int 0 0, Value.ref 314, Value.bool false, Value.int 181 0, Value.ref 315, Value.none, Value.none, Value.none, Value.none, Value.int 640 0, Value.int 128 0, Value.str (Str.ofString "/claim/cut.py") 641] }
def o_665 : Params → Obj := fun P => { cls := Value.type "function", data := Data.func { name := Str.ofString "__init__", qualname := Str.ofString "Frame.__init__", params := AM57x0, body := FuncBody.stmts BM57x0, scope := SM57x0, globals := 3, closure := [], defaults := Value.none, kwdefaults := Value.none, pyModule := Value.str (Str.ofString "livehall.frames") 974, code := Value.ref 571 } }
def o_936 : Params → Obj := fun P => { cls := Value.type "dict", data := Data.dict #[{ hash := PyData.keyHash P (Str.ofString "__module__"), key := Value.str (Str.ofString "__module__") 1305, val := Value.str (Str.ofString "livehall.store") 1250 }, { hash := PyData.keyHash P (Str.ofString "__firstlineno__"), key := Value.str (Str.ofString "__firstlineno__") 1309, val := Value.int 368 1308 }, { hash := PyData.keyHash P (Str.ofString "__init__"), key := Value.str (Str.ofString "__init__") 1316, val := Value.ref 798 }, { hash := PyData.keyHash P (Str.ofString "write"), key := Value.str (Str.ofString "write") 1327, val := Value.ref 805 }, { hash := PyData.keyHash P (Str.ofString "new_number"), key := Value.str (Str.ofString "new_number") 1336, val := Value.ref 812 }, { hash := PyData.keyHash P (Str.ofString "take_changes"), key := Value.str (Str.ofString "take_changes") 1344, val := Value.ref 819 }, { hash := PyData.keyHash P (Str.ofString "turn"), key := Value.str (Str.ofString "turn") 1357, val := Value.ref 826 }, { hash := PyData.keyHash P (Str.ofString "__static_attributes__"), key := Value.str (Str.ofString "__static_attributes__") 1366, val := Value.ref 827 }, { hash := PyData.keyHash P (Str.ofString "__dict__"), key := Value.str (Str.ofString "__dict__") 1368, val := Value.ref 830 }, { hash := PyData.keyHash P (Str.ofString "__weakref__"), key := Value.str (Str.ofString "__weakref__") 1370, val := Value.ref 831 }, { hash := PyData.keyHash P (Str.ofString "__doc__"), key := Value.str (Str.ofString "__doc__") 1371, val := Value.none }] 4 }
def o_528 : Params → Obj := fun P => { cls := Value.none, data := Data.fields #[] }
def o_799 : Params → Obj := fun P => { cls := Value.type "tuple", data := Data.seq #[Value.str (Str.ofString "store") 1173, Value.str (Str.ofString "number") 1174, Value.str (Str.ofString "numbers") 1175] }
def o_276 : Params → Obj := fun P => { cls := Value.none, data := Data.fields #[] }
def o_444 : Params → Obj := fun P => { cls := Value.type "tuple", data := Data.seq #[Value.ref 154] }
def o_735 : Params → Obj := fun P => { cls := Value.none, data := Data.func { name := Str.ofString "change_frames", qualname := Str.ofString "change_frames", params := AT64, body := FuncBody.stmts BT64, scope := ST64, globals := 0, closure := [], defaults := Value.none, kwdefaults := Value.none } }
def o_1003 : Params → Obj := fun P => { cls := Value.type "code", data := Data.fields #[Value.str (Str.ofString "rename_made") 1443, Value.str (Str.ofString "rename_made") 1444, Value.str (Str.ofString "/claim/cut.py") 1445, Value.int 456 0, Value.int 2 0, Value.int 0 0, Value.int 0 0, Value.int 3 0, Value.ref 887, Value.bool true, Value.int 181 0, Value.ref 888, Value.none, Value.ref 889, Value.ref 890, Value.ref 891, Value.int 1451 0, Value.int 456 0, Value.str (Str.ofString "/claim/cut.py") 1452] }
def o_598 : Params → Obj := fun P => { cls := Value.none, data := Data.fields #[] }
def o_869 : Params → Obj := fun P => { cls := Value.type "tuple", data := Data.seq #[] }
def o_10 : Params → Obj := fun P => { cls := Value.type "tuple", data := Data.seq #[] }
def o_26 : Params → Obj := fun P => { cls := Value.type "tuple", data := Data.seq #[] }
def o_58 : Params → Obj := fun P => { cls := Value.none, data := Data.func { name := Str.ofString "same", qualname := Str.ofString "same", params := AT10, body := FuncBody.stmts BT10, scope := ST10, globals := 0, closure := [], defaults := Value.none, kwdefaults := Value.none } }
def o_129 : Params → Obj := fun P => { cls := Value.type "function", data := Data.func { name := Str.ofString "leaves_in", qualname := Str.ofString "leaves_in", params := AT21, body := FuncBody.stmts BT21, scope := ST21, globals := 3, closure := [], defaults := Value.none, kwdefaults := Value.none, pyModule := Value.str (Str.ofString "livehall.bodies") 253, code := Value.ref 129 } }
def o_282 : Params → Obj := fun P => { cls := Value.type "tuple", data := Data.seq #[Value.str (Str.ofString "field") 565] }
def o_604 : Params → Obj := fun P => { cls := Value.type "tuple", data := Data.seq #[] }
def o_875 : Params → Obj := fun P => { cls := Value.type "function", data := Data.func { name := Str.ofString "__init__", qualname := Str.ofString "Kind.__init__", params := AM85x0, body := FuncBody.stmts BM85x0, scope := SM85x0, globals := 3, closure := [], defaults := Value.none, kwdefaults := Value.none, pyModule := Value.str (Str.ofString "livehall.store") 1250, code := Value.ref 769 } }
def o_450 : Params → Obj := fun P => { cls := Value.type "frame", slots := #[some (Value.ref 385), some (Value.ref 3), some (Value.ref 382), none, some (Value.str (Str.ofString "livehall.errors") 416), none, some (Value.ref 0)] }
def o_741 : Params → Obj := fun P => { cls := Value.type "tuple", data := Data.seq #[] }
def o_1009 : Params → Obj := fun P => { cls := Value.type "function", data := Data.func { name := Str.ofString "reshape", qualname := Str.ofString "reshape", params := AT99, body := FuncBody.stmts BT99, scope := ST99, globals := 3, closure := [], defaults := Value.none, kwdefaults := Value.none, pyModule := Value.str (Str.ofString "livehall.kinds") 1374, code := Value.ref 897 } }
def o_206 : Params → Obj := fun P => { cls := Value.type "function", data := Data.func { name := Str.ofString "__init__", qualname := Str.ofString "Known.__init__", params := AM27x0, body := FuncBody.stmts BM27x0, scope := SM27x0, globals := 3, closure := [(Str.ofString "__class__", 182)], defaults := Value.none, kwdefaults := Value.none, pyModule := Value.str (Str.ofString "livehall.errors") 416, code := Value.ref 193, closureTuple := Value.ref 187 } }
def o_366 : Params → Obj := fun P => { cls := Value.type "builtin_function_or_method", data := Data.fields #[Value.builtin "object.__init_subclass__", Value.ref 320] }
def o_671 : Params → Obj := fun P => { cls := Value.type "super", data := Data.fields #[Value.ref 575, Value.ref 575, Value.ref 575] }
def o_945 : Params → Obj := fun P => { cls := Value.type "tuple", data := Data.seq #[] }
def o_534 : Params → Obj := fun P => { cls := Value.type "super", data := Data.fields #[Value.ref 449, Value.ref 449, Value.ref 449] }
def o_805 : Params → Obj := fun P => { cls := Value.none, data := Data.fields #[] }
def o_97 : Params → Obj := fun P => { cls := Value.type "code", data := Data.fields #[Value.str (Str.ofString "is_leaf") 344, Value.str (Str.ofString "is_leaf") 345, Value.str (Str.ofString "/claim/cut.py") 346, Value.int 33 0, Value.int 2 0, Value.int 0 0, Value.int 0 0, Value.int 3 0, Value.ref 93, Value.bool true, Value.int 181 0, Value.ref 94, Value.none, Value.ref 95, Value.ref 96, Value.ref 97, Value.int 349 0, Value.int 33 0, Value.str (Str.ofString "/claim/cut.py") 350] }
def o_170 : Params → Obj := fun P => { cls := Value.type "tuple", data := Data.seq #[] }
def o_326 : Params → Obj := fun P => { cls := Value.type "tuple", data := Data.seq #[] }
def o_636 : Params → Obj := fun P => { cls := Value.none, data := Data.fields #[] }
def o_910 : Params → Obj := fun P => { cls := Value.type "tuple", data := Data.seq #[] }
def o_494 : Params → Obj := fun P => { cls := Value.type "dict", data := Data.dict #[{ hash := PyData.keyHash P (Str.ofString "__module__"), key := Value.str (Str.ofString "__module__") 781, val := Value.str (Str.ofString "livehall.errors") 416 }, { hash := PyData.keyHash P (Str.ofString "__qualname__"), key := Value.str (Str.ofString "__qualname__") 783, val := Value.str (Str.ofString "NoFrame") 782 }, { hash := PyData.keyHash P (Str.ofString "__firstlineno__"), key := Value.str (Str.ofString "__firstlineno__") 785, val := Value.int 147 784 }, { hash := PyData.keyHash P (Str.ofString "__static_attributes__"), key := Value.str (Str.ofString "__static_attributes__") 786, val := Value.ref 423 }] 4 }
def o_773 : Params → Obj := fun P => { cls := Value.type "tuple", data := Data.seq #[Value.str (Str.ofString "frame") 1140, Value.str (Str.ofString "asked") 1141, Value.str (Str.ofString "given") 1142] }
def o_246 : Params → Obj := fun P => { cls := Value.none, data := Data.fields #[Value.int 112 0, Value.int 4 0, Value.ref 235] }
def o_410 : Params → Obj := fun P => { cls := Value.type "frame", slots := #[some (Value.ref 353), some (Value.ref 3), some (Value.ref 349), none, some (Value.str (Str.ofString "livehall.errors") 416), none, some (Value.ref 0)] }
def o_706 : Params → Obj := fun P => { cls := Value.none, data := Data.func { name := Str.ofString "copied", qualname := Str.ofString "copied", params := AT60, body := FuncBody.stmts BT60, scope := ST60, globals := 0, closure := [], defaults := Value.none, kwdefaults := Value.none } }
def o_977 : Params → Obj := fun P => { cls := Value.type "function", data := Data.func { name := Str.ofString "check_come", qualname := Str.ofString "check_come", params := AT93, body := FuncBody.stmts BT93, scope := ST93, globals := 3, closure := [], defaults := Value.none, kwdefaults := Value.none, pyModule := Value.str (Str.ofString "livehall.kinds") 1374, code := Value.ref 865 } }
def o_569 : Params → Obj := fun P => { cls := Value.none, data := Data.fields #[] }
def o_840 : Params → Obj := fun P => { cls := Value.type "code", data := Data.fields #[Value.str (Str.ofString "line_weak") 1218, Value.str (Str.ofString "line_weak") 1219, Value.str (Str.ofString "/claim/cut.py") 1220, Value.int 339 0, Value.int 2 0, Value.int 0 0, Value.int 0 0, Value.int 3 0, Value.ref 733, Value.bool true, Value.int 181 0, Value.ref 734, Value.none, Value.ref 735, Value.ref 736, Value.ref 737, Value.int 1225 0, Value.int 339 0, Value.str (Str.ofString "/claim/cut.py") 1226] }
def o_42 : Params → Obj := fun P => { cls := Value.type "tuple", data := Data.seq #[Value.str (Str.ofString "thing") 230] }
def o_76 : Params → Obj := fun P => { cls := Value.type "tuple", data := Data.seq #[Value.str (Str.ofString "field") 293] }
def o_150 : Params → Obj := fun P => { cls := Value.type "builtin_function_or_method", data := Data.fields #[Value.builtin "type.__prepare__", Value.type "type"] }
def o_302 : Params → Obj := fun P => { cls := Value.type "builtin_function_or_method", data := Data.fields #[Value.builtin "object.__init_subclass__", Value.ref 272] }
def o_620 : Params → Obj := fun P => { cls := Value.none, data := Data.func { name := Str.ofString "e_orders", qualname := Str.ofString "e_orders", params := AT53, body := FuncBody.stmts BT53, scope := ST53, globals := 0, closure := [], defaults := Value.none, kwdefaults := Value.none } }
def o_894 : Params → Obj := fun P => { cls := Value.type "builtin_function_or_method", data := Data.fields #[Value.builtin "type.__prepare__", Value.type "type"] }
def o_470 : Params → Obj := fun P => { cls := Value.type "super", data := Data.fields #[Value.ref 401, Value.ref 401, Value.ref 401] }
def o_757 : Params → Obj := fun P => { cls := Value.type "tuple", data := Data.seq #[] }
def o_1028 : Params → Obj := fun P => { cls := Value.none, data := Data.fields #[] }
def o_226 : Params → Obj := fun P => { cls := Value.none, data := Data.fields #[] }
def o_390 : Params → Obj := fun P => { cls := Value.type "tuple", data := Data.seq #[] }
def o_690 : Params → Obj := fun P => { cls := Value.type "tuple", data := Data.seq #[Value.str (Str.ofString "outcome") 1039, Value.str (Str.ofString "top") 1040] }
def o_961 : Params → Obj := fun P => { cls := Value.none, data := Data.func { name := Str.ofString "make_kind", qualname := Str.ofString "make_kind", params := AT91, body := FuncBody.stmts BT91, scope := ST91, globals := 0, closure := [], defaults := Value.none, kwdefaults := Value.none } }
def o_553 : Params → Obj := fun P => { cls := Value.type "function", data := Data.func { name := Str.ofString "__init__", qualname := Str.ofString "Builder.__init__", params := AM48x0, body := FuncBody.stmts BM48x0, scope := SM48x0, globals := 3, closure := [], defaults := Value.none, kwdefaults := Value.none, pyModule := Value.str (Str.ofString "livehall.steps") 822, code := Value.ref 465 } }
def o_824 : Params → Obj := fun P => { cls := Value.type "tuple", data := Data.seq #[] }
def o_113 : Params → Obj := fun P => { cls := Value.type "tuple", data := Data.seq #[Value.str (Str.ofString "thing") 369, Value.str (Str.ofString "waiting") 370, Value.str (Str.ofString "sort") 371, Value.str (Str.ofString "part") 372, Value.str (Str.ofString "parts") 373] }
def o_186 : Params → Obj := fun P => { cls := Value.type "builtin_function_or_method", data := Data.fields #[Value.builtin "object.__init_subclass__", Value.ref 176] }
def o_346 : Params → Obj := fun P => { cls := Value.type "tuple", data := Data.seq #[] }
def o_655 : Params → Obj := fun P => { cls := Value.type "tuple", data := Data.seq #[] }
def o_926 : Params → Obj := fun P => { cls := Value.type "code", data := Data.fields #[Value.str (Str.ofString "take_changes") 1337, Value.str (Str.ofString "Store.take_changes") 1338, Value.str (Str.ofString "/claim/cut.py") 1339, Value.int 390 0, Value.int 1 0, Value.int 0 0, Value.int 0 0, Value.int 3 0, Value.ref 813, Value.bool true, Value.int 181 0, Value.ref 814, Value.none, Value.ref 815, Value.ref 816, Value.ref 817, Value.int 1342 0, Value.int 390 0, Value.str (Str.ofString "/claim/cut.py") 1343] }
def o_514 : Params → Obj := fun P => { cls := Value.type "frame", slots := #[some (Value.ref 433), some (Value.ref 3), some (Value.ref 430), none, some (Value.str (Str.ofString "livehall.errors") 416), none, some (Value.ref 0)] }
def o_789 : Params → Obj := fun P => { cls := Value.none, data := Data.func { name := Str.ofString "kind_name", qualname := Str.ofString "kind_name", params := AT73, body := FuncBody.stmts BT73, scope := ST73, globals := 0, closure := [], defaults := Value.none, kwdefaults := Value.none } }
def o_266 : Params → Obj := fun P => { cls := Value.type "tuple", data := Data.seq #[Value.ref 154] }
def o_430 : Params → Obj := fun P => { cls := Value.type "dict", data := Data.dict #[{ hash := PyData.keyHash P (Str.ofString "__module__"), key := Value.str (Str.ofString "__module__") 717, val := Value.str (Str.ofString "livehall.errors") 416 }, { hash := PyData.keyHash P (Str.ofString "__qualname__"), key := Value.str (Str.ofString "__qualname__") 719, val := Value.str (Str.ofString "Same") 718 }, { hash := PyData.keyHash P (Str.ofString "__firstlineno__"), key := Value.str (Str.ofString "__firstlineno__") 721, val := Value.int 139 720 }, { hash := PyData.keyHash P (Str.ofString "__static_attributes__"), key := Value.str (Str.ofString "__static_attributes__") 722, val := Value.ref 375 }] 4 }
def o_722 : Params → Obj := fun P => { cls := Value.type "function", data := Data.func { name := Str.ofString "begun", qualname := Str.ofString "begun", params := AT62, body := FuncBody.stmts BT62, scope := ST62, globals := 3, closure := [], defaults := Value.none, kwdefaults := Value.none, pyModule := Value.str (Str.ofString "livehall.frames") 974, code := Value.ref 625 } }
def o_993 : Params → Obj := fun P => { cls := Value.type "tuple", data := Data.seq #[] }
def o_585 : Params → Obj := fun P => { cls := Value.type "super", data := Data.fields #[Value.ref 495, Value.ref 495, Value.ref 495] }
def o_856 : Params → Obj := fun P => { cls := Value.none, data := Data.func { name := Str.ofString "things_of", qualname := Str.ofString "things_of", params := AT83, body := FuncBody.stmts BT83, scope := ST83, globals := 0, closure := [], defaults := Value.none, kwdefaults := Value.none } }
def o_18 : Params → Obj := fun P => { cls := Value.type "function", data := Data.func { name := Str.ofString "all_between", qualname := Str.ofString "all_between", params := AT4, body := FuncBody.stmts BT4, scope := ST4, globals := 3, closure := [], defaults := Value.none, kwdefaults := Value.none, pyModule := Value.str (Str.ofString "livehall.values") 194, code := Value.ref 25 } }
def o_34 : Params → Obj := fun P => { cls := Value.none, data := Data.fields #[] }
def o_68 : Params → Obj := fun P => { cls := Value.type "tuple", data := Data.seq #[Value.str (Str.ofString "e") 266, Value.str (Str.ofString "body") 267, Value.str (Str.ofString "body") 268] }
def o_137 : Params → Obj := fun P => { cls := Value.type "tuple", data := Data.seq #[] }
def o_294 : Params → Obj := fun P => { cls := Value.type "tuple", data := Data.seq #[] }
def o_612 : Params → Obj := fun P => { cls := Value.none, data := Data.fields #[] }
def o_883 : Params → Obj := fun P => { cls := Value.type "tuple", data := Data.seq #[] }
def o_462 : Params → Obj := fun P => { cls := Value.type "dict", data := Data.dict #[{ hash := PyData.keyHash P (Str.ofString "__module__"), key := Value.str (Str.ofString "__module__") 749, val := Value.str (Str.ofString "livehall.errors") 416 }, { hash := PyData.keyHash P (Str.ofString "__qualname__"), key := Value.str (Str.ofString "__qualname__") 751, val := Value.str (Str.ofString "Ended") 750 }, { hash := PyData.keyHash P (Str.ofString "__firstlineno__"), key := Value.str (Str.ofString "__firstlineno__") 753, val := Value.int 143 752 }, { hash := PyData.keyHash P (Str.ofString "__static_attributes__"), key := Value.str (Str.ofString "__static_attributes__") 754, val := Value.ref 399 }] 4 }
def o_749 : Params → Obj := fun P => { cls := Value.type "function", data := Data.func { name := Str.ofString "run_values", qualname := Str.ofString "run_values", params := AT66, body := FuncBody.stmts BT66, scope := ST66, globals := 3, closure := [], defaults := Value.none, kwdefaults := Value.none, pyModule := Value.str (Str.ofString "livehall.frames") 974, code := Value.ref 649 } }
def o_1017 : Params → Obj := fun P => { cls := Value.type "tuple", data := Data.seq #[] }
def o_218 : Params → Obj := fun P => { cls := Value.type "dict", data := Data.dict #[{ hash := PyData.keyHash P (Str.ofString "__module__"), key := Value.str (Str.ofString "__module__") 497, val := Value.str (Str.ofString "livehall.errors") 416 }, { hash := PyData.keyHash P (Str.ofString "__qualname__"), key := Value.str (Str.ofString "__qualname__") 499, val := Value.str (Str.ofString "NoKind") 498 }, { hash := PyData.keyHash P (Str.ofString "__firstlineno__"), key := Value.str (Str.ofString "__firstlineno__") 501, val := Value.int 105 500 }, { hash := PyData.keyHash P (Str.ofString "__init__"), key := Value.str (Str.ofString "__init__") 510, val := Value.ref 215 }, { hash := PyData.keyHash P (Str.ofString "__static_attributes__"), key := Value.str (Str.ofString "__static_attributes__") 512, val := Value.ref 216 }, { hash := PyData.keyHash P (Str.ofString "__classcell__"), key := Value.str (Str.ofString "__classcell__") 513, val := Value.ref 203 }] 6 }
def o_378 : Params → Obj := fun P => { cls := Value.type "tuple", data := Data.seq #[] }
def o_682 : Params → Obj := fun P => { cls := Value.type "frame", slots := #[some (Value.ref 585), some (Value.ref 3), some (Value.ref 582), none, some (Value.str (Str.ofString "livehall.frames") 974), none, some (Value.ref 0)] }
def o_953 : Params → Obj := fun P => { cls := Value.none, data := Data.fields #[] }
def o_545 : Params → Obj := fun P => { cls := Value.type "code", data := Data.fields #[Value.str (Str.ofString "Builder") 832, Value.str (Str.ofString "Builder") 833, Value.str (Str.ofString "/claim/cut.py") 834, Value.int 155 0, Value.int 0 0, Value.int 0 0, Value.int 0 0, Value.int 0 0, Value.ref 456, Value.bool false, Value.int 181 0, Value.ref 457, Value.none, Value.none, Value.none, Value.none, Value.int 835 0, Value.int 155 0, Value.str (Str.ofString "/claim/cut.py") 836] }
def o_813 : Params → Obj := fun P => { cls := Value.type "tuple", data := Data.seq #[Value.str (Str.ofString "store") 1191, Value.str (Str.ofString "number") 1192] }
def o_105 : Params → Obj := fun P => { cls := Value.type "function", data := Data.func { name := Str.ofString "shape_of", qualname := Str.ofString "shape_of", params := AT17, body := FuncBody.stmts BT17, scope := ST17, globals := 3, closure := [], defaults := Value.none, kwdefaults := Value.none, pyModule := Value.str (Str.ofString "livehall.bodies") 253, code := Value.ref 105 } }
def o_178 : Params → Obj := fun P => { cls := Value.type "tuple", data := Data.seq #[] }
def o_334 : Params → Obj := fun P => { cls := Value.type "builtin_function_or_method", data := Data.fields #[Value.builtin "object.__init_subclass__", Value.ref 296] }
def o_644 : Params → Obj := fun P => { cls := Value.type "type", data := Data.cls { name := Str.ofString "Way", bases := [Value.type "object"], mro := [Value.ref 554, Value.type "object"], ns := 553, qualname := Str.ofString "Way" }, slots := #[none, none, some (Value.str (Str.ofString "Way") 941), some (Value.str (Str.ofString "Way") 949), some (Value.builtin "object.__new__"), some (Value.bool true)] }
def o_918 : Params → Obj := fun P => { cls := Value.none, data := Data.func { name := Str.ofString "new_number", qualname := Str.ofString "Store.new_number", params := AM87x2, body := FuncBody.stmts BM87x2, scope := SM87x2, globals := 0, closure := [], defaults := Value.none, kwdefaults := Value.none } }
def o_502 : Params → Obj := fun P => { cls := Value.type "super", data := Data.fields #[Value.ref 425, Value.ref 425, Value.ref 425] }
def o_781 : Params → Obj := fun P => { cls := Value.type "tuple", data := Data.seq #[] }
def o_254 : Params → Obj := fun P => { cls := Value.none, data := Data.func { name := Str.ofString "__init__", qualname := Str.ofString "NoField.__init__", params := AM29x0, body := FuncBody.stmts BM29x0, scope := SM29x0, globals := 0, closure := [], defaults := Value.none, kwdefaults := Value.none } }
def o_418 : Params → Obj := fun P => { cls := Value.type "function", data := Data.func { name := Str.ofString "__init__", qualname := Str.ofString "NoName.__init__", params := AM38x0, body := FuncBody.stmts BM38x0, scope := SM38x0, globals := 3, closure := [(Str.ofString "__class__", 350)], defaults := Value.none, kwdefaults := Value.none, pyModule := Value.str (Str.ofString "livehall.errors") 416, code := Value.ref 361, closureTuple := Value.ref 355 } }
def o_714 : Params → Obj := fun P => { cls := Value.type "code", data := Data.fields #[Value.str (Str.ofString "chain") 1063, Value.str (Str.ofString "chain") 1064, Value.str (Str.ofString "/claim/cut.py") 1065, Value.int 261 0, Value.int 1 0, Value.int 0 0, Value.int 0 0, Value.int 3 0, Value.ref 613, Value.bool true, Value.int 181 0, Value.ref 614, Value.none, Value.ref 615, Value.ref 616, Value.ref 617, Value.int 1069 0, Value.int 261 0, Value.str (Str.ofString "/claim/cut.py") 1070] }
def o_985 : Params → Obj := fun P => { cls := Value.none, data := Data.func { name := Str.ofString "renamed_way", qualname := Str.ofString "renamed_way", params := AT95, body := FuncBody.stmts BT95, scope := ST95, globals := 0, closure := [], defaults := Value.none, kwdefaults := Value.none } }
def o_577 : Params → Obj := fun P => { cls := Value.none, data := Data.func { name := Str.ofString "finished", qualname := Str.ofString "Builder.finished", params := AM48x4, body := FuncBody.stmts BM48x4, scope := SM48x4, globals := 0, closure := [], defaults := Value.none, kwdefaults := Value.none } }
def o_848 : Params → Obj := fun P => { cls := Value.none, data := Data.fields #[] }
def o_50 : Params → Obj := fun P => { cls := Value.type "tuple", data := Data.seq #[] }
def o_84 : Params → Obj := fun P => { cls := Value.type "tuple", data := Data.seq #[Value.str (Str.ofString "e") 316, Value.str (Str.ofString "e") 317] }
def o_523 : Params → Obj := fun P => { cls := Value.type "type", data := Data.cls { name := Str.ofString "HallError", bases := [Value.type "ValueError"], mro := [Value.ref 154, Value.type "ValueError", Value.type "Exception", Value.type "BaseException", Value.type "object"], ns := 153, qualname := Str.ofString "HallError", subclasses := [Value.ref 176, Value.ref 197, Value.ref 218, Value.ref 239, Value.ref 260, Value.ref 272, Value.ref 284, Value.ref 296, Value.ref 308, Value.ref 320, Value.ref 332, Value.ref 344, Value.ref 365, Value.ref 377, Value.ref 389, Value.ref 401, Value.ref 413, Value.ref 425, Value.ref 437, Value.ref 449] }, slots := #[some (Value.ref 145), none, some (Value.str (Str.ofString "HallError") 418), some (Value.str (Str.ofString "HallError") 426), some (Value.builtin "ValueError.__new__"), some (Value.bool true)] }
def o_314 : Params → Obj := fun P => { cls := Value.type "tuple", data := Data.seq #[] }
def o_628 : Params → Obj := fun P => { cls := Value.type "tuple", data := Data.seq #[] }
def o_902 : Params → Obj := fun P => { cls := Value.type "tuple", data := Data.seq #[Value.str (Str.ofString "self") 1313] }
def o_482 : Params → Obj := fun P => { cls := Value.type "frame", slots := #[some (Value.ref 409), some (Value.ref 3), some (Value.ref 406), none, some (Value.str (Str.ofString "livehall.errors") 416), none, some (Value.ref 0)] }
def o_765 : Params → Obj := fun P => { cls := Value.none, data := Data.fields #[] }
def o_1036 : Params → Obj := fun P => { cls := Value.none, data := Data.func { name := Str.ofString "drop_kind", qualname := Str.ofString "drop_kind", params := AT103, body := FuncBody.stmts BT103, scope := ST103, globals := 0, closure := [], defaults := Value.none, kwdefaults := Value.none } }
def o_234 : Params → Obj := fun P => { cls := Value.type "type", data := Data.cls { name := Str.ofString "NoKind", bases := [Value.ref 154], mro := [Value.ref 218, Value.ref 154, Value.type "ValueError", Value.type "Exception", Value.type "BaseException", Value.type "object"], ns := 217, qualname := Str.ofString "NoKind" }, slots := #[some (Value.ref 200), none, some (Value.str (Str.ofString "NoKind") 490), some (Value.str (Str.ofString "NoKind") 498), some (Value.builtin "ValueError.__new__"), some (Value.bool true)] }
def o_398 : Params → Obj := fun P => { cls := Value.type "builtin_function_or_method", data := Data.fields #[Value.builtin "object.__init_subclass__", Value.ref 344] }
def o_698 : Params → Obj := fun P => { cls := Value.none, data := Data.fields #[] }
def o_969 : Params → Obj := fun P => { cls := Value.type "code", data := Data.fields #[Value.str (Str.ofString "check_gone") 1400, Value.str (Str.ofString "check_gone") 1401, Value.str (Str.ofString "/claim/cut.py") 1402, Value.int 423 0, Value.int 2 0, Value.int 0 0, Value.int 0 0, Value.int 3 0, Value.ref 853, Value.bool true, Value.int 181 0, Value.ref 854, Value.none, Value.ref 855, Value.ref 856, Value.ref 857, Value.int 1406 0, Value.int 423 0, Value.str (Str.ofString "/claim/cut.py") 1407] }
def o_561 : Params → Obj := fun P => { cls := Value.type "tuple", data := Data.seq #[] }
def o_832 : Params → Obj := fun P => { cls := Value.none, data := Data.func { name := Str.ofString "line_fields", qualname := Str.ofString "line_fields", params := AT79, body := FuncBody.stmts BT79, scope := ST79, globals := 0, closure := [], defaults := Value.none, kwdefaults := Value.none } }
def o_121 : Params → Obj := fun P => { cls := Value.type "tuple", data := Data.seq #[] }
def o_198 : Params → Obj := fun P => { cls := Value.type "frame", slots := #[some (Value.ref 185), some (Value.ref 3), some (Value.ref 181), none, some (Value.str (Str.ofString "livehall.errors") 416), none, some (Value.ref 0)] }
def o_358 : Params → Obj := fun P => { cls := Value.type "tuple", data := Data.seq #[] }
def o_663 : Params → Obj := fun P => { cls := Value.none, data := Data.func { name := Str.ofString "__init__", qualname := Str.ofString "Frame.__init__", params := AM57x0, body := FuncBody.stmts BM57x0, scope := SM57x0, globals := 0, closure := [], defaults := Value.none, kwdefaults := Value.none } }
def o_934 : Params → Obj := fun P => { cls := Value.type "function", data := Data.func { name := Str.ofString "turn", qualname := Str.ofString "Store.turn", params := AM87x4, body := FuncBody.stmts BM87x4, scope := SM87x4, globals := 3, closure := [], defaults := Value.none, kwdefaults := Value.none, pyModule := Value.str (Str.ofString "livehall.store") 1250, code := Value.ref 825 } }
def o_526 : Params → Obj := fun P => { cls := Value.type "dict", data := Data.dict #[{ hash := PyData.keyHash P (Str.ofString "__module__"), key := Value.str (Str.ofString "__module__") 813, val := Value.str (Str.ofString "livehall.errors") 416 }, { hash := PyData.keyHash P (Str.ofString "__qualname__"), key := Value.str (Str.ofString "__qualname__") 815, val := Value.str (Str.ofString "NoText") 814 }, { hash := PyData.keyHash P (Str.ofString "__firstlineno__"), key := Value.str (Str.ofString "__firstlineno__") 817, val := Value.int 151 816 }, { hash := PyData.keyHash P (Str.ofString "__static_attributes__"), key := Value.str (Str.ofString "__static_attributes__") 818, val := Value.ref 447 }] 4 }
def o_797 : Params → Obj := fun P => { cls := Value.type "tuple", data := Data.seq #[] }
def o_274 : Params → Obj := fun P => { cls := Value.type "tuple", data := Data.seq #[Value.ref 245] }
def o_438 : Params → Obj := fun P => { cls := Value.type "super", data := Data.fields #[Value.ref 377, Value.ref 377, Value.ref 377] }
def o_733 : Params → Obj := fun P => { cls := Value.type "tuple", data := Data.seq #[Value.str (Str.ofString "store") 1088, Value.str (Str.ofString "change") 1089, Value.str (Str.ofString "number") 1090, Value.str (Str.ofString "run") 1091, Value.str (Str.ofString "below") 1092, Value.str (Str.ofString "frame") 1093, Value.str (Str.ofString "twin") 1094] }
def o_1001 : Params → Obj := fun P => { cls := Value.type "tuple", data := Data.seq #[Value.str (Str.ofString "names") 1449, Value.str (Str.ofString "known") 1450] }
def o_593 : Params → Obj := fun P => { cls := Value.type "function", data := Data.func { name := Str.ofString "when_orders", qualname := Str.ofString "when_orders", params := AT49, body := FuncBody.stmts BT49, scope := ST49, globals := 3, closure := [], defaults := Value.none, kwdefaults := Value.none, pyModule := Value.str (Str.ofString "livehall.steps") 822, code := Value.ref 505 } }
def o_867 : Params → Obj := fun P => { cls := Value.type "code", data := Data.fields #[Value.str (Str.ofString "Kind") 1254, Value.str (Str.ofString "Kind") 1255, Value.str (Str.ofString "/claim/cut.py") 1256, Value.int 355 0, Value.int 0 0, Value.int 0 0, Value.int 0 0, Value.int 0 0, Value.ref 760, Value.bool false, Value.int 181 0, Value.ref 761, Value.none, Value.none, Value.none, Value.none, Value.int 1257 0, Value.int 355 0, Value.str (Str.ofString "/claim/cut.py") 1258] }
def o_14 : Params → Obj := fun P => { cls := Value.type "tuple", data := Data.seq #[] }
def o_30 : Params → Obj := fun P => { cls := Value.none, data := Data.func { name := Str.ofString "is_short_text", qualname := Str.ofString "is_short_text", params := AT6, body := FuncBody.stmts BT6, scope := ST6, globals := 0, closure := [], defaults := Value.none, kwdefaults := Value.none } }
def o_64 : Params → Obj := fun P => { cls := Value.type "tuple", data := Data.seq #[Value.str (Str.ofString "e") 256] }
def o_133 : Params → Obj := fun P => { cls := Value.type "tuple", data := Data.seq #[] }
def o_286 : Params → Obj := fun P => { cls := Value.type "builtin_function_or_method", data := Data.fields #[Value.builtin "object.__init_subclass__", Value.ref 260] }
def o_608 : Params → Obj := fun P => { cls := Value.none, data := Data.func { name := Str.ofString "try_orders", qualname := Str.ofString "try_orders", params := AT51, body := FuncBody.stmts BT51, scope := ST51, globals := 0, closure := [], defaults := Value.none, kwdefaults := Value.none } }
def o_879 : Params → Obj := fun P => { cls := Value.type "getset_descriptor", data := Data.fields #[Value.str (Str.ofString "__dict__") 1282, Value.ref 773, Value.builtin "function.__dict__", Value.builtin "function.__dict__#set"] }
def o_454 : Params → Obj := fun P => { cls := Value.type "super", data := Data.fields #[Value.ref 389, Value.ref 389, Value.ref 389] }
def o_745 : Params → Obj := fun P => { cls := Value.type "tuple", data := Data.seq #[] }
def o_1013 : Params → Obj := fun P => { cls := Value.type "tuple", data := Data.seq #[] }
def o_210 : Params → Obj := fun P => { cls := Value.type "super", data := Data.fields #[Value.ref 197, Value.ref 197, Value.ref 197] }
def o_374 : Params → Obj := fun P => { cls := Value.type "tuple", data := Data.seq #[] }
def o_678 : Params → Obj := fun P => { cls := Value.type "dict", data := Data.dict #[{ hash := PyData.keyHash P (Str.ofString "__module__"), key := Value.str (Str.ofString "__module__") 1025, val := Value.str (Str.ofString "livehall.frames") 974 }, { hash := PyData.keyHash P (Str.ofString "__qualname__"), key := Value.str (Str.ofString "__qualname__") 1027, val := Value.str (Str.ofString "Run") 1026 }, { hash := PyData.keyHash P (Str.ofString "__firstlineno__"), key := Value.str (Str.ofString "__firstlineno__") 1029, val := Value.int 246 1028 }, { hash := PyData.keyHash P (Str.ofString "__init__"), key := Value.str (Str.ofString "__init__") 1038, val := Value.ref 593 }, { hash := PyData.keyHash P (Str.ofString "__static_attributes__"), key := Value.str (Str.ofString "__static_attributes__") 1041, val := Value.ref 594 }] 5 }
def o_949 : Params → Obj := fun P => { cls := Value.none, data := Data.func { name := Str.ofString "check_new_name", qualname := Str.ofString "check_new_name", params := AT89, body := FuncBody.stmts BT89, scope := ST89, globals := 0, closure := [], defaults := Value.none, kwdefaults := Value.none } }
def o_541 : Params → Obj := fun P => { cls := Value.type "builtin_function_or_method", data := Data.fields #[Value.builtin "type.__prepare__", Value.type "type"] }
def o_809 : Params → Obj := fun P => { cls := Value.type "code", data := Data.fields #[Value.str (Str.ofString "heirs_by_elder") 1179, Value.str (Str.ofString "heirs_by_elder") 1180, Value.str (Str.ofString "/claim/cut.py") 1181, Value.int 318 0, Value.int 1 0, Value.int 0 0, Value.int 0 0, Value.int 3 0, Value.ref 705, Value.bool true, Value.int 181 0, Value.ref 706, Value.none, Value.ref 707, Value.ref 708, Value.ref 709, Value.int 1185 0, Value.int 318 0, Value.str (Str.ofString "/claim/cut.py") 1186] }
def o_101 : Params → Obj := fun P => { cls := Value.type "tuple", data := Data.seq #[Value.str (Str.ofString "sort") 355, Value.str (Str.ofString "word") 356] }
def o_174 : Params → Obj := fun P => { cls := Value.type "tuple", data := Data.seq #[Value.ref 161] }
def o_330 : Params → Obj := fun P => { cls := Value.type "tuple", data := Data.seq #[] }
def o_640 : Params → Obj := fun P => { cls := Value.type "code", data := Data.fields #[Value.str (Str.ofString "__init__") 953, Value.str (Str.ofString "Way.__init__") 954, Value.str (Str.ofString "/claim/cut.py") 955, Value.int 229 0, Value.int 3 0, Value.int 0 0, Value.int 0 0, Value.int 3 0, Value.ref 545, Value.bool true, Value.int 181 0, Value.ref 546, Value.none, Value.ref 547, Value.ref 548, Value.ref 549, Value.int 959 0, Value.int 229 0, Value.str (Str.ofString "/claim/cut.py") 960] }
def o_914 : Params → Obj := fun P => { cls := Value.type "tuple", data := Data.seq #[] }
def o_498 : Params → Obj := fun P => { cls := Value.type "frame", slots := #[some (Value.ref 421), some (Value.ref 3), some (Value.ref 418), none, some (Value.str (Str.ofString "livehall.errors") 416), none, some (Value.ref 0)] }
def o_777 : Params → Obj := fun P => { cls := Value.type "function", data := Data.func { name := Str.ofString "put_ready", qualname := Str.ofString "put_ready", params := AT70, body := FuncBody.stmts BT70, scope := ST70, globals := 3, closure := [], defaults := Value.none, kwdefaults := Value.none, pyModule := Value.str (Str.ofString "livehall.frames") 974, code := Value.ref 677 } }
def o_250 : Params → Obj := fun P => { cls := Value.type "tuple", data := Data.seq #[Value.str (Str.ofString "__class__") 532] }
def o_414 : Params → Obj := fun P => { cls := Value.type "tuple", data := Data.seq #[Value.str (Str.ofString "self") 699, Value.str (Str.ofString "name") 700] }
def o_710 : Params → Obj := fun P => { cls := Value.none, data := Data.fields #[] }
def o_981 : Params → Obj := fun P => { cls := Value.type "code", data := Data.fields #[Value.str (Str.ofString "refit") 1419, Value.str (Str.ofString "refit") 1420, Value.str (Str.ofString "/claim/cut.py") 1421, Value.int 431 0, Value.int 3 0, Value.int 0 0, Value.int 0 0, Value.int 3 0, Value.ref 867, Value.bool true, Value.int 181 0, Value.ref 868, Value.none, Value.none, Value.none, Value.ref 869, Value.int 1422 0, Value.int 431 0, Value.str (Str.ofString "/claim/cut.py") 1423] }
def o_573 : Params → Obj := fun P => { cls := Value.type "code", data := Data.fields #[Value.str (Str.ofString "placed") 865, Value.str (Str.ofString "Builder.placed") 866, Value.str (Str.ofString "/claim/cut.py") 867, Value.int 178 0, Value.int 2 0, Value.int 0 0, Value.int 0 0, Value.int 3 0, Value.ref 481, Value.bool true, Value.int 181 0, Value.ref 482, Value.none, Value.ref 483, Value.ref 484, Value.ref 485, Value.int 870 0, Value.int 178 0, Value.str (Str.ofString "/claim/cut.py") 871] }
def o_844 : Params → Obj := fun P => { cls := Value.none, data := Data.func { name := Str.ofString "own_fields", qualname := Str.ofString "own_fields", params := AT81, body := FuncBody.stmts BT81, scope := ST81, globals := 0, closure := [], defaults := Value.none, kwdefaults := Value.none } }
def o_46 : Params → Obj := fun P => { cls := Value.type "function", data := Data.func { name := Str.ofString "is_whole", qualname := Str.ofString "is_whole", params := AT8, body := FuncBody.stmts BT8, scope := ST8, globals := 3, closure := [], defaults := Value.none, kwdefaults := Value.none, pyModule := Value.str (Str.ofString "livehall.values") 194, code := Value.ref 53 } }
def o_80 : Params → Obj := fun P => { cls := Value.type "tuple", data := Data.seq #[Value.str (Str.ofString "e") 304, Value.str (Str.ofString "e") 305] }
def o_154 : Params → Obj := fun P => { cls := Value.type "code", data := Data.fields #[Value.str (Str.ofString "HallError") 420, Value.str (Str.ofString "HallError") 421, Value.str (Str.ofString "/claim/cut.py") 422, Value.int 93 0, Value.int 0 0, Value.int 0 0, Value.int 0 0, Value.int 0 0, Value.ref 148, Value.bool false, Value.int 181 0, Value.ref 149, Value.none, Value.none, Value.none, Value.none, Value.int 423 0, Value.int 93 0, Value.str (Str.ofString "/claim/cut.py") 424] }
def o_310 : Params → Obj := fun P => { cls := Value.type "tuple", data := Data.seq #[] }
def o_624 : Params → Obj := fun P => { cls := Value.none, data := Data.fields #[] }
def o_898 : Params → Obj := fun P => { cls := Value.type "code", data := Data.fields #[Value.str (Str.ofString "Store") 1300, Value.str (Str.ofString "Store") 1301, Value.str (Str.ofString "/claim/cut.py") 1302, Value.int 368 0, Value.int 0 0, Value.int 0 0, Value.int 0 0, Value.int 0 0, Value.ref 788, Value.bool false, Value.int 181 0, Value.ref 789, Value.none, Value.none, Value.none, Value.none, Value.int 1303 0, Value.int 368 0, Value.str (Str.ofString "/claim/cut.py") 1304] }
def o_478 : Params → Obj := fun P => { cls := Value.type "dict", data := Data.dict #[{ hash := PyData.keyHash P (Str.ofString "__module__"), key := Value.str (Str.ofString "__module__") 765, val := Value.str (Str.ofString "livehall.errors") 416 }, { hash := PyData.keyHash P (Str.ofString "__qualname__"), key := Value.str (Str.ofString "__qualname__") 767, val := Value.str (Str.ofString "NoAsk") 766 }, { hash := PyData.keyHash P (Str.ofString "__firstlineno__"), key := Value.str (Str.ofString "__firstlineno__") 769, val := Value.int 145 768 }, { hash := PyData.keyHash P (Str.ofString "__static_attributes__"), key := Value.str (Str.ofString "__static_attributes__") 770, val := Value.ref 411 }] 4 }
def o_761 : Params → Obj := fun P => { cls := Value.none, data := Data.func { name := Str.ofString "ready_ask", qualname := Str.ofString "ready_ask", params := AT68, body := FuncBody.stmts BT68, scope := ST68, globals := 0, closure := [], defaults := Value.none, kwdefaults := Value.none } }
def o_1032 : Params → Obj := fun P => { cls := Value.type "tuple", data := Data.seq #[] }
def o_230 : Params → Obj := fun P => { cls := Value.type "code", data := Data.fields #[Value.str (Str.ofString "__init__") 502, Value.str (Str.ofString "NoKind.__init__") 503, Value.str (Str.ofString "/claim/cut.py") 504, Value.int 107 0, Value.int 2 0, Value.int 0 0, Value.int 0 0, Value.int 3 0, Value.ref 209, Value.bool true, Value.int 181 0, Value.ref 210, Value.none, Value.ref 211, Value.ref 212, Value.ref 213, Value.int 508 0, Value.int 107 0, Value.str (Str.ofString "/claim/cut.py") 509] }
def o_394 : Params → Obj := fun P => { cls := Value.type "tuple", data := Data.seq #[] }
def o_694 : Params → Obj := fun P => { cls := Value.type "getset_descriptor", data := Data.fields #[Value.str (Str.ofString "__weakref__") 1044, Value.ref 596, Value.builtin "ExceptionGroup.__weakref__", Value.none] }
def o_965 : Params → Obj := fun P => { cls := Value.none, data := Data.fields #[] }
def o_557 : Params → Obj := fun P => { cls := Value.type "tuple", data := Data.seq #[] }
def o_828 : Params → Obj := fun P => { cls := Value.type "tuple", data := Data.seq #[] }
def o_117 : Params → Obj := fun P => { cls := Value.type "function", data := Data.func { name := Str.ofString "is_body", qualname := Str.ofString "is_body", params := AT19, body := FuncBody.stmts BT19, scope := ST19, globals := 3, closure := [], defaults := Value.none, kwdefaults := Value.none, pyModule := Value.str (Str.ofString "livehall.bodies") 253, code := Value.ref 117 } }
def o_194 : Params → Obj := fun P => { cls := Value.type "cell", data := Data.cell (some (Value.ref 197)) }
def o_350 : Params → Obj := fun P => { cls := Value.type "builtin_function_or_method", data := Data.fields #[Value.builtin "object.__init_subclass__", Value.ref 308] }
def o_659 : Params → Obj := fun P => { cls := Value.type "tuple", data := Data.seq #[] }
def o_930 : Params → Obj := fun P => { cls := Value.type "tuple", data := Data.seq #[Value.str (Str.ofString "self") 1348, Value.str (Str.ofString "changes") 1349, Value.str (Str.ofString "turned") 1350, Value.str (Str.ofString "table") 1351, Value.str (Str.ofString "key") 1352, Value.str (Str.ofString "row") 1353, Value.str (Str.ofString "rows") 1354] }
def o_518 : Params → Obj := fun P => { cls := Value.type "super", data := Data.fields #[Value.ref 437, Value.ref 437, Value.ref 437] }
def o_793 : Params → Obj := fun P => { cls := Value.none, data := Data.fields #[] }
def o_270 : Params → Obj := fun P => { cls := Value.type "tuple", data := Data.seq #[] }
def o_434 : Params → Obj := fun P => { cls := Value.type "frame", slots := #[some (Value.ref 373), some (Value.ref 3), some (Value.ref 370), none, some (Value.str (Str.ofString "livehall.errors") 416), none, some (Value.ref 0)] }
def o_726 : Params → Obj := fun P => { cls := Value.type "code", data := Data.fields #[Value.str (Str.ofString "halted_runs") 1079, Value.str (Str.ofString "halted_runs") 1080, Value.str (Str.ofString "/claim/cut.py") 1081, Value.int 270 0, Value.int 1 0, Value.int 0 0, Value.int 0 0, Value.int 3 0, Value.ref 627, Value.bool true, Value.int 181 0, Value.ref 628, Value.none, Value.none, Value.none, Value.ref 629, Value.int 1082 0, Value.int 270 0, Value.str (Str.ofString "/claim/cut.py") 1083] }
def o_997 : Params → Obj := fun P => { cls := Value.type "function", data := Data.func { name := Str.ofString "rename_fields", qualname := Str.ofString "rename_fields", params := AT97, body := FuncBody.stmts BT97, scope := ST97, globals := 3, closure := [], defaults := Value.none, kwdefaults := Value.none, pyModule := Value.str (Str.ofString "livehall.kinds") 1374, code := Value.ref 885 } }
def o_589 : Params → Obj := fun P => { cls := Value.type "tuple", data := Data.seq #[Value.str (Str.ofString "builder") 894, Value.str (Str.ofString "row") 895, Value.str (Str.ofString "other") 896, Value.str (Str.ofString "behind") 897] }
def o_863 : Params → Obj := fun P => { cls := Value.type "builtin_function_or_method", data := Data.fields #[Value.builtin "type.__prepare__", Value.type "type"] }
def o_22 : Params → Obj := fun P => { cls := Value.type "tuple", data := Data.seq #[] }
def o_38 : Params → Obj := fun P => { cls := Value.type "code", data := Data.fields #[Value.str (Str.ofString "is_plain_value") 220, Value.str (Str.ofString "is_plain_value") 221, Value.str (Str.ofString "/claim/cut.py") 222, Value.int 13 0, Value.int 1 0, Value.int 0 0, Value.int 0 0, Value.int 3 0, Value.ref 41, Value.bool true, Value.int 181 0, Value.ref 42, Value.none, Value.ref 43, Value.ref 44, Value.ref 45, Value.int 224 0, Value.int 13 0, Value.str (Str.ofString "/claim/cut.py") 225] }
def o_72 : Params → Obj := fun P => { cls := Value.type "dict", data := Data.dict #[{ hash := PyData.keyHash P (Str.ofString "value"), key := Value.str (Str.ofString "value") 287, val := Value.ref 79 }, { hash := PyData.keyHash P (Str.ofString "self"), key := Value.str (Str.ofString "self") 289, val := Value.ref 80 }, { hash := PyData.keyHash P (Str.ofString "name"), key := Value.str (Str.ofString "name") 290, val := Value.ref 81 }, { hash := PyData.keyHash P (Str.ofString "field"), key := Value.str (Str.ofString "field") 292, val := Value.ref 82 }, { hash := PyData.keyHash P (Str.ofString "ask"), key := Value.str (Str.ofString "ask") 294, val := Value.ref 83 }, { hash := PyData.keyHash P (Str.ofString "elder"), key := Value.str (Str.ofString "elder") 298, val := Value.ref 84 }, { hash := PyData.keyHash P (Str.ofString "new"), key := Value.str (Str.ofString "new") 301, val := Value.ref 85 }, { hash := PyData.keyHash P (Str.ofString "same"), key := Value.str (Str.ofString "same") 303, val := Value.ref 86 }, { hash := PyData.keyHash P (Str.ofString "add"), key := Value.str (Str.ofString "add") 306, val := Value.ref 87 }, { hash := PyData.keyHash P (Str.ofString "sub"), key := Value.str (Str.ofString "sub") 309, val := Value.ref 88 }, { hash := PyData.keyHash P (Str.ofString "mul"), key := Value.str (Str.ofString "mul") 312, val := Value.ref 89 }, { hash := PyData.keyHash P (Str.ofString "under"), key := Value.str (Str.ofString "under") 315, val := Value.ref 90 }] 12 }
def o_141 : Params → Obj := fun P => { cls := Value.none, data := Data.func { name := Str.ofString "renamed", qualname := Str.ofString "renamed", params := AT23, body := FuncBody.stmts BT23, scope := ST23, globals := 0, closure := [], defaults := Value.none, kwdefaults := Value.none } }
def o_298 : Params → Obj := fun P => { cls := Value.type "tuple", data := Data.seq #[] }
def o_616 : Params → Obj := fun P => { cls := Value.type "code", data := Data.fields #[Value.str (Str.ofString "row_orders") 921, Value.str (Str.ofString "row_orders") 922, Value.str (Str.ofString "/claim/cut.py") 923, Value.int 197 0, Value.int 2 0, Value.int 0 0, Value.int 0 0, Value.int 3 0, Value.ref 521, Value.bool true, Value.int 181 0, Value.ref 522, Value.none, Value.ref 523, Value.ref 524, Value.ref 525, Value.int 926 0, Value.int 197 0, Value.str (Str.ofString "/claim/cut.py") 927] }
def o_887 : Params → Obj := fun P => { cls := Value.none, data := Data.func { name := Str.ofString "lay_row", qualname := Str.ofString "lay_row", params := AT86, body := FuncBody.stmts BT86, scope := ST86, globals := 0, closure := [], defaults := Value.none, kwdefaults := Value.none } }
def o_466 : Params → Obj := fun P => { cls := Value.type "frame", slots := #[some (Value.ref 397), some (Value.ref 3), some (Value.ref 394), none, some (Value.str (Str.ofString "livehall.errors") 416), none, some (Value.ref 0)] }
def o_753 : Params → Obj := fun P => { cls := Value.type "tuple", data := Data.seq #[] }
def o_1021 : Params → Obj := fun P => { cls := Value.none, data := Data.func { name := Str.ofString "rename_kind", qualname := Str.ofString "rename_kind", params := AT101, body := FuncBody.stmts BT101, scope := ST101, globals := 0, closure := [], defaults := Value.none, kwdefaults := Value.none } }
def o_222 : Params → Obj := fun P => { cls := Value.type "code", data := Data.fields #[Value.str (Str.ofString "NoKind") 492, Value.str (Str.ofString "NoKind") 493, Value.str (Str.ofString "/claim/cut.py") 494, Value.int 105 0, Value.int 0 0, Value.int 0 0, Value.int 0 0, Value.int 0 0, Value.ref 204, Value.bool false, Value.int 181 0, Value.ref 205, Value.none, Value.none, Value.none, Value.none, Value.int 495 0, Value.int 105 0, Value.str (Str.ofString "/claim/cut.py") 496] }
def o_382 : Params → Obj := fun P => { cls := Value.type "builtin_function_or_method", data := Data.fields #[Value.builtin "object.__init_subclass__", Value.ref 332] }
def o_686 : Params → Obj := fun P => { cls := Value.type "tuple", data := Data.seq #[] }
def o_957 : Params → Obj := fun P => { cls := Value.type "code", data := Data.fields #[Value.str (Str.ofString "check_own_fields") 1384, Value.str (Str.ofString "check_own_fields") 1385, Value.str (Str.ofString "/claim/cut.py") 1386, Value.int 408 0, Value.int 3 0, Value.int 0 0, Value.int 0 0, Value.int 3 0, Value.ref 841, Value.bool true, Value.int 181 0, Value.ref 842, Value.none, Value.ref 843, Value.ref 844, Value.ref 845, Value.int 1391 0, Value.int 408 0, Value.str (Str.ofString "/claim/cut.py") 1392] }
def o_549 : Params → Obj := fun P => { cls := Value.type "tuple", data := Data.seq #[Value.str (Str.ofString "self") 845] }
def o_817 : Params → Obj := fun P => { cls := Value.type "function", data := Data.func { name := Str.ofString "heir_numbers", qualname := Str.ofString "heir_numbers", params := AT77, body := FuncBody.stmts BT77, scope := ST77, globals := 3, closure := [], defaults := Value.none, kwdefaults := Value.none, pyModule := Value.str (Str.ofString "livehall.lines") 1146, code := Value.ref 717 } }
def o_109 : Params → Obj := fun P => { cls := Value.type "code", data := Data.fields #[Value.str (Str.ofString "parts_of") 360, Value.str (Str.ofString "parts_of") 361, Value.str (Str.ofString "/claim/cut.py") 362, Value.int 39 0, Value.int 2 0, Value.int 0 0, Value.int 0 0, Value.int 3 0, Value.ref 107, Value.bool true, Value.int 181 0, Value.ref 108, Value.none, Value.none, Value.none, Value.ref 109, Value.int 363 0, Value.int 39 0, Value.str (Str.ofString "/claim/cut.py") 364] }
def o_182 : Params → Obj := fun P => { cls := Value.type "tuple", data := Data.seq #[Value.str (Str.ofString "name") 457] }
def o_342 : Params → Obj := fun P => { cls := Value.type "tuple", data := Data.seq #[] }
def o_648 : Params → Obj := fun P => { cls := Value.type "builtin_function_or_method", data := Data.fields #[Value.builtin "object.__init_subclass__", Value.ref 554] }
def o_922 : Params → Obj := fun P => { cls := Value.none, data := Data.fields #[] }
def o_510 : Params → Obj := fun P => { cls := Value.type "dict", data := Data.dict #[{ hash := PyData.keyHash P (Str.ofString "__module__"), key := Value.str (Str.ofString "__module__") 797, val := Value.str (Str.ofString "livehall.errors") 416 }, { hash := PyData.keyHash P (Str.ofString "__qualname__"), key := Value.str (Str.ofString "__qualname__") 799, val := Value.str (Str.ofString "NoBack") 798 }, { hash := PyData.keyHash P (Str.ofString "__firstlineno__"), key := Value.str (Str.ofString "__firstlineno__") 801, val := Value.int 149 800 }, { hash := PyData.keyHash P (Str.ofString "__static_attributes__"), key := Value.str (Str.ofString "__static_attributes__") 802, val := Value.ref 435 }] 4 }
def o_785 : Params → Obj := fun P => { cls := Value.type "tuple", data := Data.seq #[] }
def o_258 : Params → Obj := fun P => { cls := Value.type "dict", data := Data.dict #[{ hash := PyData.keyHash P (Str.ofString "__module__"), key := Value.str (Str.ofString "__module__") 524, val := Value.str (Str.ofString "livehall.errors") 416 }, { hash := PyData.keyHash P (Str.ofString "__firstlineno__"), key := Value.str (Str.ofString "__firstlineno__") 528, val := Value.int 110 527 }, { hash := PyData.keyHash P (Str.ofString "__init__"), key := Value.str (Str.ofString "__init__") 537, val := Value.ref 236 }, { hash := PyData.keyHash P (Str.ofString "__static_attributes__"), key := Value.str (Str.ofString "__static_attributes__") 539, val := Value.ref 237 }, { hash := PyData.keyHash P (Str.ofString "__doc__"), key := Value.str (Str.ofString "__doc__") 541, val := Value.none }] 3 }
def o_422 : Params → Obj := fun P => { cls := Value.type "super", data := Data.fields #[Value.ref 365, Value.ref 365, Value.ref 365] }
def o_718 : Params → Obj := fun P => { cls := Value.type "tuple", data := Data.seq #[Value.str (Str.ofString "run") 1075] }
def o_989 : Params → Obj := fun P => { cls := Value.none, data := Data.fields #[] }
def o_581 : Params → Obj := fun P => { cls := Value.type "dict", data := Data.dict #[{ hash := PyData.keyHash P (Str.ofString "__module__"), key := Value.str (Str.ofString "__module__") 837, val := Value.str (Str.ofString "livehall.steps") 822 }, { hash := PyData.keyHash P (Str.ofString "__firstlineno__"), key := Value.str (Str.ofString "__firstlineno__") 841, val := Value.int 155 840 }, { hash := PyData.keyHash P (Str.ofString "__init__"), key := Value.str (Str.ofString "__init__") 848, val := Value.ref 466 }, { hash := PyData.keyHash P (Str.ofString "new_mark"), key := Value.str (Str.ofString "new_mark") 855, val := Value.ref 473 }, { hash := PyData.keyHash P (Str.ofString "lay"), key := Value.str (Str.ofString "lay") 864, val := Value.ref 480 }, { hash := PyData.keyHash P (Str.ofString "placed"), key := Value.str (Str.ofString "placed") 872, val := Value.ref 487 }, { hash := PyData.keyHash P (Str.ofString "finished"), key := Value.str (Str.ofString "finished") 878, val := Value.ref 492 }, { hash := PyData.keyHash P (Str.ofString "__static_attributes__"), key := Value.str (Str.ofString "__static_attributes__") 883, val := Value.ref 493 }, { hash := PyData.keyHash P (Str.ofString "__dict__"), key := Value.str (Str.ofString "__dict__") 885, val := Value.ref 496 }, { hash := PyData.keyHash P (Str.ofString "__weakref__"), key := Value.str (Str.ofString "__weakref__") 887, val := Value.ref 497 }, { hash := PyData.keyHash P (Str.ofString "__doc__"), key := Value.str (Str.ofString "__doc__") 888, val := Value.none }] 4 }
def o_852 : Params → Obj := fun P => { cls := Value.type "code", data := Data.fields #[Value.str (Str.ofString "finder") 1234, Value.str (Str.ofString "finder") 1235, Value.str (Str.ofString "/claim/cut.py") 1236, Value.int 346 0, Value.int 3 0, Value.int 0 0, Value.int 0 0, Value.int 3 0, Value.ref 745, Value.bool true, Value.int 181 0, Value.ref 746, Value.none, Value.ref 747, Value.ref 748, Value.ref 749, Value.int 1241 0, Value.int 346 0, Value.str (Str.ofString "/claim/cut.py") 1242] }
def o_54 : Params → Obj := fun P => { cls := Value.type "tuple", data := Data.seq #[] }
def o_93 : Params → Obj := fun P => { cls := Value.none, data := Data.fields #[] }
def o_166 : Params → Obj := fun P => { cls := Value.type "tuple", data := Data.seq #[Value.ref 154] }
def o_318 : Params → Obj := fun P => { cls := Value.type "builtin_function_or_method", data := Data.fields #[Value.builtin "object.__init_subclass__", Value.ref 284] }
def o_632 : Params → Obj := fun P => { cls := Value.none, data := Data.fields #[Value.int 229 0, Value.int 4 0, Value.ref 550] }
def o_906 : Params → Obj := fun P => { cls := Value.type "function", data := Data.func { name := Str.ofString "__init__", qualname := Str.ofString "Store.__init__", params := AM87x0, body := FuncBody.stmts BM87x0, scope := SM87x0, globals := 3, closure := [], defaults := Value.none, kwdefaults := Value.none, pyModule := Value.str (Str.ofString "livehall.store") 1250, code := Value.ref 797 } }
def o_486 : Params → Obj := fun P => { cls := Value.type "super", data := Data.fields #[Value.ref 413, Value.ref 413, Value.ref 413] }
def o_769 : Params → Obj := fun P => { cls := Value.type "code", data := Data.fields #[Value.str (Str.ofString "take_ready") 1128, Value.str (Str.ofString "take_ready") 1129, Value.str (Str.ofString "/claim/cut.py") 1130, Value.int 295 0, Value.int 1 0, Value.int 0 0, Value.int 0 0, Value.int 3 0, Value.ref 665, Value.bool true, Value.int 181 0, Value.ref 666, Value.none, Value.ref 667, Value.ref 668, Value.ref 669, Value.int 1134 0, Value.int 295 0, Value.str (Str.ofString "/claim/cut.py") 1135] }
def o_242 : Params → Obj := fun P => { cls := Value.type "builtin_function_or_method", data := Data.fields #[Value.builtin "type.__prepare__", Value.type "type"] }
def o_406 : Params → Obj := fun P => { cls := Value.type "cell", data := Data.cell (some (Value.ref 365)) }
def o_702 : Params → Obj := fun P => { cls := Value.type "tuple", data := Data.seq #[] }
def o_973 : Params → Obj := fun P => { cls := Value.type "tuple", data := Data.seq #[Value.str (Str.ofString "own") 1412, Value.str (Str.ofString "come") 1413, Value.str (Str.ofString "others") 1414, Value.str (Str.ofString "field") 1415] }
def o_565 : Params → Obj := fun P => { cls := Value.none, data := Data.func { name := Str.ofString "lay", qualname := Str.ofString "Builder.lay", params := AM48x2, body := FuncBody.stmts BM48x2, scope := SM48x2, globals := 0, closure := [], defaults := Value.none, kwdefaults := Value.none } }
def o_836 : Params → Obj := fun P => { cls := Value.none, data := Data.fields #[] }
def o_125 : Params → Obj := fun P => { cls := Value.type "tuple", data := Data.seq #[] }
def o_202 : Params → Obj := fun P => { cls := Value.type "tuple", data := Data.seq #[Value.str (Str.ofString "self") 479, Value.str (Str.ofString "name") 480] }
def o_362 : Params → Obj := fun P => { cls := Value.type "tuple", data := Data.seq #[] }
def o_667 : Params → Obj := fun P => { cls := Value.type "dict", data := Data.dict #[{ hash := PyData.keyHash P (Str.ofString "__module__"), key := Value.str (Str.ofString "__module__") 983, val := Value.str (Str.ofString "livehall.frames") 974 }, { hash := PyData.keyHash P (Str.ofString "__firstlineno__"), key := Value.str (Str.ofString "__firstlineno__") 987, val := Value.int 234 986 }, { hash := PyData.keyHash P (Str.ofString "__init__"), key := Value.str (Str.ofString "__init__") 1000, val := Value.ref 572 }, { hash := PyData.keyHash P (Str.ofString "__static_attributes__"), key := Value.str (Str.ofString "__static_attributes__") 1010, val := Value.ref 573 }, { hash := PyData.keyHash P (Str.ofString "__dict__"), key := Value.str (Str.ofString "__dict__") 1012, val := Value.ref 576 }, { hash := PyData.keyHash P (Str.ofString "__weakref__"), key := Value.str (Str.ofString "__weakref__") 1014, val := Value.ref 577 }, { hash := PyData.keyHash P (Str.ofString "__doc__"), key := Value.str (Str.ofString "__doc__") 1015, val := Value.none }] 4 }
def o_938 : Params → Obj := fun P => { cls := Value.type "getset_descriptor", data := Data.fields #[Value.str (Str.ofString "__dict__") 1367, Value.ref 829, Value.builtin "function.__dict__", Value.builtin "function.__dict__#set"] }
def o_530 : Params → Obj := fun P => { cls := Value.type "frame", slots := #[some (Value.ref 445), some (Value.ref 3), some (Value.ref 442), none, some (Value.str (Str.ofString "livehall.errors") 416), none, some (Value.ref 0)] }
def o_801 : Params → Obj := fun P => { cls := Value.none, data := Data.func { name := Str.ofString "line_numbers", qualname := Str.ofString "line_numbers", params := AT75, body := FuncBody.stmts BT75, scope := ST75, globals := 0, closure := [], defaults := Value.none, kwdefaults := Value.none } }
def o_278 : Params → Obj := fun P => { cls := Value.type "tuple", data := Data.seq #[] }
def o_446 : Params → Obj := fun P => { cls := Value.type "dict", data := Data.dict #[{ hash := PyData.keyHash P (Str.ofString "__module__"), key := Value.str (Str.ofString "__module__") 733, val := Value.str (Str.ofString "livehall.errors") 416 }, { hash := PyData.keyHash P (Str.ofString "__qualname__"), key := Value.str (Str.ofString "__qualname__") 735, val := Value.str (Str.ofString "NoRun") 734 }, { hash := PyData.keyHash P (Str.ofString "__firstlineno__"), key := Value.str (Str.ofString "__firstlineno__") 737, val := Value.int 141 736 }, { hash := PyData.keyHash P (Str.ofString "__static_attributes__"), key := Value.str (Str.ofString "__static_attributes__") 738, val := Value.ref 387 }] 4 }
def o_737 : Params → Obj := fun P => { cls := Value.type "function", data := Data.func { name := Str.ofString "change_frames", qualname := Str.ofString "change_frames", params := AT64, body := FuncBody.stmts BT64, scope := ST64, globals := 3, closure := [], defaults := Value.none, kwdefaults := Value.none, pyModule := Value.str (Str.ofString "livehall.frames") 974, code := Value.ref 637 } }
def o_1005 : Params → Obj := fun P => { cls := Value.type "tuple", data := Data.seq #[] }
def o_600 : Params → Obj := fun P => { cls := Value.type "tuple", data := Data.seq #[] }
def o_871 : Params → Obj := fun P => { cls := Value.type "tuple", data := Data.seq #[Value.str (Str.ofString "self") 1267, Value.str (Str.ofString "name") 1268, Value.str (Str.ofString "elder") 1269, Value.str (Str.ofString "own") 1270, Value.str (Str.ofString "weak") 1271, Value.str (Str.ofString "ways") 1272] }
def tree_1038 : Params → BT := fun P => BT.node (boot_o_0 P) (BT.node (boot_o_1 P) (BT.node (o_1025 P) (BT.node (boot_o_7 P) (BT.node (o_7 P) (BT.node (o_23 P) (BT.node (o_55 P) (BT.node (o_126 P) (BT.node (o_279 P) (BT.node (o_601 P) BT.nil BT.nil) (BT.node (o_872 P) BT.nil BT.nil)) (BT.node (o_447 P) (BT.node (o_738 P) BT.nil BT.nil) (BT.node (o_1006 P) BT.nil BT.nil))) (BT.node (o_203 P) (BT.node (o_363 P) (BT.node (o_668 P) BT.nil BT.nil) (BT.node (o_939 P) BT.nil BT.nil)) (BT.node (o_531 P) (BT.node (o_802 P) BT.nil BT.nil) BT.nil))) (BT.node (o_94 P) (BT.node (o_167 P) (BT.node (o_323 P) (BT.node (o_633 P) BT.nil BT.nil) (BT.node (o_907 P) BT.nil BT.nil)) (BT.node (o_487 P) (BT.node (o_770 P) BT.nil BT.nil) BT.nil)) (BT.node (o_243 P) (BT.node (o_407 P) (BT.node (o_703 P) BT.nil BT.nil) (BT.node (o_974 P) BT.nil BT.nil)) (BT.node (o_566 P) (BT.node (o_837 P) BT.nil BT.nil) BT.nil)))) (BT.node (o_39 P) (BT.node (o_73 P) (BT.node (o_142 P) (BT.node (o_299 P) (BT.node (o_617 P) BT.nil BT.nil) (BT.node (o_888 P) BT.nil BT.nil)) (BT.node (o_467 P) (BT.node (o_754 P) BT.nil BT.nil) (BT.node (o_1022 P) BT.nil BT.nil))) (BT.node (o_223 P) (BT.node (o_387 P) (BT.node (o_687 P) BT.nil BT.nil) (BT.node (o_958 P) BT.nil BT.nil)) (BT.node (o_550 P) (BT.node (o_821 P) BT.nil BT.nil) BT.nil))) (BT.node (o_110 P) (BT.node (o_183 P) (BT.node (o_343 P) (BT.node (o_652 P) BT.nil BT.nil) (BT.node (o_923 P) BT.nil BT.nil)) (BT.node (o_511 P) (BT.node (o_786 P) BT.nil BT.nil) BT.nil)) (BT.node (o_259 P) (BT.node (o_423 P) (BT.node (o_719 P) BT.nil BT.nil) (BT.node (o_990 P) BT.nil BT.nil)) (BT.node (o_582 P) (BT.node (o_853 P) BT.nil BT.nil) BT.nil))))) (BT.node (o_15 P) (BT.node (o_31 P) (BT.node (o_65 P) (BT.node (o_134 P) (BT.node (o_291 P) (BT.node (o_609 P) BT.nil BT.nil) (BT.node (o_880 P) BT.nil BT.nil)) (BT.node (o_455 P) (BT.node (o_746 P) BT.nil BT.nil) (BT.node (o_1014 P) BT.nil BT.nil))) (BT.node (o_211 P) (BT.node (o_375 P) (BT.node (o_679 P) BT.nil BT.nil) (BT.node (o_950 P) BT.nil BT.nil)) (BT.node (o_542 P) (BT.node (o_810 P) BT.nil BT.nil) BT.nil))) (BT.node (o_102 P) (BT.node (o_175 P) (BT.node (o_331 P) (BT.node (o_641 P) BT.nil BT.nil) (BT.node (o_915 P) BT.nil BT.nil)) (BT.node (o_499 P) (BT.node (o_778 P) BT.nil BT.nil) BT.nil)) (BT.node (o_251 P) (BT.node (o_415 P) (BT.node (o_711 P) BT.nil BT.nil) (BT.node (o_982 P) BT.nil BT.nil)) (BT.node (o_574 P) (BT.node (o_845 P) BT.nil BT.nil) BT.nil)))) (BT.node (o_47 P) (BT.node (o_81 P) (BT.node (o_155 P) (BT.node (o_311 P) (BT.node (o_625 P) BT.nil BT.nil) (BT.node (o_899 P) BT.nil BT.nil)) (BT.node (o_479 P) (BT.node (o_762 P) BT.nil BT.nil) (BT.node (o_1033 P) BT.nil BT.nil))) (BT.node (o_231 P) (BT.node (o_395 P) (BT.node (o_695 P) BT.nil BT.nil) (BT.node (o_966 P) BT.nil BT.nil)) (BT.node (o_558 P) (BT.node (o_829 P) BT.nil BT.nil) BT.nil))) (BT.node (o_118 P) (BT.node (o_195 P) (BT.node (o_355 P) (BT.node (o_660 P) BT.nil BT.nil) (BT.node (o_931 P) BT.nil BT.nil)) (BT.node (o_519 P) (BT.node (o_794 P) BT.nil BT.nil) BT.nil)) (BT.node (o_271 P) (BT.node (o_435 P) (BT.node (o_727 P) BT.nil BT.nil) (BT.node (o_998 P) BT.nil BT.nil)) (BT.node (o_590 P) (BT.node (o_864 P) BT.nil BT.nil) BT.nil)))))) (BT.node (o_1 P) (BT.node (o_11 P) (BT.node (o_27 P) (BT.node (o_59 P) (BT.node (o_130 P) (BT.node (o_283 P) (BT.node (o_605 P) BT.nil BT.nil) (BT.node (o_876 P) BT.nil BT.nil)) (BT.node (o_451 P) (BT.node (o_742 P) BT.nil BT.nil) (BT.node (o_1010 P) BT.nil BT.nil))) (BT.node (o_207 P) (BT.node (o_371 P) (BT.node (o_672 P) BT.nil BT.nil) (BT.node (o_946 P) BT.nil BT.nil)) (BT.node (o_535 P) (BT.node (o_806 P) BT.nil BT.nil) BT.nil))) (BT.node (o_98 P) (BT.node (o_171 P) (BT.node (o_327 P) (BT.node (o_637 P) BT.nil BT.nil) (BT.node (o_911 P) BT.nil BT.nil)) (BT.node (o_495 P) (BT.node (o_774 P) BT.nil BT.nil) BT.nil)) (BT.node (o_247 P) (BT.node (o_411 P) (BT.node (o_707 P) BT.nil BT.nil) (BT.node (o_978 P) BT.nil BT.nil)) (BT.node (o_570 P) (BT.node (o_841 P) BT.nil BT.nil) BT.nil)))) (BT.node (o_43 P) (BT.node (o_77 P) (BT.node (o_151 P) (BT.node (o_307 P) (BT.node (o_621 P) BT.nil BT.nil) (BT.node (o_895 P) BT.nil BT.nil)) (BT.node (o_471 P) (BT.node (o_758 P) BT.nil BT.nil) (BT.node (o_1029 P) BT.nil BT.nil))) (BT.node (o_227 P) (BT.node (o_391 P) (BT.node (o_691 P) BT.nil BT.nil) (BT.node (o_962 P) BT.nil BT.nil)) (BT.node (o_554 P) (BT.node (o_825 P) BT.nil BT.nil) BT.nil))) (BT.node (o_114 P) (BT.node (o_191 P) (BT.node (o_347 P) (BT.node (o_656 P) BT.nil BT.nil) (BT.node (o_927 P) BT.nil BT.nil)) (BT.node (o_515 P) (BT.node (o_790 P) BT.nil BT.nil) BT.nil)) (BT.node (o_267 P) (BT.node (o_431 P) (BT.node (o_723 P) BT.nil BT.nil) (BT.node (o_994 P) BT.nil BT.nil)) (BT.node (o_586 P) (BT.node (o_857 P) BT.nil BT.nil) BT.nil))))) (BT.node (o_19 P) (BT.node (o_35 P) (BT.node (o_69 P) (BT.node (o_138 P) (BT.node (o_295 P) (BT.node (o_613 P) BT.nil BT.nil) (BT.node (o_884 P) BT.nil BT.nil)) (BT.node (o_463 P) (BT.node (o_750 P) BT.nil BT.nil) (BT.node (o_1018 P) BT.nil BT.nil))) (BT.node (o_219 P) (BT.node (o_379 P) (BT.node (o_683 P) BT.nil BT.nil) (BT.node (o_954 P) BT.nil BT.nil)) (BT.node (o_546 P) (BT.node (o_814 P) BT.nil BT.nil) BT.nil))) (BT.node (o_106 P) (BT.node (o_179 P) (BT.node (o_339 P) (BT.node (o_645 P) BT.nil BT.nil) (BT.node (o_919 P) BT.nil BT.nil)) (BT.node (o_503 P) (BT.node (o_782 P) BT.nil BT.nil) BT.nil)) (BT.node (o_255 P) (BT.node (o_419 P) (BT.node (o_715 P) BT.nil BT.nil) (BT.node (o_986 P) BT.nil BT.nil)) (BT.node (o_578 P) (BT.node (o_849 P) BT.nil BT.nil) BT.nil)))) (BT.node (o_51 P) (BT.node (o_90 P) (BT.node (o_159 P) (BT.node (o_315 P) (BT.node (o_629 P) BT.nil BT.nil) (BT.node (o_903 P) BT.nil BT.nil)) (BT.node (o_483 P) (BT.node (o_766 P) BT.nil BT.nil) (BT.node (o_1037 P) BT.nil BT.nil))) (BT.node (o_235 P) (BT.node (o_403 P) (BT.node (o_699 P) BT.nil BT.nil) (BT.node (o_970 P) BT.nil BT.nil)) (BT.node (o_562 P) (BT.node (o_833 P) BT.nil BT.nil) BT.nil))) (BT.node (o_122 P) (BT.node (o_199 P) (BT.node (o_359 P) (BT.node (o_664 P) BT.nil BT.nil) (BT.node (o_935 P) BT.nil BT.nil)) (BT.node (o_527 P) (BT.node (o_798 P) BT.nil BT.nil) BT.nil)) (BT.node (o_275 P) (BT.node (o_439 P) (BT.node (o_734 P) BT.nil BT.nil) (BT.node (o_1002 P) BT.nil BT.nil)) (BT.node (o_597 P) (BT.node (o_868 P) BT.nil BT.nil) BT.nil))))))) (BT.node (boot_o_5 P) (BT.node (boot_o_9 P) (BT.node (o_9 P) (BT.node (o_25 P) (BT.node (o_57 P) (BT.node (o_128 P) (BT.node (o_281 P) (BT.node (o_603 P) BT.nil BT.nil) (BT.node (o_874 P) BT.nil BT.nil)) (BT.node (o_449 P) (BT.node (o_740 P) BT.nil BT.nil) (BT.node (o_1008 P) BT.nil BT.nil))) (BT.node (o_205 P) (BT.node (o_365 P) (BT.node (o_670 P) BT.nil BT.nil) (BT.node (o_941 P) BT.nil BT.nil)) (BT.node (o_533 P) (BT.node (o_804 P) BT.nil BT.nil) BT.nil))) (BT.node (o_96 P) (BT.node (o_169 P) (BT.node (o_325 P) (BT.node (o_635 P) BT.nil BT.nil) (BT.node (o_909 P) BT.nil BT.nil)) (BT.node (o_493 P) (BT.node (o_772 P) BT.nil BT.nil) BT.nil)) (BT.node (o_245 P) (BT.node (o_409 P) (BT.node (o_705 P) BT.nil BT.nil) (BT.node (o_976 P) BT.nil BT.nil)) (BT.node (o_568 P) (BT.node (o_839 P) BT.nil BT.nil) BT.nil)))) (BT.node (o_41 P) (BT.node (o_75 P) (BT.node (o_149 P) (BT.node (o_301 P) (BT.node (o_619 P) BT.nil BT.nil) (BT.node (o_893 P) BT.nil BT.nil)) (BT.node (o_469 P) (BT.node (o_756 P) BT.nil BT.nil) (BT.node (o_1027 P) BT.nil BT.nil))) (BT.node (o_225 P) (BT.node (o_389 P) (BT.node (o_689 P) BT.nil BT.nil) (BT.node (o_960 P) BT.nil BT.nil)) (BT.node (o_552 P) (BT.node (o_823 P) BT.nil BT.nil) BT.nil))) (BT.node (o_112 P) (BT.node (o_185 P) (BT.node (o_345 P) (BT.node (o_654 P) BT.nil BT.nil) (BT.node (o_925 P) BT.nil BT.nil)) (BT.node (o_513 P) (BT.node (o_788 P) BT.nil BT.nil) BT.nil)) (BT.node (o_261 P) (BT.node (o_429 P) (BT.node (o_721 P) BT.nil BT.nil) (BT.node (o_992 P) BT.nil BT.nil)) (BT.node (o_584 P) (BT.node (o_855 P) BT.nil BT.nil) BT.nil))))) (BT.node (o_17 P) (BT.node (o_33 P) (BT.node (o_67 P) (BT.node (o_136 P) (BT.node (o_293 P) (BT.node (o_611 P) BT.nil BT.nil) (BT.node (o_882 P) BT.nil BT.nil)) (BT.node (o_461 P) (BT.node (o_748 P) BT.nil BT.nil) (BT.node (o_1016 P) BT.nil BT.nil))) (BT.node (o_217 P) (BT.node (o_377 P) (BT.node (o_681 P) BT.nil BT.nil) (BT.node (o_952 P) BT.nil BT.nil)) (BT.node (o_544 P) (BT.node (o_812 P) BT.nil BT.nil) BT.nil))) (BT.node (o_104 P) (BT.node (o_177 P) (BT.node (o_333 P) (BT.node (o_643 P) BT.nil BT.nil) (BT.node (o_917 P) BT.nil BT.nil)) (BT.node (o_501 P) (BT.node (o_780 P) BT.nil BT.nil) BT.nil)) (BT.node (o_253 P) (BT.node (o_417 P) (BT.node (o_713 P) BT.nil BT.nil) (BT.node (o_984 P) BT.nil BT.nil)) (BT.node (o_576 P) (BT.node (o_847 P) BT.nil BT.nil) BT.nil)))) (BT.node (o_49 P) (BT.node (o_83 P) (BT.node (o_157 P) (BT.node (o_313 P) (BT.node (o_627 P) BT.nil BT.nil) (BT.node (o_901 P) BT.nil BT.nil)) (BT.node (o_481 P) (BT.node (o_764 P) BT.nil BT.nil) (BT.node (o_1035 P) BT.nil BT.nil))) (BT.node (o_233 P) (BT.node (o_397 P) (BT.node (o_697 P) BT.nil BT.nil) (BT.node (o_968 P) BT.nil BT.nil)) (BT.node (o_560 P) (BT.node (o_831 P) BT.nil BT.nil) BT.nil))) (BT.node (o_120 P) (BT.node (o_197 P) (BT.node (o_357 P) (BT.node (o_662 P) BT.nil BT.nil) (BT.node (o_933 P) BT.nil BT.nil)) (BT.node (o_525 P) (BT.node (o_796 P) BT.nil BT.nil) BT.nil)) (BT.node (o_273 P) (BT.node (o_437 P) (BT.node (o_732 P) BT.nil BT.nil) (BT.node (o_1000 P) BT.nil BT.nil)) (BT.node (o_592 P) (BT.node (o_866 P) BT.nil BT.nil) BT.nil)))))) (BT.node (o_3 P) (BT.node (o_13 P) (BT.node (o_29 P) (BT.node (o_63 P) (BT.node (o_132 P) (BT.node (o_285 P) (BT.node (o_607 P) BT.nil BT.nil) (BT.node (o_878 P) BT.nil BT.nil)) (BT.node (o_453 P) (BT.node (o_744 P) BT.nil BT.nil) (BT.node (o_1012 P) BT.nil BT.nil))) (BT.node (o_209 P) (BT.node (o_373 P) (BT.node (o_677 P) BT.nil BT.nil) (BT.node (o_948 P) BT.nil BT.nil)) (BT.node (o_540 P) (BT.node (o_808 P) BT.nil BT.nil) BT.nil))) (BT.node (o_100 P) (BT.node (o_173 P) (BT.node (o_329 P) (BT.node (o_639 P) BT.nil BT.nil) (BT.node (o_913 P) BT.nil BT.nil)) (BT.node (o_497 P) (BT.node (o_776 P) BT.nil BT.nil) BT.nil)) (BT.node (o_249 P) (BT.node (o_413 P) (BT.node (o_709 P) BT.nil BT.nil) (BT.node (o_980 P) BT.nil BT.nil)) (BT.node (o_572 P) (BT.node (o_843 P) BT.nil BT.nil) BT.nil)))) (BT.node (o_45 P) (BT.node (o_79 P) (BT.node (o_153 P) (BT.node (o_309 P) (BT.node (o_623 P) BT.nil BT.nil) (BT.node (o_897 P) BT.nil BT.nil)) (BT.node (o_477 P) (BT.node (o_760 P) BT.nil BT.nil) (BT.node (o_1031 P) BT.nil BT.nil))) (BT.node (o_229 P) (BT.node (o_393 P) (BT.node (o_693 P) BT.nil BT.nil) (BT.node (o_964 P) BT.nil BT.nil)) (BT.node (o_556 P) (BT.node (o_827 P) BT.nil BT.nil) BT.nil))) (BT.node (o_116 P) (BT.node (o_193 P) (BT.node (o_349 P) (BT.node (o_658 P) BT.nil BT.nil) (BT.node (o_929 P) BT.nil BT.nil)) (BT.node (o_517 P) (BT.node (o_792 P) BT.nil BT.nil) BT.nil)) (BT.node (o_269 P) (BT.node (o_433 P) (BT.node (o_725 P) BT.nil BT.nil) (BT.node (o_996 P) BT.nil BT.nil)) (BT.node (o_588 P) (BT.node (o_862 P) BT.nil BT.nil) BT.nil))))) (BT.node (o_21 P) (BT.node (o_37 P) (BT.node (o_71 P) (BT.node (o_140 P) (BT.node (o_297 P) (BT.node (o_615 P) BT.nil BT.nil) (BT.node (o_886 P) BT.nil BT.nil)) (BT.node (o_465 P) (BT.node (o_752 P) BT.nil BT.nil) (BT.node (o_1020 P) BT.nil BT.nil))) (BT.node (o_221 P) (BT.node (o_381 P) (BT.node (o_685 P) BT.nil BT.nil) (BT.node (o_956 P) BT.nil BT.nil)) (BT.node (o_548 P) (BT.node (o_816 P) BT.nil BT.nil) BT.nil))) (BT.node (o_108 P) (BT.node (o_181 P) (BT.node (o_341 P) (BT.node (o_647 P) BT.nil BT.nil) (BT.node (o_921 P) BT.nil BT.nil)) (BT.node (o_509 P) (BT.node (o_784 P) BT.nil BT.nil) BT.nil)) (BT.node (o_257 P) (BT.node (o_421 P) (BT.node (o_717 P) BT.nil BT.nil) (BT.node (o_988 P) BT.nil BT.nil)) (BT.node (o_580 P) (BT.node (o_851 P) BT.nil BT.nil) BT.nil)))) (BT.node (o_53 P) (BT.node (o_92 P) (BT.node (o_161 P) (BT.node (o_317 P) (BT.node (o_631 P) BT.nil BT.nil) (BT.node (o_905 P) BT.nil BT.nil)) (BT.node (o_485 P) (BT.node (o_768 P) BT.nil BT.nil) BT.nil)) (BT.node (o_241 P) (BT.node (o_405 P) (BT.node (o_701 P) BT.nil BT.nil) (BT.node (o_972 P) BT.nil BT.nil)) (BT.node (o_564 P) (BT.node (o_835 P) BT.nil BT.nil) BT.nil))) (BT.node (o_124 P) (BT.node (o_201 P) (BT.node (o_361 P) (BT.node (o_666 P) BT.nil BT.nil) (BT.node (o_937 P) BT.nil BT.nil)) (BT.node (o_529 P) (BT.node (o_800 P) BT.nil BT.nil) BT.nil)) (BT.node (o_277 P) (BT.node (o_445 P) (BT.node (o_736 P) BT.nil BT.nil) (BT.node (o_1004 P) BT.nil BT.nil)) (BT.node (o_599 P) (BT.node (o_870 P) BT.nil BT.nil) BT.nil)))))))) (BT.node (boot_o_2 P) (BT.node (boot_o_4 P) (BT.node (boot_o_8 P) (BT.node (o_8 P) (BT.node (o_24 P) (BT.node (o_56 P) (BT.node (o_127 P) (BT.node (o_280 P) (BT.node (o_602 P) BT.nil BT.nil) (BT.node (o_873 P) BT.nil BT.nil)) (BT.node (o_448 P) (BT.node (o_739 P) BT.nil BT.nil) (BT.node (o_1007 P) BT.nil BT.nil))) (BT.node (o_204 P) (BT.node (o_364 P) (BT.node (o_669 P) BT.nil BT.nil) (BT.node (o_940 P) BT.nil BT.nil)) (BT.node (o_532 P) (BT.node (o_803 P) BT.nil BT.nil) BT.nil))) (BT.node (o_95 P) (BT.node (o_168 P) (BT.node (o_324 P) (BT.node (o_634 P) BT.nil BT.nil) (BT.node (o_908 P) BT.nil BT.nil)) (BT.node (o_492 P) (BT.node (o_771 P) BT.nil BT.nil) BT.nil)) (BT.node (o_244 P) (BT.node (o_408 P) (BT.node (o_704 P) BT.nil BT.nil) (BT.node (o_975 P) BT.nil BT.nil)) (BT.node (o_567 P) (BT.node (o_838 P) BT.nil BT.nil) BT.nil)))) (BT.node (o_40 P) (BT.node (o_74 P) (BT.node (o_143 P) (BT.node (o_300 P) (BT.node (o_618 P) BT.nil BT.nil) (BT.node (o_889 P) BT.nil BT.nil)) (BT.node (o_468 P) (BT.node (o_755 P) BT.nil BT.nil) (BT.node (o_1023 P) BT.nil BT.nil))) (BT.node (o_224 P) (BT.node (o_388 P) (BT.node (o_688 P) BT.nil BT.nil) (BT.node (o_959 P) BT.nil BT.nil)) (BT.node (o_551 P) (BT.node (o_822 P) BT.nil BT.nil) BT.nil))) (BT.node (o_111 P) (BT.node (o_184 P) (BT.node (o_344 P) (BT.node (o_653 P) BT.nil BT.nil) (BT.node (o_924 P) BT.nil BT.nil)) (BT.node (o_512 P) (BT.node (o_787 P) BT.nil BT.nil) BT.nil)) (BT.node (o_260 P) (BT.node (o_428 P) (BT.node (o_720 P) BT.nil BT.nil) (BT.node (o_991 P) BT.nil BT.nil)) (BT.node (o_583 P) (BT.node (o_854 P) BT.nil BT.nil) BT.nil))))) (BT.node (o_16 P) (BT.node (o_32 P) (BT.node (o_66 P) (BT.node (o_135 P) (BT.node (o_292 P) (BT.node (o_610 P) BT.nil BT.nil) (BT.node (o_881 P) BT.nil BT.nil)) (BT.node (o_460 P) (BT.node (o_747 P) BT.nil BT.nil) (BT.node (o_1015 P) BT.nil BT.nil))) (BT.node (o_216 P) (BT.node (o_376 P) (BT.node (o_680 P) BT.nil BT.nil) (BT.node (o_951 P) BT.nil BT.nil)) (BT.node (o_543 P) (BT.node (o_811 P) BT.nil BT.nil) BT.nil))) (BT.node (o_103 P) (BT.node (o_176 P) (BT.node (o_332 P) (BT.node (o_642 P) BT.nil BT.nil) (BT.node (o_916 P) BT.nil BT.nil)) (BT.node (o_500 P) (BT.node (o_779 P) BT.nil BT.nil) BT.nil)) (BT.node (o_252 P) (BT.node (o_416 P) (BT.node (o_712 P) BT.nil BT.nil) (BT.node (o_983 P) BT.nil BT.nil)) (BT.node (o_575 P) (BT.node (o_846 P) BT.nil BT.nil) BT.nil)))) (BT.node (o_48 P) (BT.node (o_82 P) (BT.node (o_156 P) (BT.node (o_312 P) (BT.node (o_626 P) BT.nil BT.nil) (BT.node (o_900 P) BT.nil BT.nil)) (BT.node (o_480 P) (BT.node (o_763 P) BT.nil BT.nil) (BT.node (o_1034 P) BT.nil BT.nil))) (BT.node (o_232 P) (BT.node (o_396 P) (BT.node (o_696 P) BT.nil BT.nil) (BT.node (o_967 P) BT.nil BT.nil)) (BT.node (o_559 P) (BT.node (o_830 P) BT.nil BT.nil) BT.nil))) (BT.node (o_119 P) (BT.node (o_196 P) (BT.node (o_356 P) (BT.node (o_661 P) BT.nil BT.nil) (BT.node (o_932 P) BT.nil BT.nil)) (BT.node (o_524 P) (BT.node (o_795 P) BT.nil BT.nil) BT.nil)) (BT.node (o_272 P) (BT.node (o_436 P) (BT.node (o_731 P) BT.nil BT.nil) (BT.node (o_999 P) BT.nil BT.nil)) (BT.node (o_591 P) (BT.node (o_865 P) BT.nil BT.nil) BT.nil)))))) (BT.node (o_1026 P) (BT.node (o_12 P) (BT.node (o_28 P) (BT.node (o_60 P) (BT.node (o_131 P) (BT.node (o_284 P) (BT.node (o_606 P) BT.nil BT.nil) (BT.node (o_877 P) BT.nil BT.nil)) (BT.node (o_452 P) (BT.node (o_743 P) BT.nil BT.nil) (BT.node (o_1011 P) BT.nil BT.nil))) (BT.node (o_208 P) (BT.node (o_372 P) (BT.node (o_676 P) BT.nil BT.nil) (BT.node (o_947 P) BT.nil BT.nil)) (BT.node (o_536 P) (BT.node (o_807 P) BT.nil BT.nil) BT.nil))) (BT.node (o_99 P) (BT.node (o_172 P) (BT.node (o_328 P) (BT.node (o_638 P) BT.nil BT.nil) (BT.node (o_912 P) BT.nil BT.nil)) (BT.node (o_496 P) (BT.node (o_775 P) BT.nil BT.nil) BT.nil)) (BT.node (o_248 P) (BT.node (o_412 P) (BT.node (o_708 P) BT.nil BT.nil) (BT.node (o_979 P) BT.nil BT.nil)) (BT.node (o_571 P) (BT.node (o_842 P) BT.nil BT.nil) BT.nil)))) (BT.node (o_44 P) (BT.node (o_78 P) (BT.node (o_152 P) (BT.node (o_308 P) (BT.node (o_622 P) BT.nil BT.nil) (BT.node (o_896 P) BT.nil BT.nil)) (BT.node (o_476 P) (BT.node (o_759 P) BT.nil BT.nil) (BT.node (o_1030 P) BT.nil BT.nil))) (BT.node (o_228 P) (BT.node (o_392 P) (BT.node (o_692 P) BT.nil BT.nil) (BT.node (o_963 P) BT.nil BT.nil)) (BT.node (o_555 P) (BT.node (o_826 P) BT.nil BT.nil) BT.nil))) (BT.node (o_115 P) (BT.node (o_192 P) (BT.node (o_348 P) (BT.node (o_657 P) BT.nil BT.nil) (BT.node (o_928 P) BT.nil BT.nil)) (BT.node (o_516 P) (BT.node (o_791 P) BT.nil BT.nil) BT.nil)) (BT.node (o_268 P) (BT.node (o_432 P) (BT.node (o_724 P) BT.nil BT.nil) (BT.node (o_995 P) BT.nil BT.nil)) (BT.node (o_587 P) (BT.node (o_858 P) BT.nil BT.nil) BT.nil))))) (BT.node (o_20 P) (BT.node (o_36 P) (BT.node (o_70 P) (BT.node (o_139 P) (BT.node (o_296 P) (BT.node (o_614 P) BT.nil BT.nil) (BT.node (o_885 P) BT.nil BT.nil)) (BT.node (o_464 P) (BT.node (o_751 P) BT.nil BT.nil) (BT.node (o_1019 P) BT.nil BT.nil))) (BT.node (o_220 P) (BT.node (o_380 P) (BT.node (o_684 P) BT.nil BT.nil) (BT.node (o_955 P) BT.nil BT.nil)) (BT.node (o_547 P) (BT.node (o_815 P) BT.nil BT.nil) BT.nil))) (BT.node (o_107 P) (BT.node (o_180 P) (BT.node (o_340 P) (BT.node (o_646 P) BT.nil BT.nil) (BT.node (o_920 P) BT.nil BT.nil)) (BT.node (o_508 P) (BT.node (o_783 P) BT.nil BT.nil) BT.nil)) (BT.node (o_256 P) (BT.node (o_420 P) (BT.node (o_716 P) BT.nil BT.nil) (BT.node (o_987 P) BT.nil BT.nil)) (BT.node (o_579 P) (BT.node (o_850 P) BT.nil BT.nil) BT.nil)))) (BT.node (o_52 P) (BT.node (o_91 P) (BT.node (o_160 P) (BT.node (o_316 P) (BT.node (o_630 P) BT.nil BT.nil) (BT.node (o_904 P) BT.nil BT.nil)) (BT.node (o_484 P) (BT.node (o_767 P) BT.nil BT.nil) (BT.node (o_1038 P) BT.nil BT.nil))) (BT.node (o_236 P) (BT.node (o_404 P) (BT.node (o_700 P) BT.nil BT.nil) (BT.node (o_971 P) BT.nil BT.nil)) (BT.node (o_563 P) (BT.node (o_834 P) BT.nil BT.nil) BT.nil))) (BT.node (o_123 P) (BT.node (o_200 P) (BT.node (o_360 P) (BT.node (o_665 P) BT.nil BT.nil) (BT.node (o_936 P) BT.nil BT.nil)) (BT.node (o_528 P) (BT.node (o_799 P) BT.nil BT.nil) BT.nil)) (BT.node (o_276 P) (BT.node (o_444 P) (BT.node (o_735 P) BT.nil BT.nil) (BT.node (o_1003 P) BT.nil BT.nil)) (BT.node (o_598 P) (BT.node (o_869 P) BT.nil BT.nil) BT.nil))))))) (BT.node (boot_o_6 P) (BT.node (boot_o_10 P) (BT.node (o_10 P) (BT.node (o_26 P) (BT.node (o_58 P) (BT.node (o_129 P) (BT.node (o_282 P) (BT.node (o_604 P) BT.nil BT.nil) (BT.node (o_875 P) BT.nil BT.nil)) (BT.node (o_450 P) (BT.node (o_741 P) BT.nil BT.nil) (BT.node (o_1009 P) BT.nil BT.nil))) (BT.node (o_206 P) (BT.node (o_366 P) (BT.node (o_671 P) BT.nil BT.nil) (BT.node (o_945 P) BT.nil BT.nil)) (BT.node (o_534 P) (BT.node (o_805 P) BT.nil BT.nil) BT.nil))) (BT.node (o_97 P) (BT.node (o_170 P) (BT.node (o_326 P) (BT.node (o_636 P) BT.nil BT.nil) (BT.node (o_910 P) BT.nil BT.nil)) (BT.node (o_494 P) (BT.node (o_773 P) BT.nil BT.nil) BT.nil)) (BT.node (o_246 P) (BT.node (o_410 P) (BT.node (o_706 P) BT.nil BT.nil) (BT.node (o_977 P) BT.nil BT.nil)) (BT.node (o_569 P) (BT.node (o_840 P) BT.nil BT.nil) BT.nil)))) (BT.node (o_42 P) (BT.node (o_76 P) (BT.node (o_150 P) (BT.node (o_302 P) (BT.node (o_620 P) BT.nil BT.nil) (BT.node (o_894 P) BT.nil BT.nil)) (BT.node (o_470 P) (BT.node (o_757 P) BT.nil BT.nil) (BT.node (o_1028 P) BT.nil BT.nil))) (BT.node (o_226 P) (BT.node (o_390 P) (BT.node (o_690 P) BT.nil BT.nil) (BT.node (o_961 P) BT.nil BT.nil)) (BT.node (o_553 P) (BT.node (o_824 P) BT.nil BT.nil) BT.nil))) (BT.node (o_113 P) (BT.node (o_186 P) (BT.node (o_346 P) (BT.node (o_655 P) BT.nil BT.nil) (BT.node (o_926 P) BT.nil BT.nil)) (BT.node (o_514 P) (BT.node (o_789 P) BT.nil BT.nil) BT.nil)) (BT.node (o_266 P) (BT.node (o_430 P) (BT.node (o_722 P) BT.nil BT.nil) (BT.node (o_993 P) BT.nil BT.nil)) (BT.node (o_585 P) (BT.node (o_856 P) BT.nil BT.nil) BT.nil))))) (BT.node (o_18 P) (BT.node (o_34 P) (BT.node (o_68 P) (BT.node (o_137 P) (BT.node (o_294 P) (BT.node (o_612 P) BT.nil BT.nil) (BT.node (o_883 P) BT.nil BT.nil)) (BT.node (o_462 P) (BT.node (o_749 P) BT.nil BT.nil) (BT.node (o_1017 P) BT.nil BT.nil))) (BT.node (o_218 P) (BT.node (o_378 P) (BT.node (o_682 P) BT.nil BT.nil) (BT.node (o_953 P) BT.nil BT.nil)) (BT.node (o_545 P) (BT.node (o_813 P) BT.nil BT.nil) BT.nil))) (BT.node (o_105 P) (BT.node (o_178 P) (BT.node (o_334 P) (BT.node (o_644 P) BT.nil BT.nil) (BT.node (o_918 P) BT.nil BT.nil)) (BT.node (o_502 P) (BT.node (o_781 P) BT.nil BT.nil) BT.nil)) (BT.node (o_254 P) (BT.node (o_418 P) (BT.node (o_714 P) BT.nil BT.nil) (BT.node (o_985 P) BT.nil BT.nil)) (BT.node (o_577 P) (BT.node (o_848 P) BT.nil BT.nil) BT.nil)))) (BT.node (o_50 P) (BT.node (o_84 P) (BT.node (o_523 P) (BT.node (o_314 P) (BT.node (o_628 P) BT.nil BT.nil) (BT.node (o_902 P) BT.nil BT.nil)) (BT.node (o_482 P) (BT.node (o_765 P) BT.nil BT.nil) (BT.node (o_1036 P) BT.nil BT.nil))) (BT.node (o_234 P) (BT.node (o_398 P) (BT.node (o_698 P) BT.nil BT.nil) (BT.node (o_969 P) BT.nil BT.nil)) (BT.node (o_561 P) (BT.node (o_832 P) BT.nil BT.nil) BT.nil))) (BT.node (o_121 P) (BT.node (o_198 P) (BT.node (o_358 P) (BT.node (o_663 P) BT.nil BT.nil) (BT.node (o_934 P) BT.nil BT.nil)) (BT.node (o_526 P) (BT.node (o_797 P) BT.nil BT.nil) BT.nil)) (BT.node (o_274 P) (BT.node (o_438 P) (BT.node (o_733 P) BT.nil BT.nil) (BT.node (o_1001 P) BT.nil BT.nil)) (BT.node (o_593 P) (BT.node (o_867 P) BT.nil BT.nil) BT.nil)))))) (BT.node (o_4 P) (BT.node (o_14 P) (BT.node (o_30 P) (BT.node (o_64 P) (BT.node (o_133 P) (BT.node (o_286 P) (BT.node (o_608 P) BT.nil BT.nil) (BT.node (o_879 P) BT.nil BT.nil)) (BT.node (o_454 P) (BT.node (o_745 P) BT.nil BT.nil) (BT.node (o_1013 P) BT.nil BT.nil))) (BT.node (o_210 P) (BT.node (o_374 P) (BT.node (o_678 P) BT.nil BT.nil) (BT.node (o_949 P) BT.nil BT.nil)) (BT.node (o_541 P) (BT.node (o_809 P) BT.nil BT.nil) BT.nil))) (BT.node (o_101 P) (BT.node (o_174 P) (BT.node (o_330 P) (BT.node (o_640 P) BT.nil BT.nil) (BT.node (o_914 P) BT.nil BT.nil)) (BT.node (o_498 P) (BT.node (o_777 P) BT.nil BT.nil) BT.nil)) (BT.node (o_250 P) (BT.node (o_414 P) (BT.node (o_710 P) BT.nil BT.nil) (BT.node (o_981 P) BT.nil BT.nil)) (BT.node (o_573 P) (BT.node (o_844 P) BT.nil BT.nil) BT.nil)))) (BT.node (o_46 P) (BT.node (o_80 P) (BT.node (o_154 P) (BT.node (o_310 P) (BT.node (o_624 P) BT.nil BT.nil) (BT.node (o_898 P) BT.nil BT.nil)) (BT.node (o_478 P) (BT.node (o_761 P) BT.nil BT.nil) (BT.node (o_1032 P) BT.nil BT.nil))) (BT.node (o_230 P) (BT.node (o_394 P) (BT.node (o_694 P) BT.nil BT.nil) (BT.node (o_965 P) BT.nil BT.nil)) (BT.node (o_557 P) (BT.node (o_828 P) BT.nil BT.nil) BT.nil))) (BT.node (o_117 P) (BT.node (o_194 P) (BT.node (o_350 P) (BT.node (o_659 P) BT.nil BT.nil) (BT.node (o_930 P) BT.nil BT.nil)) (BT.node (o_518 P) (BT.node (o_793 P) BT.nil BT.nil) BT.nil)) (BT.node (o_270 P) (BT.node (o_434 P) (BT.node (o_726 P) BT.nil BT.nil) (BT.node (o_997 P) BT.nil BT.nil)) (BT.node (o_589 P) (BT.node (o_863 P) BT.nil BT.nil) BT.nil))))) (BT.node (o_22 P) (BT.node (o_38 P) (BT.node (o_72 P) (BT.node (o_141 P) (BT.node (o_298 P) (BT.node (o_616 P) BT.nil BT.nil) (BT.node (o_887 P) BT.nil BT.nil)) (BT.node (o_466 P) (BT.node (o_753 P) BT.nil BT.nil) (BT.node (o_1021 P) BT.nil BT.nil))) (BT.node (o_222 P) (BT.node (o_382 P) (BT.node (o_686 P) BT.nil BT.nil) (BT.node (o_957 P) BT.nil BT.nil)) (BT.node (o_549 P) (BT.node (o_817 P) BT.nil BT.nil) BT.nil))) (BT.node (o_109 P) (BT.node (o_182 P) (BT.node (o_342 P) (BT.node (o_648 P) BT.nil BT.nil) (BT.node (o_922 P) BT.nil BT.nil)) (BT.node (o_510 P) (BT.node (o_785 P) BT.nil BT.nil) BT.nil)) (BT.node (o_258 P) (BT.node (o_422 P) (BT.node (o_718 P) BT.nil BT.nil) (BT.node (o_989 P) BT.nil BT.nil)) (BT.node (o_581 P) (BT.node (o_852 P) BT.nil BT.nil) BT.nil)))) (BT.node (o_54 P) (BT.node (o_93 P) (BT.node (o_166 P) (BT.node (o_318 P) (BT.node (o_632 P) BT.nil BT.nil) (BT.node (o_906 P) BT.nil BT.nil)) (BT.node (o_486 P) (BT.node (o_769 P) BT.nil BT.nil) BT.nil)) (BT.node (o_242 P) (BT.node (o_406 P) (BT.node (o_702 P) BT.nil BT.nil) (BT.node (o_973 P) BT.nil BT.nil)) (BT.node (o_565 P) (BT.node (o_836 P) BT.nil BT.nil) BT.nil))) (BT.node (o_125 P) (BT.node (o_202 P) (BT.node (o_362 P) (BT.node (o_667 P) BT.nil BT.nil) (BT.node (o_938 P) BT.nil BT.nil)) (BT.node (o_530 P) (BT.node (o_801 P) BT.nil BT.nil) BT.nil)) (BT.node (o_278 P) (BT.node (o_446 P) (BT.node (o_737 P) BT.nil BT.nil) (BT.node (o_1005 P) BT.nil BT.nil)) (BT.node (o_600 P) (BT.node (o_871 P) BT.nil BT.nil) BT.nil))))))))
def env_1 : Env := { scope := Module.scope (Program.main (RowW.prog (OpenRow.toRowW (OpenLaw.row PySem.Challenge.rw_livehall_k05_kinds_made)))), locals := mainNs, globals := mainNs, cells := [], code := Value.ref 13, frame := some 14 }
end
end pre
end H5

set_option maxRecDepth 100000
set_option maxHeartbeats 0
namespace H5
open PySem PySem.W PySem.Calls PyProof.Rows HandSHeadRun
noncomputable section
@[reducible] noncomputable def R : OpenRow := OpenLaw.row PySem.Challenge.rw_livehall_k05_kinds_made
@[reducible] noncomputable def p0 : Program := R.prog
@[reducible] noncomputable def bdy : List Stmt := behindTheImports p0
@[reducible] noncomputable def cd0 : Code := .body bdy pre.env_1
@[reducible] noncomputable def pos0 : Pos := ⟨0, 0, 0, 0⟩
@[reducible] noncomputable def posK : Pos := ⟨509, 0, 516, 37⟩
@[reducible] noncomputable def fr0 : List Frame := [topFrame pos0]
@[reducible] noncomputable def ann0 : Option Value := some (.ref 6)
@[reducible] noncomputable def st0 (w : World) (os : OsState) : Shared := ⟨boot_heap w.params, #[], boot_drawn, boot_toks, os⟩
noncomputable def sb (w : World) (os : OsState) : SharedT := ⟨pre.tree_4 w.params, 15, {}, Array.mk [], {}, 187, os⟩
noncomputable def sk (w : World) (os : OsState) : SharedT := ⟨pre.tree_1038 w.params, 925, {}, Array.mk [], {}, 1501, os⟩
theorem size0 (w : World) : (boot_heap w.params).objs.size = 11 := by kernel_rfl
theorem annB (w : World) : bootAnn w = ann0 := by kernel_rfl
theorem preG (w : World) (os : OsState) : topGo treeTable p0 w 11 ann0 12 (st0 w os) (topStub p0) = some ((sb w os).abs, ⟨denote treeTable cd0, cd0, pos0, fr0⟩) := by kernel_rfl
theorem blkG (w : World) (os : OsState) : segRun treeTable p0 w 11 ann0 1 1 (sb w os).abs (blockOf bdy pre.env_1 cd0 pos0 fr0) = some (.next, (sb w os).abs, cd0, pos0) := by kernel_rfl
/-- a stretch of the top, to its end -/
def segF (st : SharedT → Thread → Option (SharedT × Thread)) (n0 : Nat) (ann : Option Value) : Nat → SharedT → Thread → Option (Flow × SharedT × Code × Pos)
  | 0, _, _ => none
  | m + 1, s, t => match endAt 1 t with
    | some f => some (f, s, t.code, t.pos)
    | none => match stepOk n0 ann t with
      | false => none
      | true => match st s t with
        | some (s', t') => frS s' fun s' => segF st n0 ann m s' t'
        | none => none
theorem segF_ok {tb : String → Option Builtin} {p : Program} {w : World} {n0 : Nat} {ann : Option Value} : ∀ {m : Nat} {s : SharedT} {t : Thread} {r : Flow × SharedT × Code × Pos}, segF (stepT (denote tb) p w) n0 ann m s t = some r → segRunT tb p w n0 ann 1 m s t = some r
  | 0, _, _, _, h => by cases h
  | m + 1, s, t, r, h => by
    unfold segF at h
    unfold segRunT
    cases he : endAt 1 t with
    | some f => rw [he] at h; exact h
    | none =>
      rw [he] at h
      cases hk : stepOk n0 ann t with
      | false => rw [hk] at h; cases h
      | true =>
        rw [hk] at h
        cases hs : stepT (denote tb) p w s t with
        | none => rw [hs] at h; cases h
        | some z =>
          obtain ⟨s2, t2⟩ := z
          rw [hs] at h
          have h3 : (frS s2 fun s' => segF (stepT (denote tb) p w) n0 ann m s' t2) = some r := h
          rw [frS_eq] at h3
          exact segF_ok h3
noncomputable def execsQ : List Stmt → Env → Sem Flow := PySem.W.Fast.tw12563942051412417395
theorem execsQ_eq : @PySem.execs = execsQ := PySem.W.Fast.te12563942051412417395
noncomputable def piecesQ (l : List Stmt) (env : Env) (c : Code) (at_ : Pos) (B : List Frame) : Thread := ⟨(execsQ l env).wrap doneF deadEnd id id, c, at_, B⟩
theorem piecesQ_eq (l : List Stmt) (env : Env) (c : Code) (at_ : Pos) (B : List Frame) : piecesOf l env c at_ B = piecesQ l env c at_ B := by
  unfold piecesOf piecesQ
  rw [execsQ_eq]
noncomputable def Seg1 (w : World) : Prop := ∀ os : OsState, segF (stepQ (denQ tabQ) p0 w) 11 ann0 9000 (sb w os) (piecesQ (bdy.take 104) pre.env_1 cd0 pos0 fr0) = some (.next, sk w os, cd0, posK)
theorem s1F (w : World) : Seg1 (w.withFollow "special-get-raises" false) := fun os => by kernel_rfl
theorem s1T (w : World) : Seg1 (w.withFollow "special-get-raises" true) := fun os => by kernel_rfl
theorem s1 (w : World) : Seg1 w := byRow2 "special-get-raises" (P := Seg1) s1F s1T w
theorem seg1 (w : World) (os : OsState) : segRun treeTable p0 w 11 ann0 1 9000 (sb w os).abs (piecesOf (bdy.take 104) pre.env_1 cd0 pos0 fr0) = some (.next, (sk w os).abs, cd0, posK) := by
  have h := s1 w os
  rw [← tabQ_eq, ← denQ_eq, ← stepQ_eq, ← piecesQ_eq] at h
  exact segRun_of (segF_ok h)
end
end H5

set_option maxRecDepth 100000
set_option maxHeartbeats 0
namespace H5
namespace pre2
open PySem PySem.W B1 L2
noncomputable section
def AM138x0 := defArgs (cm 138 0)
def BM138x0 := defBody (cm 138 0)
def SM138x0 := defScope (cm 138 0)
def AM138x1 := defArgs (cm 138 1)
def BM138x1 := defBody (cm 138 1)
def SM138x1 := defScope (cm 138 1)
def AM138x2 := defArgs (cm 138 2)
def BM138x2 := defBody (cm 138 2)
def SM138x2 := defScope (cm 138 2)
def AM138x3 := defArgs (cm 138 3)
def BM138x3 := defBody (cm 138 3)
def SM138x3 := defScope (cm 138 3)
def AM138x4 := defArgs (cm 138 4)
def BM138x4 := defBody (cm 138 4)
def SM138x4 := defScope (cm 138 4)
def AM138x5 := defArgs (cm 138 5)
def BM138x5 := defBody (cm 138 5)
def SM138x5 := defScope (cm 138 5)
def AM138x6 := defArgs (cm 138 6)
def BM138x6 := defBody (cm 138 6)
def SM138x6 := defScope (cm 138 6)
def AM138x7 := defArgs (cm 138 7)
def BM138x7 := defBody (cm 138 7)
def SM138x7 := defScope (cm 138 7)
def AM26x0 := defArgs (cm 26 0)
def BM26x0 := defBody (cm 26 0)
def SM26x0 := defScope (cm 26 0)
def AM27x0 := defArgs (cm 27 0)
def BM27x0 := defBody (cm 27 0)
def SM27x0 := defScope (cm 27 0)
def AM28x0 := defArgs (cm 28 0)
def BM28x0 := defBody (cm 28 0)
def SM28x0 := defScope (cm 28 0)
def AM29x0 := defArgs (cm 29 0)
def BM29x0 := defBody (cm 29 0)
def SM29x0 := defScope (cm 29 0)
def AM30x0 := defArgs (cm 30 0)
def BM30x0 := defBody (cm 30 0)
def SM30x0 := defScope (cm 30 0)
def AM38x0 := defArgs (cm 38 0)
def BM38x0 := defBody (cm 38 0)
def SM38x0 := defScope (cm 38 0)
def AM48x0 := defArgs (cm 48 0)
def BM48x0 := defBody (cm 48 0)
def SM48x0 := defScope (cm 48 0)
def AM48x1 := defArgs (cm 48 1)
def BM48x1 := defBody (cm 48 1)
def SM48x1 := defScope (cm 48 1)
def AM48x2 := defArgs (cm 48 2)
def BM48x2 := defBody (cm 48 2)
def SM48x2 := defScope (cm 48 2)
def AM48x3 := defArgs (cm 48 3)
def BM48x3 := defBody (cm 48 3)
def SM48x3 := defScope (cm 48 3)
def AM48x4 := defArgs (cm 48 4)
def BM48x4 := defBody (cm 48 4)
def SM48x4 := defScope (cm 48 4)
def AM55x0 := defArgs (cm 55 0)
def BM55x0 := defBody (cm 55 0)
def SM55x0 := defScope (cm 55 0)
def AM57x0 := defArgs (cm 57 0)
def BM57x0 := defBody (cm 57 0)
def SM57x0 := defScope (cm 57 0)
def AM58x0 := defArgs (cm 58 0)
def BM58x0 := defBody (cm 58 0)
def SM58x0 := defScope (cm 58 0)
def AM85x0 := defArgs (cm 85 0)
def BM85x0 := defBody (cm 85 0)
def SM85x0 := defScope (cm 85 0)
def AM87x0 := defArgs (cm 87 0)
def BM87x0 := defBody (cm 87 0)
def SM87x0 := defScope (cm 87 0)
def AM87x1 := defArgs (cm 87 1)
def BM87x1 := defBody (cm 87 1)
def SM87x1 := defScope (cm 87 1)
def AM87x2 := defArgs (cm 87 2)
def BM87x2 := defBody (cm 87 2)
def SM87x2 := defScope (cm 87 2)
def AM87x3 := defArgs (cm 87 3)
def BM87x3 := defBody (cm 87 3)
def SM87x3 := defScope (cm 87 3)
def AM87x4 := defArgs (cm 87 4)
def BM87x4 := defBody (cm 87 4)
def SM87x4 := defScope (cm 87 4)
def AT0 := defArgs (top 0)
def BT0 := defBody (top 0)
def ST0 := defScope (top 0)
def AT10 := defArgs (top 10)
def BT10 := defBody (top 10)
def ST10 := defScope (top 10)
def AT100 := defArgs (top 100)
def BT100 := defBody (top 100)
def ST100 := defScope (top 100)
def AT101 := defArgs (top 101)
def BT101 := defBody (top 101)
def ST101 := defScope (top 101)
def AT102 := defArgs (top 102)
def BT102 := defBody (top 102)
def ST102 := defScope (top 102)
def AT103 := defArgs (top 103)
def BT103 := defBody (top 103)
def ST103 := defScope (top 103)
def AT106 := defArgs (top 106)
def BT106 := defBody (top 106)
def ST106 := defScope (top 106)
def AT107 := defArgs (top 107)
def BT107 := defBody (top 107)
def ST107 := defScope (top 107)
def AT108 := defArgs (top 108)
def BT108 := defBody (top 108)
def ST108 := defScope (top 108)
def AT109 := defArgs (top 109)
def BT109 := defBody (top 109)
def ST109 := defScope (top 109)
def AT110 := defArgs (top 110)
def BT110 := defBody (top 110)
def ST110 := defScope (top 110)
def AT111 := defArgs (top 111)
def BT111 := defBody (top 111)
def ST111 := defScope (top 111)
def AT112 := defArgs (top 112)
def BT112 := defBody (top 112)
def ST112 := defScope (top 112)
def AT113 := defArgs (top 113)
def BT113 := defBody (top 113)
def ST113 := defScope (top 113)
def AT114 := defArgs (top 114)
def BT114 := defBody (top 114)
def ST114 := defScope (top 114)
def AT115 := defArgs (top 115)
def BT115 := defBody (top 115)
def ST115 := defScope (top 115)
def AT116 := defArgs (top 116)
def BT116 := defBody (top 116)
def ST116 := defScope (top 116)
def AT117 := defArgs (top 117)
def BT117 := defBody (top 117)
def ST117 := defScope (top 117)
def AT118 := defArgs (top 118)
def BT118 := defBody (top 118)
def ST118 := defScope (top 118)
def AT119 := defArgs (top 119)
def BT119 := defBody (top 119)
def ST119 := defScope (top 119)
def AT120 := defArgs (top 120)
def BT120 := defBody (top 120)
def ST120 := defScope (top 120)
def AT121 := defArgs (top 121)
def BT121 := defBody (top 121)
def ST121 := defScope (top 121)
def AT122 := defArgs (top 122)
def BT122 := defBody (top 122)
def ST122 := defScope (top 122)
def AT123 := defArgs (top 123)
def BT123 := defBody (top 123)
def ST123 := defScope (top 123)
def AT124 := defArgs (top 124)
def BT124 := defBody (top 124)
def ST124 := defScope (top 124)
def AT125 := defArgs (top 125)
def BT125 := defBody (top 125)
def ST125 := defScope (top 125)
def AT128 := defArgs (top 128)
def BT128 := defBody (top 128)
def ST128 := defScope (top 128)
def AT129 := defArgs (top 129)
def BT129 := defBody (top 129)
def ST129 := defScope (top 129)
def AT130 := defArgs (top 130)
def BT130 := defBody (top 130)
def ST130 := defScope (top 130)
def AT131 := defArgs (top 131)
def BT131 := defBody (top 131)
def ST131 := defScope (top 131)
def AT132 := defArgs (top 132)
def BT132 := defBody (top 132)
def ST132 := defScope (top 132)
def AT133 := defArgs (top 133)
def BT133 := defBody (top 133)
def ST133 := defScope (top 133)
def AT134 := defArgs (top 134)
def BT134 := defBody (top 134)
def ST134 := defScope (top 134)
def AT139 := defArgs (top 139)
def BT139 := defBody (top 139)
def ST139 := defScope (top 139)
def AT140 := defArgs (top 140)
def BT140 := defBody (top 140)
def ST140 := defScope (top 140)
def AT141 := defArgs (top 141)
def BT141 := defBody (top 141)
def ST141 := defScope (top 141)
def AT142 := defArgs (top 142)
def BT142 := defBody (top 142)
def ST142 := defScope (top 142)
def AT143 := defArgs (top 143)
def BT143 := defBody (top 143)
def ST143 := defScope (top 143)
def AT144 := defArgs (top 144)
def BT144 := defBody (top 144)
def ST144 := defScope (top 144)
def AT145 := defArgs (top 145)
def BT145 := defBody (top 145)
def ST145 := defScope (top 145)
def AT146 := defArgs (top 146)
def BT146 := defBody (top 146)
def ST146 := defScope (top 146)
def AT147 := defArgs (top 147)
def BT147 := defBody (top 147)
def ST147 := defScope (top 147)
def AT148 := defArgs (top 148)
def BT148 := defBody (top 148)
def ST148 := defScope (top 148)
def AT149 := defArgs (top 149)
def BT149 := defBody (top 149)
def ST149 := defScope (top 149)
def AT150 := defArgs (top 150)
def BT150 := defBody (top 150)
def ST150 := defScope (top 150)
def AT151 := defArgs (top 151)
def BT151 := defBody (top 151)
def ST151 := defScope (top 151)
def AT152 := defArgs (top 152)
def BT152 := defBody (top 152)
def ST152 := defScope (top 152)
def AT153 := defArgs (top 153)
def BT153 := defBody (top 153)
def ST153 := defScope (top 153)
def AT154 := defArgs (top 154)
def BT154 := defBody (top 154)
def ST154 := defScope (top 154)
def AT155 := defArgs (top 155)
def BT155 := defBody (top 155)
def ST155 := defScope (top 155)
def AT157 := defArgs (top 157)
def BT157 := defBody (top 157)
def ST157 := defScope (top 157)
def AT158 := defArgs (top 158)
def BT158 := defBody (top 158)
def ST158 := defScope (top 158)
def AT159 := defArgs (top 159)
def BT159 := defBody (top 159)
def ST159 := defScope (top 159)
def AT16 := defArgs (top 16)
def BT16 := defBody (top 16)
def ST16 := defScope (top 16)
def AT160 := defArgs (top 160)
def BT160 := defBody (top 160)
def ST160 := defScope (top 160)
def AT162 := defArgs (top 162)
def BT162 := defBody (top 162)
def ST162 := defScope (top 162)
def AT163 := defArgs (top 163)
def BT163 := defBody (top 163)
def ST163 := defScope (top 163)
def AT164 := defArgs (top 164)
def BT164 := defBody (top 164)
def ST164 := defScope (top 164)
def AT165 := defArgs (top 165)
def BT165 := defBody (top 165)
def ST165 := defScope (top 165)
def AT166 := defArgs (top 166)
def BT166 := defBody (top 166)
def ST166 := defScope (top 166)
def AT167 := defArgs (top 167)
def BT167 := defBody (top 167)
def ST167 := defScope (top 167)
def AT168 := defArgs (top 168)
def BT168 := defBody (top 168)
def ST168 := defScope (top 168)
def AT169 := defArgs (top 169)
def BT169 := defBody (top 169)
def ST169 := defScope (top 169)
def AT17 := defArgs (top 17)
def BT17 := defBody (top 17)
def ST17 := defScope (top 17)
def AT170 := defArgs (top 170)
def BT170 := defBody (top 170)
def ST170 := defScope (top 170)
def AT171 := defArgs (top 171)
def BT171 := defBody (top 171)
def ST171 := defScope (top 171)
def AT172 := defArgs (top 172)
def BT172 := defBody (top 172)
def ST172 := defScope (top 172)
def AT173 := defArgs (top 173)
def BT173 := defBody (top 173)
def ST173 := defScope (top 173)
def AT174 := defArgs (top 174)
def BT174 := defBody (top 174)
def ST174 := defScope (top 174)
def AT175 := defArgs (top 175)
def BT175 := defBody (top 175)
def ST175 := defScope (top 175)
def AT178 := defArgs (top 178)
def BT178 := defBody (top 178)
def ST178 := defScope (top 178)
def AT179 := defArgs (top 179)
def BT179 := defBody (top 179)
def ST179 := defScope (top 179)
def AT18 := defArgs (top 18)
def BT18 := defBody (top 18)
def ST18 := defScope (top 18)
def AT19 := defArgs (top 19)
def BT19 := defBody (top 19)
def ST19 := defScope (top 19)
def AT20 := defArgs (top 20)
def BT20 := defBody (top 20)
def ST20 := defScope (top 20)
def AT21 := defArgs (top 21)
def BT21 := defBody (top 21)
def ST21 := defScope (top 21)
def AT22 := defArgs (top 22)
def BT22 := defBody (top 22)
def ST22 := defScope (top 22)
def AT23 := defArgs (top 23)
def BT23 := defBody (top 23)
def ST23 := defScope (top 23)
def AT4 := defArgs (top 4)
def BT4 := defBody (top 4)
def ST4 := defScope (top 4)
def AT49 := defArgs (top 49)
def BT49 := defBody (top 49)
def ST49 := defScope (top 49)
def AT5 := defArgs (top 5)
def BT5 := defBody (top 5)
def ST5 := defScope (top 5)
def AT50 := defArgs (top 50)
def BT50 := defBody (top 50)
def ST50 := defScope (top 50)
def AT51 := defArgs (top 51)
def BT51 := defBody (top 51)
def ST51 := defScope (top 51)
def AT52 := defArgs (top 52)
def BT52 := defBody (top 52)
def ST52 := defScope (top 52)
def AT53 := defArgs (top 53)
def BT53 := defBody (top 53)
def ST53 := defScope (top 53)
def AT54 := defArgs (top 54)
def BT54 := defBody (top 54)
def ST54 := defScope (top 54)
def AT59 := defArgs (top 59)
def BT59 := defBody (top 59)
def ST59 := defScope (top 59)
def AT6 := defArgs (top 6)
def BT6 := defBody (top 6)
def ST6 := defScope (top 6)
def AT60 := defArgs (top 60)
def BT60 := defBody (top 60)
def ST60 := defScope (top 60)
def AT61 := defArgs (top 61)
def BT61 := defBody (top 61)
def ST61 := defScope (top 61)
def AT62 := defArgs (top 62)
def BT62 := defBody (top 62)
def ST62 := defScope (top 62)
def AT63 := defArgs (top 63)
def BT63 := defBody (top 63)
def ST63 := defScope (top 63)
def AT64 := defArgs (top 64)
def BT64 := defBody (top 64)
def ST64 := defScope (top 64)
def AT65 := defArgs (top 65)
def BT65 := defBody (top 65)
def ST65 := defScope (top 65)
def AT66 := defArgs (top 66)
def BT66 := defBody (top 66)
def ST66 := defScope (top 66)
def AT67 := defArgs (top 67)
def BT67 := defBody (top 67)
def ST67 := defScope (top 67)
def AT68 := defArgs (top 68)
def BT68 := defBody (top 68)
def ST68 := defScope (top 68)
def AT69 := defArgs (top 69)
def BT69 := defBody (top 69)
def ST69 := defScope (top 69)
def AT7 := defArgs (top 7)
def BT7 := defBody (top 7)
def ST7 := defScope (top 7)
def AT70 := defArgs (top 70)
def BT70 := defBody (top 70)
def ST70 := defScope (top 70)
def AT72 := defArgs (top 72)
def BT72 := defBody (top 72)
def ST72 := defScope (top 72)
def AT73 := defArgs (top 73)
def BT73 := defBody (top 73)
def ST73 := defScope (top 73)
def AT74 := defArgs (top 74)
def BT74 := defBody (top 74)
def ST74 := defScope (top 74)
def AT75 := defArgs (top 75)
def BT75 := defBody (top 75)
def ST75 := defScope (top 75)
def AT76 := defArgs (top 76)
def BT76 := defBody (top 76)
def ST76 := defScope (top 76)
def AT77 := defArgs (top 77)
def BT77 := defBody (top 77)
def ST77 := defScope (top 77)
def AT78 := defArgs (top 78)
def BT78 := defBody (top 78)
def ST78 := defScope (top 78)
def AT79 := defArgs (top 79)
def BT79 := defBody (top 79)
def ST79 := defScope (top 79)
def AT8 := defArgs (top 8)
def BT8 := defBody (top 8)
def ST8 := defScope (top 8)
def AT80 := defArgs (top 80)
def BT80 := defBody (top 80)
def ST80 := defScope (top 80)
def AT81 := defArgs (top 81)
def BT81 := defBody (top 81)
def ST81 := defScope (top 81)
def AT82 := defArgs (top 82)
def BT82 := defBody (top 82)
def ST82 := defScope (top 82)
def AT83 := defArgs (top 83)
def BT83 := defBody (top 83)
def ST83 := defScope (top 83)
def AT86 := defArgs (top 86)
def BT86 := defBody (top 86)
def ST86 := defScope (top 86)
def AT89 := defArgs (top 89)
def BT89 := defBody (top 89)
def ST89 := defScope (top 89)
def AT9 := defArgs (top 9)
def BT9 := defBody (top 9)
def ST9 := defScope (top 9)
def AT90 := defArgs (top 90)
def BT90 := defBody (top 90)
def ST90 := defScope (top 90)
def AT91 := defArgs (top 91)
def BT91 := defBody (top 91)
def ST91 := defScope (top 91)
def AT92 := defArgs (top 92)
def BT92 := defBody (top 92)
def ST92 := defScope (top 92)
def AT93 := defArgs (top 93)
def BT93 := defBody (top 93)
def ST93 := defScope (top 93)
def AT94 := defArgs (top 94)
def BT94 := defBody (top 94)
def ST94 := defScope (top 94)
def AT95 := defArgs (top 95)
def BT95 := defBody (top 95)
def ST95 := defScope (top 95)
def AT96 := defArgs (top 96)
def BT96 := defBody (top 96)
def ST96 := defScope (top 96)
def AT97 := defArgs (top 97)
def BT97 := defBody (top 97)
def ST97 := defScope (top 97)
def AT98 := defArgs (top 98)
def BT98 := defBody (top 98)
def ST98 := defScope (top 98)
def AT99 := defArgs (top 99)
def BT99 := defBody (top 99)
def ST99 := defScope (top 99)
def o_1537 : Params → Obj := fun P => { cls := Value.type "dict", data := Data.dict #[{ hash := PyData.keyHash P (Str.ofString "__name__"), key := Value.str (Str.ofString "__name__") 165, val := Value.str (Str.ofString "livehall.ways") 2214 }, { hash := PyData.keyHash P (Str.ofString "__doc__"), key := Value.str (Str.ofString "__doc__") 166, val := Value.none }, { hash := PyData.keyHash P (Str.ofString "__package__"), key := Value.str (Str.ofString "__package__") 167, val := Value.none }, { hash := PyData.keyHash P (Str.ofString "__loader__"), key := Value.str (Str.ofString "__loader__") 168, val := Value.builtin "__main__.__loader__#opaque" }, { hash := PyData.keyHash P (Str.ofString "__spec__"), key := Value.str (Str.ofString "__spec__") 169, val := Value.none }, { hash := PyData.keyHash P (Str.ofString "__annotations__"), key := Value.str (Str.ofString "__annotations__") 170, val := Value.ref 6 }, { hash := PyData.keyHash P (Str.ofString "__builtins__"), key := Value.str (Str.ofString "__builtins__") 171, val := Value.ref 4 }, { hash := PyData.keyHash P (Str.ofString "__file__"), key := Value.str (Str.ofString "__file__") 173, val := Value.str (Str.ofString "/claim/cut.py") 172 }, { hash := PyData.keyHash P (Str.ofString "__cached__"), key := Value.str (Str.ofString "__cached__") 174, val := Value.none }, { hash := PyData.keyHash P (Str.ofString "_wall"), key := Value.str (Str.ofString "_wall") 193, val := Value.ref 21 }, { hash := PyData.keyHash P (Str.ofString "NAME_LETTERS"), key := Value.str (Str.ofString "NAME_LETTERS") 197, val := Value.int 12 196 }, { hash := PyData.keyHash P (Str.ofString "TEXT_SIGNS"), key := Value.str (Str.ofString "TEXT_SIGNS") 199, val := Value.int 40 198 }, { hash := PyData.keyHash P (Str.ofString "all_between"), key := Value.str (Str.ofString "all_between") 205, val := Value.ref 26 }, { hash := PyData.keyHash P (Str.ofString "is_name"), key := Value.str (Str.ofString "is_name") 212, val := Value.ref 33 }, { hash := PyData.keyHash P (Str.ofString "is_short_text"), key := Value.str (Str.ofString "is_short_text") 219, val := Value.ref 40 }, { hash := PyData.keyHash P (Str.ofString "is_plain_value"), key := Value.str (Str.ofString "is_plain_value") 226, val := Value.ref 47 }, { hash := PyData.keyHash P (Str.ofString "is_whole"), key := Value.str (Str.ofString "is_whole") 233, val := Value.ref 54 }, { hash := PyData.keyHash P (Str.ofString "same_leaf"), key := Value.str (Str.ofString "same_leaf") 241, val := Value.ref 61 }, { hash := PyData.keyHash P (Str.ofString "same"), key := Value.str (Str.ofString "same") 252, val := Value.ref 68 }, { hash := PyData.keyHash P (Str.ofString "ROWS"), key := Value.str (Str.ofString "ROWS") 286, val := Value.ref 69 }, { hash := PyData.keyHash P (Str.ofString "ES"), key := Value.str (Str.ofString "ES") 330, val := Value.ref 78 }, { hash := PyData.keyHash P (Str.ofString "MANY"), key := Value.str (Str.ofString "MANY") 337, val := Value.ref 91 }, { hash := PyData.keyHash P (Str.ofString "LEAVES"), key := Value.str (Str.ofString "LEAVES") 343, val := Value.ref 92 }, { hash := PyData.keyHash P (Str.ofString "is_leaf"), key := Value.str (Str.ofString "is_leaf") 351, val := Value.ref 99 }, { hash := PyData.keyHash P (Str.ofString "shape_of"), key := Value.str (Str.ofString "shape_of") 359, val := Value.ref 106 }, { hash := PyData.keyHash P (Str.ofString "parts_of"), key := Value.str (Str.ofString "parts_of") 365, val := Value.ref 111 }, { hash := PyData.keyHash P (Str.ofString "is_body"), key := Value.str (Str.ofString "is_body") 376, val := Value.ref 118 }, { hash := PyData.keyHash P (Str.ofString "parts_in"), key := Value.str (Str.ofString "parts_in") 387, val := Value.ref 125 }, { hash := PyData.keyHash P (Str.ofString "leaves_in"), key := Value.str (Str.ofString "leaves_in") 393, val := Value.ref 130 }, { hash := PyData.keyHash P (Str.ofString "kinds_in"), key := Value.str (Str.ofString "kinds_in") 400, val := Value.ref 137 }, { hash := PyData.keyHash P (Str.ofString "renamed"), key := Value.str (Str.ofString "renamed") 415, val := Value.ref 144 }, { hash := PyData.keyHash P (Str.ofString "HallError"), key := Value.str (Str.ofString "HallError") 435, val := Value.ref 154 }, { hash := PyData.keyHash P (Str.ofString "BadName"), key := Value.str (Str.ofString "BadName") 462, val := Value.ref 176 }, { hash := PyData.keyHash P (Str.ofString "Known"), key := Value.str (Str.ofString "Known") 489, val := Value.ref 197 }, { hash := PyData.keyHash P (Str.ofString "NoKind"), key := Value.str (Str.ofString "NoKind") 516, val := Value.ref 218 }, { hash := PyData.keyHash P (Str.ofString "NoField"), key := Value.str (Str.ofString "NoField") 543, val := Value.ref 239 }, { hash := PyData.keyHash P (Str.ofString "BadField"), key := Value.str (Str.ofString "BadField") 570, val := Value.ref 260 }, { hash := PyData.keyHash P (Str.ofString "Fixed"), key := Value.str (Str.ofString "Fixed") 586, val := Value.ref 272 }, { hash := PyData.keyHash P (Str.ofString "Ring"), key := Value.str (Str.ofString "Ring") 602, val := Value.ref 284 }, { hash := PyData.keyHash P (Str.ofString "InUse"), key := Value.str (Str.ofString "InUse") 618, val := Value.ref 296 }, { hash := PyData.keyHash P (Str.ofString "BadBody"), key := Value.str (Str.ofString "BadBody") 634, val := Value.ref 308 }, { hash := PyData.keyHash P (Str.ofString "NoWay"), key := Value.str (Str.ofString "NoWay") 650, val := Value.ref 320 }, { hash := PyData.keyHash P (Str.ofString "NoThing"), key := Value.str (Str.ofString "NoThing") 666, val := Value.ref 332 }, { hash := PyData.keyHash P (Str.ofString "BadValue"), key := Value.str (Str.ofString "BadValue") 682, val := Value.ref 344 }, { hash := PyData.keyHash P (Str.ofString "NoName"), key := Value.str (Str.ofString "NoName") 709, val := Value.ref 365 }, { hash := PyData.keyHash P (Str.ofString "Same"), key := Value.str (Str.ofString "Same") 725, val := Value.ref 377 }, { hash := PyData.keyHash P (Str.ofString "NoRun"), key := Value.str (Str.ofString "NoRun") 741, val := Value.ref 389 }, { hash := PyData.keyHash P (Str.ofString "Ended"), key := Value.str (Str.ofString "Ended") 757, val := Value.ref 401 }, { hash := PyData.keyHash P (Str.ofString "NoAsk"), key := Value.str (Str.ofString "NoAsk") 773, val := Value.ref 413 }, { hash := PyData.keyHash P (Str.ofString "NoFrame"), key := Value.str (Str.ofString "NoFrame") 789, val := Value.ref 425 }, { hash := PyData.keyHash P (Str.ofString "NoBack"), key := Value.str (Str.ofString "NoBack") 805, val := Value.ref 437 }, { hash := PyData.keyHash P (Str.ofString "NoText"), key := Value.str (Str.ofString "NoText") 821, val := Value.ref 449 }, { hash := PyData.keyHash P (Str.ofString "PAIRS"), key := Value.str (Str.ofString "PAIRS") 829, val := Value.ref 452 }, { hash := PyData.keyHash P (Str.ofString "Builder"), key := Value.str (Str.ofString "Builder") 890, val := Value.ref 495 }, { hash := PyData.keyHash P (Str.ofString "when_orders"), key := Value.str (Str.ofString "when_orders") 900, val := Value.ref 506 }, { hash := PyData.keyHash P (Str.ofString "while_orders"), key := Value.str (Str.ofString "while_orders") 910, val := Value.ref 513 }, { hash := PyData.keyHash P (Str.ofString "try_orders"), key := Value.str (Str.ofString "try_orders") 920, val := Value.ref 520 }, { hash := PyData.keyHash P (Str.ofString "row_orders"), key := Value.str (Str.ofString "row_orders") 928, val := Value.ref 527 }, { hash := PyData.keyHash P (Str.ofString "e_orders"), key := Value.str (Str.ofString "e_orders") 934, val := Value.ref 532 }, { hash := PyData.keyHash P (Str.ofString "steps_of"), key := Value.str (Str.ofString "steps_of") 940, val := Value.ref 537 }, { hash := PyData.keyHash P (Str.ofString "Way"), key := Value.str (Str.ofString "Way") 973, val := Value.ref 554 }, { hash := PyData.keyHash P (Str.ofString "Frame"), key := Value.str (Str.ofString "Frame") 1017, val := Value.ref 575 }, { hash := PyData.keyHash P (Str.ofString "Run"), key := Value.str (Str.ofString "Run") 1048, val := Value.ref 596 }, { hash := PyData.keyHash P (Str.ofString "first_frame"), key := Value.str (Str.ofString "first_frame") 1054, val := Value.ref 605 }, { hash := PyData.keyHash P (Str.ofString "copied"), key := Value.str (Str.ofString "copied") 1062, val := Value.ref 612 }, { hash := PyData.keyHash P (Str.ofString "chain"), key := Value.str (Str.ofString "chain") 1071, val := Value.ref 619 }, { hash := PyData.keyHash P (Str.ofString "begun"), key := Value.str (Str.ofString "begun") 1078, val := Value.ref 626 }, { hash := PyData.keyHash P (Str.ofString "halted_runs"), key := Value.str (Str.ofString "halted_runs") 1084, val := Value.ref 631 }, { hash := PyData.keyHash P (Str.ofString "change_frames"), key := Value.str (Str.ofString "change_frames") 1097, val := Value.ref 638 }, { hash := PyData.keyHash P (Str.ofString "frame_values"), key := Value.str (Str.ofString "frame_values") 1104, val := Value.ref 645 }, { hash := PyData.keyHash P (Str.ofString "run_values"), key := Value.str (Str.ofString "run_values") 1110, val := Value.ref 650 }, { hash := PyData.keyHash P (Str.ofString "step_of"), key := Value.str (Str.ofString "step_of") 1117, val := Value.ref 657 }, { hash := PyData.keyHash P (Str.ofString "ready_ask"), key := Value.str (Str.ofString "ready_ask") 1127, val := Value.ref 664 }, { hash := PyData.keyHash P (Str.ofString "take_ready"), key := Value.str (Str.ofString "take_ready") 1136, val := Value.ref 671 }, { hash := PyData.keyHash P (Str.ofString "put_ready"), key := Value.str (Str.ofString "put_ready") 1145, val := Value.ref 678 }, { hash := PyData.keyHash P (Str.ofString "kind_number"), key := Value.str (Str.ofString "kind_number") 1155, val := Value.ref 685 }, { hash := PyData.keyHash P (Str.ofString "kind_name"), key := Value.str (Str.ofString "kind_name") 1163, val := Value.ref 692 }, { hash := PyData.keyHash P (Str.ofString "kind_names"), key := Value.str (Str.ofString "kind_names") 1169, val := Value.ref 697 }, { hash := PyData.keyHash P (Str.ofString "line_numbers"), key := Value.str (Str.ofString "line_numbers") 1178, val := Value.ref 704 }, { hash := PyData.keyHash P (Str.ofString "heirs_by_elder"), key := Value.str (Str.ofString "heirs_by_elder") 1187, val := Value.ref 711 }, { hash := PyData.keyHash P (Str.ofString "heir_numbers"), key := Value.str (Str.ofString "heir_numbers") 1195, val := Value.ref 718 }, { hash := PyData.keyHash P (Str.ofString "numbers_below"), key := Value.str (Str.ofString "numbers_below") 1207, val := Value.ref 725 }, { hash := PyData.keyHash P (Str.ofString "line_fields"), key := Value.str (Str.ofString "line_fields") 1217, val := Value.ref 732 }, { hash := PyData.keyHash P (Str.ofString "line_weak"), key := Value.str (Str.ofString "line_weak") 1227, val := Value.ref 739 }, { hash := PyData.keyHash P (Str.ofString "own_fields"), key := Value.str (Str.ofString "own_fields") 1233, val := Value.ref 744 }, { hash := PyData.keyHash P (Str.ofString "finder"), key := Value.str (Str.ofString "finder") 1243, val := Value.ref 751 }, { hash := PyData.keyHash P (Str.ofString "things_of"), key := Value.str (Str.ofString "things_of") 1249, val := Value.ref 756 }, { hash := PyData.keyHash P (Str.ofString "Kind"), key := Value.str (Str.ofString "Kind") 1288, val := Value.ref 773 }, { hash := PyData.keyHash P (Str.ofString "lay_row"), key := Value.str (Str.ofString "lay_row") 1297, val := Value.ref 784 }, { hash := PyData.keyHash P (Str.ofString "Store"), key := Value.str (Str.ofString "Store") 1373, val := Value.ref 829 }, { hash := PyData.keyHash P (Str.ofString "check_new_name"), key := Value.str (Str.ofString "check_new_name") 1383, val := Value.ref 840 }, { hash := PyData.keyHash P (Str.ofString "check_own_fields"), key := Value.str (Str.ofString "check_own_fields") 1393, val := Value.ref 847 }, { hash := PyData.keyHash P (Str.ofString "make_kind"), key := Value.str (Str.ofString "make_kind") 1399, val := Value.ref 852 }, { hash := PyData.keyHash P (Str.ofString "check_gone"), key := Value.str (Str.ofString "check_gone") 1408, val := Value.ref 859 }, { hash := PyData.keyHash P (Str.ofString "check_come"), key := Value.str (Str.ofString "check_come") 1418, val := Value.ref 866 }, { hash := PyData.keyHash P (Str.ofString "refit"), key := Value.str (Str.ofString "refit") 1424, val := Value.ref 871 }, { hash := PyData.keyHash P (Str.ofString "renamed_way"), key := Value.str (Str.ofString "renamed_way") 1430, val := Value.ref 876 }, { hash := PyData.keyHash P (Str.ofString "rename_in_kinds"), key := Value.str (Str.ofString "rename_in_kinds") 1436, val := Value.ref 881 }, { hash := PyData.keyHash P (Str.ofString "rename_fields"), key := Value.str (Str.ofString "rename_fields") 1442, val := Value.ref 886 }, { hash := PyData.keyHash P (Str.ofString "rename_made"), key := Value.str (Str.ofString "rename_made") 1453, val := Value.ref 893 }, { hash := PyData.keyHash P (Str.ofString "reshape"), key := Value.str (Str.ofString "reshape") 1459, val := Value.ref 898 }, { hash := PyData.keyHash P (Str.ofString "move_kind"), key := Value.str (Str.ofString "move_kind") 1474, val := Value.ref 905 }, { hash := PyData.keyHash P (Str.ofString "rename_kind"), key := Value.str (Str.ofString "rename_kind") 1485, val := Value.ref 912 }, { hash := PyData.keyHash P (Str.ofString "is_made"), key := Value.str (Str.ofString "is_made") 1491, val := Value.ref 917 }, { hash := PyData.keyHash P (Str.ofString "drop_kind"), key := Value.str (Str.ofString "drop_kind") 1500, val := Value.ref 924 }, { hash := PyData.keyHash P (Str.ofString "KIND_DEEDS"), key := Value.str (Str.ofString "KIND_DEEDS") 1511, val := Value.ref 925 }, { hash := PyData.keyHash P (Str.ofString "is_there"), key := Value.str (Str.ofString "is_there") 1521, val := Value.ref 932 }, { hash := PyData.keyHash P (Str.ofString "check_value"), key := Value.str (Str.ofString "check_value") 1529, val := Value.ref 939 }, { hash := PyData.keyHash P (Str.ofString "thing_number"), key := Value.str (Str.ofString "thing_number") 1537, val := Value.ref 946 }, { hash := PyData.keyHash P (Str.ofString "fields_with"), key := Value.str (Str.ofString "fields_with") 1547, val := Value.ref 953 }, { hash := PyData.keyHash P (Str.ofString "new_thing"), key := Value.str (Str.ofString "new_thing") 1553, val := Value.ref 958 }, { hash := PyData.keyHash P (Str.ofString "write_field"), key := Value.str (Str.ofString "write_field") 1566, val := Value.ref 965 }, { hash := PyData.keyHash P (Str.ofString "make"), key := Value.str (Str.ofString "make") 1574, val := Value.ref 972 }, { hash := PyData.keyHash P (Str.ofString "put"), key := Value.str (Str.ofString "put") 1584, val := Value.ref 979 }, { hash := PyData.keyHash P (Str.ofString "hold"), key := Value.str (Str.ofString "hold") 1593, val := Value.ref 986 }, { hash := PyData.keyHash P (Str.ofString "let_go"), key := Value.str (Str.ofString "let_go") 1601, val := Value.ref 993 }, { hash := PyData.keyHash P (Str.ofString "leads"), key := Value.str (Str.ofString "leads") 1609, val := Value.ref 1000 }, { hash := PyData.keyHash P (Str.ofString "led"), key := Value.str (Str.ofString "led") 1617, val := Value.ref 1007 }, { hash := PyData.keyHash P (Str.ofString "lead_fields"), key := Value.str (Str.ofString "lead_fields") 1623, val := Value.ref 1012 }, { hash := PyData.keyHash P (Str.ofString "lead_names"), key := Value.str (Str.ofString "lead_names") 1632, val := Value.ref 1019 }, { hash := PyData.keyHash P (Str.ofString "lead_runs"), key := Value.str (Str.ofString "lead_runs") 1644, val := Value.ref 1026 }, { hash := PyData.keyHash P (Str.ofString "lead_elsewhere"), key := Value.str (Str.ofString "lead_elsewhere") 1652, val := Value.ref 1033 }, { hash := PyData.keyHash P (Str.ofString "swap"), key := Value.str (Str.ofString "swap") 1663, val := Value.ref 1040 }, { hash := PyData.keyHash P (Str.ofString "forward"), key := Value.str (Str.ofString "forward") 1674, val := Value.ref 1047 }, { hash := PyData.keyHash P (Str.ofString "field_told"), key := Value.str (Str.ofString "field_told") 1683, val := Value.ref 1054 }, { hash := PyData.keyHash P (Str.ofString "held_told"), key := Value.str (Str.ofString "held_told") 1689, val := Value.ref 1059 }, { hash := PyData.keyHash P (Str.ofString "THING_DEEDS"), key := Value.str (Str.ofString "THING_DEEDS") 1702, val := Value.ref 1060 }, { hash := PyData.keyHash P (Str.ofString "led_number"), key := Value.str (Str.ofString "led_number") 1711, val := Value.ref 1067 }, { hash := PyData.keyHash P (Str.ofString "roots"), key := Value.str (Str.ofString "roots") 1717, val := Value.ref 1072 }, { hash := PyData.keyHash P (Str.ofString "leading_fields"), key := Value.str (Str.ofString "leading_fields") 1723, val := Value.ref 1077 }, { hash := PyData.keyHash P (Str.ofString "steps_from"), key := Value.str (Str.ofString "steps_from") 1729, val := Value.ref 1082 }, { hash := PyData.keyHash P (Str.ofString "reached"), key := Value.str (Str.ofString "reached") 1735, val := Value.ref 1087 }, { hash := PyData.keyHash P (Str.ofString "kept_by"), key := Value.str (Str.ofString "kept_by") 1741, val := Value.ref 1092 }, { hash := PyData.keyHash P (Str.ofString "sweep"), key := Value.str (Str.ofString "sweep") 1747, val := Value.ref 1097 }, { hash := PyData.keyHash P (Str.ofString "SWEEP_DEEDS"), key := Value.str (Str.ofString "SWEEP_DEEDS") 1750, val := Value.ref 1098 }, { hash := PyData.keyHash P (Str.ofString "HALTS"), key := Value.str (Str.ofString "HALTS") 1756, val := Value.ref 1099 }, { hash := PyData.keyHash P (Str.ofString "Runner"), key := Value.str (Str.ofString "Runner") 1846, val := Value.ref 1165 }, { hash := PyData.keyHash P (Str.ofString "do_value"), key := Value.str (Str.ofString "do_value") 1854, val := Value.ref 1176 }, { hash := PyData.keyHash P (Str.ofString "do_self"), key := Value.str (Str.ofString "do_self") 1862, val := Value.ref 1183 }, { hash := PyData.keyHash P (Str.ofString "do_name"), key := Value.str (Str.ofString "do_name") 1870, val := Value.ref 1190 }, { hash := PyData.keyHash P (Str.ofString "has_field"), key := Value.str (Str.ofString "has_field") 1878, val := Value.ref 1197 }, { hash := PyData.keyHash P (Str.ofString "do_field"), key := Value.str (Str.ofString "do_field") 1886, val := Value.ref 1204 }, { hash := PyData.keyHash P (Str.ofString "do_new"), key := Value.str (Str.ofString "do_new") 1895, val := Value.ref 1211 }, { hash := PyData.keyHash P (Str.ofString "do_same"), key := Value.str (Str.ofString "do_same") 1905, val := Value.ref 1218 }, { hash := PyData.keyHash P (Str.ofString "counted"), key := Value.str (Str.ofString "counted") 1914, val := Value.ref 1225 }, { hash := PyData.keyHash P (Str.ofString "do_count"), key := Value.str (Str.ofString "do_count") 1924, val := Value.ref 1232 }, { hash := PyData.keyHash P (Str.ofString "do_do"), key := Value.str (Str.ofString "do_do") 1932, val := Value.ref 1239 }, { hash := PyData.keyHash P (Str.ofString "do_let"), key := Value.str (Str.ofString "do_let") 1940, val := Value.ref 1246 }, { hash := PyData.keyHash P (Str.ofString "do_put"), key := Value.str (Str.ofString "do_put") 1949, val := Value.ref 1253 }, { hash := PyData.keyHash P (Str.ofString "do_give"), key := Value.str (Str.ofString "do_give") 1957, val := Value.ref 1260 }, { hash := PyData.keyHash P (Str.ofString "do_raise"), key := Value.str (Str.ofString "do_raise") 1965, val := Value.ref 1267 }, { hash := PyData.keyHash P (Str.ofString "jump"), key := Value.str (Str.ofString "jump") 1974, val := Value.ref 1274 }, { hash := PyData.keyHash P (Str.ofString "do_branch"), key := Value.str (Str.ofString "do_branch") 1983, val := Value.ref 1281 }, { hash := PyData.keyHash P (Str.ofString "do_jump"), key := Value.str (Str.ofString "do_jump") 1991, val := Value.ref 1288 }, { hash := PyData.keyHash P (Str.ofString "ACTIONS"), key := Value.str (Str.ofString "ACTIONS") 2026, val := Value.ref 1289 }, { hash := PyData.keyHash P (Str.ofString "go_on"), key := Value.str (Str.ofString "go_on") 2035, val := Value.ref 1296 }, { hash := PyData.keyHash P (Str.ofString "first_looked"), key := Value.str (Str.ofString "first_looked") 2044, val := Value.ref 1303 }, { hash := PyData.keyHash P (Str.ofString "begin_way"), key := Value.str (Str.ofString "begin_way") 2058, val := Value.ref 1310 }, { hash := PyData.keyHash P (Str.ofString "beat"), key := Value.str (Str.ofString "beat") 2065, val := Value.ref 1317 }, { hash := PyData.keyHash P (Str.ofString "run_row"), key := Value.str (Str.ofString "run_row") 2075, val := Value.ref 1324 }, { hash := PyData.keyHash P (Str.ofString "halted_row"), key := Value.str (Str.ofString "halted_row") 2084, val := Value.ref 1331 }, { hash := PyData.keyHash P (Str.ofString "state_told"), key := Value.str (Str.ofString "state_told") 2093, val := Value.ref 1338 }, { hash := PyData.keyHash P (Str.ofString "keep_on"), key := Value.str (Str.ofString "keep_on") 2102, val := Value.ref 1345 }, { hash := PyData.keyHash P (Str.ofString "start"), key := Value.str (Str.ofString "start") 2114, val := Value.ref 1352 }, { hash := PyData.keyHash P (Str.ofString "end"), key := Value.str (Str.ofString "end") 2122, val := Value.ref 1359 }, { hash := PyData.keyHash P (Str.ofString "go"), key := Value.str (Str.ofString "go") 2133, val := Value.ref 1366 }, { hash := PyData.keyHash P (Str.ofString "give"), key := Value.str (Str.ofString "give") 2144, val := Value.ref 1373 }, { hash := PyData.keyHash P (Str.ofString "waits_for_ask"), key := Value.str (Str.ofString "waits_for_ask") 2151, val := Value.ref 1380 }, { hash := PyData.keyHash P (Str.ofString "answer"), key := Value.str (Str.ofString "answer") 2162, val := Value.ref 1387 }, { hash := PyData.keyHash P (Str.ofString "fault"), key := Value.str (Str.ofString "fault") 2173, val := Value.ref 1394 }, { hash := PyData.keyHash P (Str.ofString "redo"), key := Value.str (Str.ofString "redo") 2186, val := Value.ref 1401 }, { hash := PyData.keyHash P (Str.ofString "frame_told"), key := Value.str (Str.ofString "frame_told") 2192, val := Value.ref 1406 }, { hash := PyData.keyHash P (Str.ofString "frames_told"), key := Value.str (Str.ofString "frames_told") 2198, val := Value.ref 1411 }, { hash := PyData.keyHash P (Str.ofString "RUN_DEEDS"), key := Value.str (Str.ofString "RUN_DEEDS") 2213, val := Value.ref 1412 }, { hash := PyData.keyHash P (Str.ofString "write_ways"), key := Value.str (Str.ofString "write_ways") 2225, val := Value.ref 1419 }, { hash := PyData.keyHash P (Str.ofString "check_way"), key := Value.str (Str.ofString "check_way") 2237, val := Value.ref 1426 }] 176 }
def o_1142 : Params → Obj := fun P => { cls := Value.type "tuple", data := Data.seq #[Value.str (Str.ofString "others") 1641] }
def o_1412 : Params → Obj := fun P => { cls := Value.none, data := Data.func { name := Str.ofString "do_branch", qualname := Str.ofString "do_branch", params := AT154, body := FuncBody.stmts BT154, scope := ST154, globals := 0, closure := [], defaults := Value.none, kwdefaults := Value.none } }
def o_1278 : Params → Obj := fun P => { cls := Value.type "tuple", data := Data.seq #[Value.str (Str.ofString "self") 1820, Value.str (Str.ofString "value") 1821, Value.str (Str.ofString "below") 1822] }
def o_1209 : Params → Obj := fun P => { cls := Value.type "function", data := Data.func { name := Str.ofString "reached", qualname := Str.ofString "reached", params := AT132, body := FuncBody.stmts BT132, scope := ST132, globals := 3, closure := [], defaults := Value.none, kwdefaults := Value.none, pyModule := Value.str (Str.ofString "livehall.reach") 1703, code := Value.ref 1086 } }
def o_1484 : Params → Obj := fun P => { cls := Value.none, data := Data.func { name := Str.ofString "keep_on", qualname := Str.ofString "keep_on", params := AT165, body := FuncBody.stmts BT165, scope := ST165, globals := 0, closure := [], defaults := Value.none, kwdefaults := Value.none } }
def o_1313 : Params → Obj := fun P => { cls := Value.type "function", data := Data.func { name := Str.ofString "do_self", qualname := Str.ofString "do_self", params := AT140, body := FuncBody.stmts BT140, scope := ST140, globals := 3, closure := [], defaults := Value.none, kwdefaults := Value.none, pyModule := Value.str (Str.ofString "livehall.runner") 1751, code := Value.ref 1182 } }
def o_1246 : Params → Obj := fun P => { cls := Value.type "code", data := Data.fields #[Value.str (Str.ofString "row") 1778, Value.str (Str.ofString "Runner.row") 1779, Value.str (Str.ofString "/claim/cut.py") 1780, Value.int 661 0, Value.int 1 0, Value.int 0 0, Value.int 0 0, Value.int 3 0, Value.ref 1114, Value.bool true, Value.int 181 0, Value.ref 1115, Value.none, Value.ref 1116, Value.ref 1117, Value.ref 1118, Value.int 1782 0, Value.int 661 0, Value.str (Str.ofString "/claim/cut.py") 1783] }
def o_1110 : Params → Obj := fun P => { cls := Value.none, data := Data.func { name := Str.ofString "let_go", qualname := Str.ofString "let_go", params := AT115, body := FuncBody.stmts BT115, scope := ST115, globals := 0, closure := [], defaults := Value.none, kwdefaults := Value.none } }
def o_1158 : Params → Obj := fun P => { cls := Value.type "code", data := Data.fields #[Value.str (Str.ofString "swap") 1653, Value.str (Str.ofString "swap") 1654, Value.str (Str.ofString "/claim/cut.py") 1655, Value.int 587 0, Value.int 3 0, Value.int 0 0, Value.int 0 0, Value.int 3 0, Value.ref 1034, Value.bool true, Value.int 181 0, Value.ref 1035, Value.none, Value.ref 1036, Value.ref 1037, Value.ref 1038, Value.int 1661 0, Value.int 587 0, Value.str (Str.ofString "/claim/cut.py") 1662] }
def o_1431 : Params → Obj := fun P => { cls := Value.type "code", data := Data.fields #[Value.str (Str.ofString "go_on") 2027, Value.str (Str.ofString "go_on") 2028, Value.str (Str.ofString "/claim/cut.py") 2029, Value.int 764 0, Value.int 1 0, Value.int 0 0, Value.int 0 0, Value.int 3 0, Value.ref 1290, Value.bool true, Value.int 181 0, Value.ref 1291, Value.none, Value.ref 1292, Value.ref 1293, Value.ref 1294, Value.int 2033 0, Value.int 764 0, Value.str (Str.ofString "/claim/cut.py") 2034] }
def o_1294 : Params → Obj := fun P => { cls := Value.type "getset_descriptor", data := Data.fields #[Value.str (Str.ofString "__weakref__") 1842, Value.ref 1165, Value.builtin "ExceptionGroup.__weakref__", Value.none] }
def o_1500 : Params → Obj := fun P => { cls := Value.type "function", data := Data.func { name := Str.ofString "end", qualname := Str.ofString "end", params := AT167, body := FuncBody.stmts BT167, scope := ST167, globals := 3, closure := [], defaults := Value.none, kwdefaults := Value.none, pyModule := Value.str (Str.ofString "livehall.runs") 2066, code := Value.ref 1358 } }
def o_1361 : Params → Obj := fun P => { cls := Value.type "code", data := Data.fields #[Value.str (Str.ofString "do_count") 1915, Value.str (Str.ofString "do_count") 1916, Value.str (Str.ofString "/claim/cut.py") 1917, Value.int 726 0, Value.int 2 0, Value.int 0 0, Value.int 0 0, Value.int 3 0, Value.ref 1226, Value.bool true, Value.int 181 0, Value.ref 1227, Value.none, Value.ref 1228, Value.ref 1229, Value.ref 1230, Value.int 1922 0, Value.int 726 0, Value.str (Str.ofString "/claim/cut.py") 1923] }
def o_1094 : Params → Obj := fun P => { cls := Value.type "tuple", data := Data.seq #[Value.str (Str.ofString "store") 1578, Value.str (Str.ofString "thing") 1579, Value.str (Str.ofString "field") 1580, Value.str (Str.ofString "value") 1581] }
def o_1193 : Params → Obj := fun P => { cls := Value.type "code", data := Data.fields #[Value.str (Str.ofString "roots") 1712, Value.str (Str.ofString "roots") 1713, Value.str (Str.ofString "/claim/cut.py") 1714, Value.int 606 0, Value.int 1 0, Value.int 0 0, Value.int 0 0, Value.int 3 0, Value.ref 1068, Value.bool true, Value.int 181 0, Value.ref 1069, Value.none, Value.none, Value.none, Value.ref 1070, Value.int 1715 0, Value.int 606 0, Value.str (Str.ofString "/claim/cut.py") 1716] }
def o_1468 : Params → Obj := fun P => { cls := Value.type "tuple", data := Data.seq #[Value.str (Str.ofString "store") 2079, Value.str (Str.ofString "run") 2080, Value.str (Str.ofString "row") 2081] }
def o_1396 : Params → Obj := fun P => { cls := Value.type "tuple", data := Data.seq #[Value.str (Str.ofString "runner") 1961, Value.str (Str.ofString "step") 1962] }
def o_1126 : Params → Obj := fun P => { cls := Value.type "function", data := Data.func { name := Str.ofString "led", qualname := Str.ofString "led", params := AT117, body := FuncBody.stmts BT117, scope := ST117, globals := 3, closure := [], defaults := Value.none, kwdefaults := Value.none, pyModule := Value.str (Str.ofString "livehall.things") 1512, code := Value.ref 1006 } }
def o_1150 : Params → Obj := fun P => { cls := Value.none, data := Data.func { name := Str.ofString "lead_elsewhere", qualname := Str.ofString "lead_elsewhere", params := AT121, body := FuncBody.stmts BT121, scope := ST121, globals := 0, closure := [], defaults := Value.none, kwdefaults := Value.none } }
def o_1420 : Params → Obj := fun P => { cls := Value.type "code", data := Data.fields #[Value.str (Str.ofString "do_jump") 1984, Value.str (Str.ofString "do_jump") 1985, Value.str (Str.ofString "/claim/cut.py") 1986, Value.int 761 0, Value.int 2 0, Value.int 0 0, Value.int 0 0, Value.int 3 0, Value.ref 1282, Value.bool true, Value.int 181 0, Value.ref 1283, Value.none, Value.ref 1284, Value.ref 1285, Value.ref 1286, Value.int 1989 0, Value.int 761 0, Value.str (Str.ofString "/claim/cut.py") 1990] }
def o_1559 : Params → Obj := fun P => { cls := Value.type "tuple", data := Data.seq #[Value.str (Str.ofString "store") 2219, Value.str (Str.ofString "number") 2220, Value.str (Str.ofString "ways") 2221, Value.str (Str.ofString "row") 2222] }
def o_1217 : Params → Obj := fun P => { cls := Value.none, data := Data.func { name := Str.ofString "sweep", qualname := Str.ofString "sweep", params := AT134, body := FuncBody.stmts BT134, scope := ST134, globals := 0, closure := [], defaults := Value.none, kwdefaults := Value.none } }
def o_1492 : Params → Obj := fun P => { cls := Value.type "code", data := Data.fields #[Value.str (Str.ofString "start") 2103, Value.str (Str.ofString "start") 2104, Value.str (Str.ofString "/claim/cut.py") 2105, Value.int 808 0, Value.int 4 0, Value.int 0 0, Value.int 0 0, Value.int 3 0, Value.ref 1346, Value.bool true, Value.int 181 0, Value.ref 1347, Value.none, Value.ref 1348, Value.ref 1349, Value.ref 1350, Value.int 2112 0, Value.int 808 0, Value.str (Str.ofString "/claim/cut.py") 2113] }
def o_1353 : Params → Obj := fun P => { cls := Value.none, data := Data.func { name := Str.ofString "counted", qualname := Str.ofString "counted", params := AT146, body := FuncBody.stmts BT146, scope := ST146, globals := 0, closure := [], defaults := Value.none, kwdefaults := Value.none } }
def o_1185 : Params → Obj := fun P => { cls := Value.type "tuple", data := Data.seq #[Value.str (Str.ofString "value") 1708] }
def o_1049 : Params → Obj := fun P => { cls := Value.type "tuple", data := Data.seq #[Value.str (Str.ofString "store") 1525, Value.str (Str.ofString "value") 1526] }
def o_1254 : Params → Obj := fun P => { cls := Value.type "function", data := Data.func { name := Str.ofString "finish", qualname := Str.ofString "Runner.finish", params := AM138x2, body := FuncBody.stmts BM138x2, scope := SM138x2, globals := 3, closure := [], defaults := Value.none, kwdefaults := Value.none, pyModule := Value.str (Str.ofString "livehall.runner") 1751, code := Value.ref 1126 } }
def o_1524 : Params → Obj := fun P => { cls := Value.type "tuple", data := Data.seq #[Value.str (Str.ofString "store") 2155, Value.str (Str.ofString "run") 2156, Value.str (Str.ofString "value") 2157, Value.str (Str.ofString "row") 2158, Value.str (Str.ofString "runner") 2159] }
def o_1118 : Params → Obj := fun P => { cls := Value.type "code", data := Data.fields #[Value.str (Str.ofString "leads") 1602, Value.str (Str.ofString "leads") 1603, Value.str (Str.ofString "/claim/cut.py") 1604, Value.int 559 0, Value.int 2 0, Value.int 0 0, Value.int 0 0, Value.int 3 0, Value.ref 994, Value.bool true, Value.int 181 0, Value.ref 995, Value.none, Value.ref 996, Value.ref 997, Value.ref 998, Value.int 1607 0, Value.int 559 0, Value.str (Str.ofString "/claim/cut.py") 1608] }
def o_1166 : Params → Obj := fun P => { cls := Value.type "function", data := Data.func { name := Str.ofString "forward", qualname := Str.ofString "forward", params := AT123, body := FuncBody.stmts BT123, scope := ST123, globals := 3, closure := [], defaults := Value.none, kwdefaults := Value.none, pyModule := Value.str (Str.ofString "livehall.things") 1512, code := Value.ref 1046 } }
def o_1439 : Params → Obj := fun P => { cls := Value.type "function", data := Data.func { name := Str.ofString "first_looked", qualname := Str.ofString "first_looked", params := AT158, body := FuncBody.stmts BT158, scope := ST158, globals := 3, closure := [], defaults := Value.none, kwdefaults := Value.none, pyModule := Value.str (Str.ofString "livehall.runner") 1751, code := Value.ref 1302 } }
def o_1305 : Params → Obj := fun P => { cls := Value.type "code", data := Data.fields #[Value.str (Str.ofString "do_value") 1847, Value.str (Str.ofString "do_value") 1848, Value.str (Str.ofString "/claim/cut.py") 1849, Value.int 698 0, Value.int 2 0, Value.int 0 0, Value.int 0 0, Value.int 3 0, Value.ref 1170, Value.bool true, Value.int 181 0, Value.ref 1171, Value.none, Value.ref 1172, Value.ref 1173, Value.ref 1174, Value.int 1852 0, Value.int 698 0, Value.str (Str.ofString "/claim/cut.py") 1853] }
def o_1238 : Params → Obj := fun P => { cls := Value.none, data := Data.func { name := Str.ofString "__init__", qualname := Str.ofString "Runner.__init__", params := AM138x0, body := FuncBody.stmts BM138x0, scope := SM138x0, globals := 0, closure := [], defaults := Value.none, kwdefaults := Value.none } }
def o_1369 : Params → Obj := fun P => { cls := Value.type "function", data := Data.func { name := Str.ofString "do_do", qualname := Str.ofString "do_do", params := AT148, body := FuncBody.stmts BT148, scope := ST148, globals := 3, closure := [], defaults := Value.none, kwdefaults := Value.none, pyModule := Value.str (Str.ofString "livehall.runner") 1751, code := Value.ref 1238 } }
def o_1337 : Params → Obj := fun P => { cls := Value.type "tuple", data := Data.seq #[Value.str (Str.ofString "runner") 1890, Value.str (Str.ofString "step") 1891, Value.str (Str.ofString "store") 1892] }
def o_1065 : Params → Obj := fun P => { cls := Value.none, data := Data.func { name := Str.ofString "fields_with", qualname := Str.ofString "fields_with", params := AT109, body := FuncBody.stmts BT109, scope := ST109, globals := 0, closure := [], defaults := Value.none, kwdefaults := Value.none } }
def o_1543 : Params → Obj := fun P => { cls := Value.none, data := Data.func { name := Str.ofString "redo", qualname := Str.ofString "redo", params := AT173, body := FuncBody.stmts BT173, scope := ST173, globals := 0, closure := [], defaults := Value.none, kwdefaults := Value.none } }
def o_1134 : Params → Obj := fun P => { cls := Value.type "tuple", data := Data.seq #[Value.str (Str.ofString "store") 1627, Value.str (Str.ofString "others") 1628, Value.str (Str.ofString "name") 1629] }
def o_1282 : Params → Obj := fun P => { cls := Value.type "function", data := Data.func { name := Str.ofString "end_way", qualname := Str.ofString "Runner.end_way", params := AM138x6, body := FuncBody.stmts BM138x6, scope := SM138x6, globals := 3, closure := [], defaults := Value.none, kwdefaults := Value.none, pyModule := Value.str (Str.ofString "livehall.runner") 1751, code := Value.ref 1154 } }
def o_1555 : Params → Obj := fun P => { cls := Value.type "function", data := Data.func { name := Str.ofString "frames_told", qualname := Str.ofString "frames_told", params := AT175, body := FuncBody.stmts BT175, scope := ST175, globals := 3, closure := [], defaults := Value.none, kwdefaults := Value.none, pyModule := Value.str (Str.ofString "livehall.runs") 2066, code := Value.ref 1410 } }
def o_1213 : Params → Obj := fun P => { cls := Value.type "code", data := Data.fields #[Value.str (Str.ofString "kept_by") 1736, Value.str (Str.ofString "kept_by") 1737, Value.str (Str.ofString "/claim/cut.py") 1738, Value.int 636 0, Value.int 2 0, Value.int 0 0, Value.int 0 0, Value.int 3 0, Value.ref 1088, Value.bool true, Value.int 181 0, Value.ref 1089, Value.none, Value.none, Value.none, Value.ref 1090, Value.int 1739 0, Value.int 636 0, Value.str (Str.ofString "/claim/cut.py") 1740] }
def o_1077 : Params → Obj := fun P => { cls := Value.none, data := Data.func { name := Str.ofString "write_field", qualname := Str.ofString "write_field", params := AT111, body := FuncBody.stmts BT111, scope := ST111, globals := 0, closure := [], defaults := Value.none, kwdefaults := Value.none } }
def o_1178 : Params → Obj := fun P => { cls := Value.type "function", data := Data.func { name := Str.ofString "held_told", qualname := Str.ofString "held_told", params := AT125, body := FuncBody.stmts BT125, scope := ST125, globals := 3, closure := [], defaults := Value.none, kwdefaults := Value.none, pyModule := Value.str (Str.ofString "livehall.things") 1512, code := Value.ref 1058 } }
def o_1456 : Params → Obj := fun P => { cls := Value.none, data := Data.func { name := Str.ofString "beat", qualname := Str.ofString "beat", params := AT160, body := FuncBody.stmts BT160, scope := ST160, globals := 0, closure := [], defaults := Value.none, kwdefaults := Value.none } }
def o_1045 : Params → Obj := fun P => { cls := Value.type "code", data := Data.fields #[Value.str (Str.ofString "is_there") 1514, Value.str (Str.ofString "is_there") 1515, Value.str (Str.ofString "/claim/cut.py") 1516, Value.int 519 0, Value.int 2 0, Value.int 0 0, Value.int 0 0, Value.int 3 0, Value.ref 926, Value.bool true, Value.int 181 0, Value.ref 927, Value.none, Value.ref 928, Value.ref 929, Value.ref 930, Value.int 1519 0, Value.int 519 0, Value.str (Str.ofString "/claim/cut.py") 1520] }
def o_1250 : Params → Obj := fun P => { cls := Value.type "tuple", data := Data.seq #[Value.str (Str.ofString "self") 1788, Value.str (Str.ofString "word") 1789, Value.str (Str.ofString "value") 1790] }
def o_1520 : Params → Obj := fun P => { cls := Value.type "code", data := Data.fields #[Value.str (Str.ofString "waits_for_ask") 2145, Value.str (Str.ofString "waits_for_ask") 2146, Value.str (Str.ofString "/claim/cut.py") 2147, Value.int 834 0, Value.int 1 0, Value.int 0 0, Value.int 0 0, Value.int 3 0, Value.ref 1374, Value.bool true, Value.int 181 0, Value.ref 1375, Value.none, Value.ref 1376, Value.ref 1377, Value.ref 1378, Value.int 2149 0, Value.int 834 0, Value.str (Str.ofString "/claim/cut.py") 2150] }
def o_1381 : Params → Obj := fun P => { cls := Value.none, data := Data.func { name := Str.ofString "do_put", qualname := Str.ofString "do_put", params := AT150, body := FuncBody.stmts BT150, scope := ST150, globals := 0, closure := [], defaults := Value.none, kwdefaults := Value.none } }
def o_1162 : Params → Obj := fun P => { cls := Value.type "tuple", data := Data.seq #[Value.str (Str.ofString "store") 1667, Value.str (Str.ofString "one") 1668, Value.str (Str.ofString "other") 1669, Value.str (Str.ofString "first") 1670, Value.str (Str.ofString "second") 1671] }
def o_1435 : Params → Obj := fun P => { cls := Value.type "tuple", data := Data.seq #[Value.str (Str.ofString "store") 2039, Value.str (Str.ofString "top") 2040, Value.str (Str.ofString "asked") 2041] }
def o_1365 : Params → Obj := fun P => { cls := Value.type "tuple", data := Data.seq #[Value.str (Str.ofString "runner") 1928, Value.str (Str.ofString "step") 1929] }
def o_1098 : Params → Obj := fun P => { cls := Value.type "function", data := Data.func { name := Str.ofString "put", qualname := Str.ofString "put", params := AT113, body := FuncBody.stmts BT113, scope := ST113, globals := 3, closure := [], defaults := Value.none, kwdefaults := Value.none, pyModule := Value.str (Str.ofString "livehall.things") 1512, code := Value.ref 978 } }
def o_1197 : Params → Obj := fun P => { cls := Value.none, data := Data.func { name := Str.ofString "leading_fields", qualname := Str.ofString "leading_fields", params := AT130, body := FuncBody.stmts BT130, scope := ST130, globals := 0, closure := [], defaults := Value.none, kwdefaults := Value.none } }
def o_1472 : Params → Obj := fun P => { cls := Value.type "function", data := Data.func { name := Str.ofString "halted_row", qualname := Str.ofString "halted_row", params := AT163, body := FuncBody.stmts BT163, scope := ST163, globals := 3, closure := [], defaults := Value.none, kwdefaults := Value.none, pyModule := Value.str (Str.ofString "livehall.runs") 2066, code := Value.ref 1330 } }
def o_1333 : Params → Obj := fun P => { cls := Value.type "code", data := Data.fields #[Value.str (Str.ofString "do_field") 1879, Value.str (Str.ofString "do_field") 1880, Value.str (Str.ofString "/claim/cut.py") 1881, Value.int 706 0, Value.int 2 0, Value.int 0 0, Value.int 0 0, Value.int 3 0, Value.ref 1198, Value.bool true, Value.int 181 0, Value.ref 1199, Value.none, Value.ref 1200, Value.ref 1201, Value.ref 1202, Value.int 1884 0, Value.int 706 0, Value.str (Str.ofString "/claim/cut.py") 1885] }
def o_1266 : Params → Obj := fun P => { cls := Value.none, data := Data.func { name := Str.ofString "push", qualname := Str.ofString "Runner.push", params := AM138x4, body := FuncBody.stmts BM138x4, scope := SM138x4, globals := 0, closure := [], defaults := Value.none, kwdefaults := Value.none } }
def o_1400 : Params → Obj := fun P => { cls := Value.type "function", data := Data.func { name := Str.ofString "do_raise", qualname := Str.ofString "do_raise", params := AT152, body := FuncBody.stmts BT152, scope := ST152, globals := 3, closure := [], defaults := Value.none, kwdefaults := Value.none, pyModule := Value.str (Str.ofString "livehall.runner") 1751, code := Value.ref 1266 } }
def o_1130 : Params → Obj := fun P => { cls := Value.type "code", data := Data.fields #[Value.str (Str.ofString "lead_fields") 1618, Value.str (Str.ofString "lead_fields") 1619, Value.str (Str.ofString "/claim/cut.py") 1620, Value.int 563 0, Value.int 2 0, Value.int 0 0, Value.int 0 0, Value.int 3 0, Value.ref 1008, Value.bool true, Value.int 181 0, Value.ref 1009, Value.none, Value.none, Value.none, Value.ref 1010, Value.int 1621 0, Value.int 563 0, Value.str (Str.ofString "/claim/cut.py") 1622] }
def o_1290 : Params → Obj := fun P => { cls := Value.type "tuple", data := Data.seq #[Value.str (Str.ofString "outcome") 1836, Value.str (Str.ofString "store") 1837, Value.str (Str.ofString "top") 1838] }
def o_1563 : Params → Obj := fun P => { cls := Value.type "function", data := Data.func { name := Str.ofString "write_ways", qualname := Str.ofString "write_ways", params := AT178, body := FuncBody.stmts BT178, scope := ST178, globals := 3, closure := [], defaults := Value.none, kwdefaults := Value.none, pyModule := Value.str (Str.ofString "livehall.ways") 2214, code := Value.ref 1418 } }
def o_1221 : Params → Obj := fun P => { cls := Value.type "tuple", data := Data.seq #[Value.str (Str.ofString "ask") 1753, Value.str (Str.ofString "elder") 1754, Value.str (Str.ofString "loop") 1755] }
def o_1496 : Params → Obj := fun P => { cls := Value.type "tuple", data := Data.seq #[Value.str (Str.ofString "store") 2118, Value.str (Str.ofString "run") 2119] }
def o_1085 : Params → Obj := fun P => { cls := Value.type "code", data := Data.fields #[Value.str (Str.ofString "make") 1567, Value.str (Str.ofString "make") 1568, Value.str (Str.ofString "/claim/cut.py") 1569, Value.int 544 0, Value.int 2 0, Value.int 0 0, Value.int 0 0, Value.int 3 0, Value.ref 966, Value.bool true, Value.int 181 0, Value.ref 967, Value.none, Value.ref 968, Value.ref 969, Value.ref 970, Value.int 1572 0, Value.int 544 0, Value.str (Str.ofString "/claim/cut.py") 1573] }
def o_1189 : Params → Obj := fun P => { cls := Value.type "function", data := Data.func { name := Str.ofString "led_number", qualname := Str.ofString "led_number", params := AT128, body := FuncBody.stmts BT128, scope := ST128, globals := 3, closure := [], defaults := Value.none, kwdefaults := Value.none, pyModule := Value.str (Str.ofString "livehall.reach") 1703, code := Value.ref 1066 } }
def o_1464 : Params → Obj := fun P => { cls := Value.type "code", data := Data.fields #[Value.str (Str.ofString "run_row") 2068, Value.str (Str.ofString "run_row") 2069, Value.str (Str.ofString "/claim/cut.py") 2070, Value.int 792 0, Value.int 2 0, Value.int 0 0, Value.int 0 0, Value.int 3 0, Value.ref 1318, Value.bool true, Value.int 181 0, Value.ref 1319, Value.none, Value.ref 1320, Value.ref 1321, Value.ref 1322, Value.int 2073 0, Value.int 792 0, Value.str (Str.ofString "/claim/cut.py") 2074] }
def o_1325 : Params → Obj := fun P => { cls := Value.none, data := Data.func { name := Str.ofString "has_field", qualname := Str.ofString "has_field", params := AT142, body := FuncBody.stmts BT142, scope := ST142, globals := 0, closure := [], defaults := Value.none, kwdefaults := Value.none } }
def o_1053 : Params → Obj := fun P => { cls := Value.type "function", data := Data.func { name := Str.ofString "check_value", qualname := Str.ofString "check_value", params := AT107, body := FuncBody.stmts BT107, scope := ST107, globals := 3, closure := [], defaults := Value.none, kwdefaults := Value.none, pyModule := Value.str (Str.ofString "livehall.things") 1512, code := Value.ref 938 } }
def o_1528 : Params → Obj := fun P => { cls := Value.type "function", data := Data.func { name := Str.ofString "answer", qualname := Str.ofString "answer", params := AT171, body := FuncBody.stmts BT171, scope := ST171, globals := 3, closure := [], defaults := Value.none, kwdefaults := Value.none, pyModule := Value.str (Str.ofString "livehall.runs") 2066, code := Value.ref 1386 } }
def o_1389 : Params → Obj := fun P => { cls := Value.type "code", data := Data.fields #[Value.str (Str.ofString "do_give") 1950, Value.str (Str.ofString "do_give") 1951, Value.str (Str.ofString "/claim/cut.py") 1952, Value.int 746 0, Value.int 2 0, Value.int 0 0, Value.int 0 0, Value.int 3 0, Value.ref 1254, Value.bool true, Value.int 181 0, Value.ref 1255, Value.none, Value.ref 1256, Value.ref 1257, Value.ref 1258, Value.int 1955 0, Value.int 746 0, Value.str (Str.ofString "/claim/cut.py") 1956] }
def o_1122 : Params → Obj := fun P => { cls := Value.type "tuple", data := Data.seq #[Value.str (Str.ofString "value") 1613, Value.str (Str.ofString "others") 1614] }
def o_1309 : Params → Obj := fun P => { cls := Value.type "tuple", data := Data.seq #[Value.str (Str.ofString "runner") 1858, Value.str (Str.ofString "step") 1859] }
def o_1512 : Params → Obj := fun P => { cls := Value.none, data := Data.func { name := Str.ofString "give", qualname := Str.ofString "give", params := AT169, body := FuncBody.stmts BT169, scope := ST169, globals := 0, closure := [], defaults := Value.none, kwdefaults := Value.none } }
def o_1341 : Params → Obj := fun P => { cls := Value.type "function", data := Data.func { name := Str.ofString "do_new", qualname := Str.ofString "do_new", params := AT144, body := FuncBody.stmts BT144, scope := ST144, globals := 3, closure := [], defaults := Value.none, kwdefaults := Value.none, pyModule := Value.str (Str.ofString "livehall.runner") 1751, code := Value.ref 1210 } }
def o_1274 : Params → Obj := fun P => { cls := Value.type "code", data := Data.fields #[Value.str (Str.ofString "pull") 1810, Value.str (Str.ofString "Runner.pull") 1811, Value.str (Str.ofString "/claim/cut.py") 1812, Value.int 676 0, Value.int 1 0, Value.int 0 0, Value.int 0 0, Value.int 3 0, Value.ref 1142, Value.bool true, Value.int 181 0, Value.ref 1143, Value.none, Value.ref 1144, Value.ref 1145, Value.ref 1146, Value.int 1814 0, Value.int 676 0, Value.str (Str.ofString "/claim/cut.py") 1815] }
def o_1138 : Params → Obj := fun P => { cls := Value.type "function", data := Data.func { name := Str.ofString "lead_names", qualname := Str.ofString "lead_names", params := AT119, body := FuncBody.stmts BT119, scope := ST119, globals := 3, closure := [], defaults := Value.none, kwdefaults := Value.none, pyModule := Value.str (Str.ofString "livehall.things") 1512, code := Value.ref 1018 } }
def o_1144 : Params → Obj := fun P => { cls := Value.type "code", data := Data.fields #[Value.str (Str.ofString "lead_runs") 1633, Value.str (Str.ofString "lead_runs") 1634, Value.str (Str.ofString "/claim/cut.py") 1635, Value.int 571 0, Value.int 2 0, Value.int 0 0, Value.int 0 0, Value.int 3 0, Value.ref 1020, Value.bool true, Value.int 181 0, Value.ref 1021, Value.none, Value.ref 1022, Value.ref 1023, Value.ref 1024, Value.int 1642 0, Value.int 571 0, Value.str (Str.ofString "/claim/cut.py") 1643] }
def o_1414 : Params → Obj := fun P => { cls := Value.type "function", data := Data.func { name := Str.ofString "do_branch", qualname := Str.ofString "do_branch", params := AT154, body := FuncBody.stmts BT154, scope := ST154, globals := 3, closure := [], defaults := Value.none, kwdefaults := Value.none, pyModule := Value.str (Str.ofString "livehall.runner") 1751, code := Value.ref 1280 } }
def o_1280 : Params → Obj := fun P => { cls := Value.none, data := Data.func { name := Str.ofString "end_way", qualname := Str.ofString "Runner.end_way", params := AM138x6, body := FuncBody.stmts BM138x6, scope := SM138x6, globals := 0, closure := [], defaults := Value.none, kwdefaults := Value.none } }
def o_1553 : Params → Obj := fun P => { cls := Value.none, data := Data.func { name := Str.ofString "frames_told", qualname := Str.ofString "frames_told", params := AT175, body := FuncBody.stmts BT175, scope := ST175, globals := 0, closure := [], defaults := Value.none, kwdefaults := Value.none } }
def o_1486 : Params → Obj := fun P => { cls := Value.type "function", data := Data.func { name := Str.ofString "keep_on", qualname := Str.ofString "keep_on", params := AT165, body := FuncBody.stmts BT165, scope := ST165, globals := 3, closure := [], defaults := Value.none, kwdefaults := Value.none, pyModule := Value.str (Str.ofString "livehall.runs") 2066, code := Value.ref 1344 } }
def o_1347 : Params → Obj := fun P => { cls := Value.type "code", data := Data.fields #[Value.str (Str.ofString "do_same") 1896, Value.str (Str.ofString "do_same") 1897, Value.str (Str.ofString "/claim/cut.py") 1898, Value.int 714 0, Value.int 2 0, Value.int 0 0, Value.int 0 0, Value.int 3 0, Value.ref 1212, Value.bool true, Value.int 181 0, Value.ref 1213, Value.none, Value.ref 1214, Value.ref 1215, Value.ref 1216, Value.int 1903 0, Value.int 714 0, Value.str (Str.ofString "/claim/cut.py") 1904] }
def o_1075 : Params → Obj := fun P => { cls := Value.type "tuple", data := Data.seq #[Value.str (Str.ofString "store") 1557, Value.str (Str.ofString "number") 1558, Value.str (Str.ofString "field") 1559, Value.str (Str.ofString "value") 1560, Value.str (Str.ofString "kind") 1561, Value.str (Str.ofString "had") 1562, Value.str (Str.ofString "fields") 1563] }
def o_1176 : Params → Obj := fun P => { cls := Value.none, data := Data.func { name := Str.ofString "held_told", qualname := Str.ofString "held_told", params := AT125, body := FuncBody.stmts BT125, scope := ST125, globals := 0, closure := [], defaults := Value.none, kwdefaults := Value.none } }
def o_1454 : Params → Obj := fun P => { cls := Value.type "tuple", data := Data.seq #[Value.str (Str.ofString "runner") 2062] }
def o_1379 : Params → Obj := fun P => { cls := Value.type "tuple", data := Data.seq #[Value.str (Str.ofString "runner") 1944, Value.str (Str.ofString "step") 1945, Value.str (Str.ofString "value") 1946] }
def o_1112 : Params → Obj := fun P => { cls := Value.type "function", data := Data.func { name := Str.ofString "let_go", qualname := Str.ofString "let_go", params := AT115, body := FuncBody.stmts BT115, scope := ST115, globals := 3, closure := [], defaults := Value.none, kwdefaults := Value.none, pyModule := Value.str (Str.ofString "livehall.things") 1512, code := Value.ref 992 } }
def o_1296 : Params → Obj := fun P => { cls := Value.type "builtin_function_or_method", data := Data.fields #[Value.builtin "object.__init_subclass__", Value.ref 1165] }
def o_1569 : Params → Obj := fun P => { cls := Value.type "code", data := Data.fields #[Value.str (Str.ofString "check_way") 2226, Value.str (Str.ofString "check_way") 2227, Value.str (Str.ofString "/claim/cut.py") 2228, Value.int 871 0, Value.int 4 0, Value.int 0 0, Value.int 0 0, Value.int 3 0, Value.ref 1420, Value.bool true, Value.int 181 0, Value.ref 1421, Value.none, Value.ref 1422, Value.ref 1423, Value.ref 1424, Value.int 2235 0, Value.int 871 0, Value.str (Str.ofString "/claim/cut.py") 2236] }
def o_1232 : Params → Obj := fun P => { cls := Value.type "code", data := Data.fields #[Value.str (Str.ofString "Runner") 1759, Value.str (Str.ofString "Runner") 1760, Value.str (Str.ofString "/claim/cut.py") 1761, Value.int 654 0, Value.int 0 0, Value.int 0 0, Value.int 0 0, Value.int 0 0, Value.ref 1103, Value.bool false, Value.int 181 0, Value.ref 1104, Value.none, Value.none, Value.none, Value.none, Value.int 1762 0, Value.int 654 0, Value.str (Str.ofString "/claim/cut.py") 1763] }
def o_1096 : Params → Obj := fun P => { cls := Value.none, data := Data.func { name := Str.ofString "put", qualname := Str.ofString "put", params := AT113, body := FuncBody.stmts BT113, scope := ST113, globals := 0, closure := [], defaults := Value.none, kwdefaults := Value.none } }
def o_1470 : Params → Obj := fun P => { cls := Value.none, data := Data.func { name := Str.ofString "halted_row", qualname := Str.ofString "halted_row", params := AT163, body := FuncBody.stmts BT163, scope := ST163, globals := 0, closure := [], defaults := Value.none, kwdefaults := Value.none } }
def o_1059 : Params → Obj := fun P => { cls := Value.type "code", data := Data.fields #[Value.str (Str.ofString "thing_number") 1530, Value.str (Str.ofString "thing_number") 1531, Value.str (Str.ofString "/claim/cut.py") 1532, Value.int 526 0, Value.int 2 0, Value.int 0 0, Value.int 0 0, Value.int 3 0, Value.ref 940, Value.bool true, Value.int 181 0, Value.ref 941, Value.none, Value.ref 942, Value.ref 943, Value.ref 944, Value.int 1535 0, Value.int 526 0, Value.str (Str.ofString "/claim/cut.py") 1536] }
def o_1264 : Params → Obj := fun P => { cls := Value.type "tuple", data := Data.seq #[Value.str (Str.ofString "self") 1805, Value.str (Str.ofString "value") 1806] }
def o_1534 : Params → Obj := fun P => { cls := Value.type "code", data := Data.fields #[Value.str (Str.ofString "fault") 2163, Value.str (Str.ofString "fault") 2164, Value.str (Str.ofString "/claim/cut.py") 2165, Value.int 845 0, Value.int 3 0, Value.int 0 0, Value.int 0 0, Value.int 3 0, Value.ref 1388, Value.bool true, Value.int 181 0, Value.ref 1389, Value.none, Value.ref 1390, Value.ref 1391, Value.ref 1392, Value.int 2171 0, Value.int 845 0, Value.str (Str.ofString "/claim/cut.py") 2172] }
def o_1398 : Params → Obj := fun P => { cls := Value.none, data := Data.func { name := Str.ofString "do_raise", qualname := Str.ofString "do_raise", params := AT152, body := FuncBody.stmts BT152, scope := ST152, globals := 0, closure := [], defaults := Value.none, kwdefaults := Value.none } }
def o_1152 : Params → Obj := fun P => { cls := Value.type "function", data := Data.func { name := Str.ofString "lead_elsewhere", qualname := Str.ofString "lead_elsewhere", params := AT121, body := FuncBody.stmts BT121, scope := ST121, globals := 3, closure := [], defaults := Value.none, kwdefaults := Value.none, pyModule := Value.str (Str.ofString "livehall.things") 1512, code := Value.ref 1032 } }
def o_1425 : Params → Obj := fun P => { cls := Value.type "dict", data := Data.dict #[{ hash := PyData.keyHash P (Str.ofString "value"), key := Value.str (Str.ofString "value") 1992, val := Value.ref 1176 }, { hash := PyData.keyHash P (Str.ofString "self"), key := Value.str (Str.ofString "self") 1994, val := Value.ref 1183 }, { hash := PyData.keyHash P (Str.ofString "name"), key := Value.str (Str.ofString "name") 1996, val := Value.ref 1190 }, { hash := PyData.keyHash P (Str.ofString "field"), key := Value.str (Str.ofString "field") 1998, val := Value.ref 1204 }, { hash := PyData.keyHash P (Str.ofString "new"), key := Value.str (Str.ofString "new") 2000, val := Value.ref 1211 }, { hash := PyData.keyHash P (Str.ofString "same"), key := Value.str (Str.ofString "same") 2002, val := Value.ref 1218 }, { hash := PyData.keyHash P (Str.ofString "add"), key := Value.str (Str.ofString "add") 2004, val := Value.ref 1232 }, { hash := PyData.keyHash P (Str.ofString "sub"), key := Value.str (Str.ofString "sub") 2006, val := Value.ref 1232 }, { hash := PyData.keyHash P (Str.ofString "mul"), key := Value.str (Str.ofString "mul") 2008, val := Value.ref 1232 }, { hash := PyData.keyHash P (Str.ofString "under"), key := Value.str (Str.ofString "under") 2010, val := Value.ref 1232 }, { hash := PyData.keyHash P (Str.ofString "do"), key := Value.str (Str.ofString "do") 2012, val := Value.ref 1239 }, { hash := PyData.keyHash P (Str.ofString "let"), key := Value.str (Str.ofString "let") 2014, val := Value.ref 1246 }, { hash := PyData.keyHash P (Str.ofString "put"), key := Value.str (Str.ofString "put") 2016, val := Value.ref 1253 }, { hash := PyData.keyHash P (Str.ofString "give"), key := Value.str (Str.ofString "give") 2018, val := Value.ref 1260 }, { hash := PyData.keyHash P (Str.ofString "raise"), key := Value.str (Str.ofString "raise") 2020, val := Value.ref 1267 }, { hash := PyData.keyHash P (Str.ofString "branch"), key := Value.str (Str.ofString "branch") 2022, val := Value.ref 1281 }, { hash := PyData.keyHash P (Str.ofString "jump"), key := Value.str (Str.ofString "jump") 2024, val := Value.ref 1288 }] 17 }
def o_1288 : Params → Obj := fun P => { cls := Value.type "code", data := Data.fields #[Value.str (Str.ofString "meet_fault") 1826, Value.str (Str.ofString "Runner.meet_fault") 1827, Value.str (Str.ofString "/claim/cut.py") 1828, Value.int 687 0, Value.int 2 0, Value.int 0 0, Value.int 0 0, Value.int 3 0, Value.ref 1156, Value.bool true, Value.int 181 0, Value.ref 1157, Value.none, Value.ref 1158, Value.ref 1159, Value.ref 1160, Value.int 1833 0, Value.int 687 0, Value.str (Str.ofString "/claim/cut.py") 1834] }
def o_1561 : Params → Obj := fun P => { cls := Value.none, data := Data.func { name := Str.ofString "write_ways", qualname := Str.ofString "write_ways", params := AT178, body := FuncBody.stmts BT178, scope := ST178, globals := 0, closure := [], defaults := Value.none, kwdefaults := Value.none } }
def o_1219 : Params → Obj := fun P => { cls := Value.type "function", data := Data.func { name := Str.ofString "sweep", qualname := Str.ofString "sweep", params := AT134, body := FuncBody.stmts BT134, scope := ST134, globals := 3, closure := [], defaults := Value.none, kwdefaults := Value.none, pyModule := Value.str (Str.ofString "livehall.reach") 1703, code := Value.ref 1096 } }
def o_1355 : Params → Obj := fun P => { cls := Value.type "function", data := Data.func { name := Str.ofString "counted", qualname := Str.ofString "counted", params := AT146, body := FuncBody.stmts BT146, scope := ST146, globals := 3, closure := [], defaults := Value.none, kwdefaults := Value.none, pyModule := Value.str (Str.ofString "livehall.runner") 1751, code := Value.ref 1224 } }
def o_1187 : Params → Obj := fun P => { cls := Value.none, data := Data.func { name := Str.ofString "led_number", qualname := Str.ofString "led_number", params := AT128, body := FuncBody.stmts BT128, scope := ST128, globals := 0, closure := [], defaults := Value.none, kwdefaults := Value.none } }
def o_1323 : Params → Obj := fun P => { cls := Value.type "tuple", data := Data.seq #[Value.str (Str.ofString "runner") 1874, Value.str (Str.ofString "field") 1875] }
def o_1051 : Params → Obj := fun P => { cls := Value.none, data := Data.func { name := Str.ofString "check_value", qualname := Str.ofString "check_value", params := AT107, body := FuncBody.stmts BT107, scope := ST107, globals := 0, closure := [], defaults := Value.none, kwdefaults := Value.none } }
def o_1526 : Params → Obj := fun P => { cls := Value.none, data := Data.func { name := Str.ofString "answer", qualname := Str.ofString "answer", params := AT171, body := FuncBody.stmts BT171, scope := ST171, globals := 0, closure := [], defaults := Value.none, kwdefaults := Value.none } }
def o_1240 : Params → Obj := fun P => { cls := Value.type "function", data := Data.func { name := Str.ofString "__init__", qualname := Str.ofString "Runner.__init__", params := AM138x0, body := FuncBody.stmts BM138x0, scope := SM138x0, globals := 3, closure := [], defaults := Value.none, kwdefaults := Value.none, pyModule := Value.str (Str.ofString "livehall.runner") 1751, code := Value.ref 1112 } }
def o_1510 : Params → Obj := fun P => { cls := Value.type "tuple", data := Data.seq #[Value.str (Str.ofString "store") 2137, Value.str (Str.ofString "run") 2138, Value.str (Str.ofString "value") 2139, Value.str (Str.ofString "row") 2140, Value.str (Str.ofString "runner") 2141] }
def o_1104 : Params → Obj := fun P => { cls := Value.type "code", data := Data.fields #[Value.str (Str.ofString "hold") 1585, Value.str (Str.ofString "hold") 1586, Value.str (Str.ofString "/claim/cut.py") 1587, Value.int 550 0, Value.int 3 0, Value.int 0 0, Value.int 0 0, Value.int 3 0, Value.ref 980, Value.bool true, Value.int 181 0, Value.ref 981, Value.none, Value.ref 982, Value.ref 983, Value.ref 984, Value.int 1591 0, Value.int 550 0, Value.str (Str.ofString "/claim/cut.py") 1592] }
def o_1203 : Params → Obj := fun P => { cls := Value.type "code", data := Data.fields #[Value.str (Str.ofString "steps_from") 1724, Value.str (Str.ofString "steps_from") 1725, Value.str (Str.ofString "/claim/cut.py") 1726, Value.int 620 0, Value.int 3 0, Value.int 0 0, Value.int 0 0, Value.int 3 0, Value.ref 1078, Value.bool true, Value.int 181 0, Value.ref 1079, Value.none, Value.none, Value.none, Value.ref 1080, Value.int 1727 0, Value.int 620 0, Value.str (Str.ofString "/claim/cut.py") 1728] }
def o_1478 : Params → Obj := fun P => { cls := Value.type "code", data := Data.fields #[Value.str (Str.ofString "state_told") 2085, Value.str (Str.ofString "state_told") 2086, Value.str (Str.ofString "/claim/cut.py") 2087, Value.int 801 0, Value.int 2 0, Value.int 0 0, Value.int 0 0, Value.int 3 0, Value.ref 1332, Value.bool true, Value.int 181 0, Value.ref 1333, Value.none, Value.ref 1334, Value.ref 1335, Value.ref 1336, Value.int 2091 0, Value.int 801 0, Value.str (Str.ofString "/claim/cut.py") 2092] }
def o_1339 : Params → Obj := fun P => { cls := Value.none, data := Data.func { name := Str.ofString "do_new", qualname := Str.ofString "do_new", params := AT144, body := FuncBody.stmts BT144, scope := ST144, globals := 0, closure := [], defaults := Value.none, kwdefaults := Value.none } }
def o_1067 : Params → Obj := fun P => { cls := Value.type "function", data := Data.func { name := Str.ofString "fields_with", qualname := Str.ofString "fields_with", params := AT109, body := FuncBody.stmts BT109, scope := ST109, globals := 3, closure := [], defaults := Value.none, kwdefaults := Value.none, pyModule := Value.str (Str.ofString "livehall.things") 1512, code := Value.ref 952 } }
def o_1545 : Params → Obj := fun P => { cls := Value.type "function", data := Data.func { name := Str.ofString "redo", qualname := Str.ofString "redo", params := AT173, body := FuncBody.stmts BT173, scope := ST173, globals := 3, closure := [], defaults := Value.none, kwdefaults := Value.none, pyModule := Value.str (Str.ofString "livehall.runs") 2066, code := Value.ref 1400 } }
def o_1406 : Params → Obj := fun P => { cls := Value.type "code", data := Data.fields #[Value.str (Str.ofString "jump") 1966, Value.str (Str.ofString "jump") 1967, Value.str (Str.ofString "/claim/cut.py") 1968, Value.int 750 0, Value.int 2 0, Value.int 0 0, Value.int 0 0, Value.int 3 0, Value.ref 1268, Value.bool true, Value.int 181 0, Value.ref 1269, Value.none, Value.ref 1270, Value.ref 1271, Value.ref 1272, Value.int 1972 0, Value.int 750 0, Value.str (Str.ofString "/claim/cut.py") 1973] }
def o_1136 : Params → Obj := fun P => { cls := Value.none, data := Data.func { name := Str.ofString "lead_names", qualname := Str.ofString "lead_names", params := AT119, body := FuncBody.stmts BT119, scope := ST119, globals := 0, closure := [], defaults := Value.none, kwdefaults := Value.none } }
def o_1148 : Params → Obj := fun P => { cls := Value.type "tuple", data := Data.seq #[Value.str (Str.ofString "store") 1648, Value.str (Str.ofString "others") 1649] }
def o_1351 : Params → Obj := fun P => { cls := Value.type "tuple", data := Data.seq #[Value.str (Str.ofString "word") 1909, Value.str (Str.ofString "one") 1910, Value.str (Str.ofString "other") 1911] }
def o_1079 : Params → Obj := fun P => { cls := Value.type "function", data := Data.func { name := Str.ofString "write_field", qualname := Str.ofString "write_field", params := AT111, body := FuncBody.stmts BT111, scope := ST111, globals := 3, closure := [], defaults := Value.none, kwdefaults := Value.none, pyModule := Value.str (Str.ofString "livehall.things") 1512, code := Value.ref 964 } }
def o_1458 : Params → Obj := fun P => { cls := Value.type "function", data := Data.func { name := Str.ofString "beat", qualname := Str.ofString "beat", params := AT160, body := FuncBody.stmts BT160, scope := ST160, globals := 3, closure := [], defaults := Value.none, kwdefaults := Value.none, pyModule := Value.str (Str.ofString "livehall.runner") 1751, code := Value.ref 1316 } }
def o_1319 : Params → Obj := fun P => { cls := Value.type "code", data := Data.fields #[Value.str (Str.ofString "do_name") 1863, Value.str (Str.ofString "do_name") 1864, Value.str (Str.ofString "/claim/cut.py") 1865, Value.int 702 0, Value.int 2 0, Value.int 0 0, Value.int 0 0, Value.int 3 0, Value.ref 1184, Value.bool true, Value.int 181 0, Value.ref 1185, Value.none, Value.ref 1186, Value.ref 1187, Value.ref 1188, Value.int 1868 0, Value.int 702 0, Value.str (Str.ofString "/claim/cut.py") 1869] }
def o_1252 : Params → Obj := fun P => { cls := Value.none, data := Data.func { name := Str.ofString "finish", qualname := Str.ofString "Runner.finish", params := AM138x2, body := FuncBody.stmts BM138x2, scope := SM138x2, globals := 0, closure := [], defaults := Value.none, kwdefaults := Value.none } }
def o_1383 : Params → Obj := fun P => { cls := Value.type "function", data := Data.func { name := Str.ofString "do_put", qualname := Str.ofString "do_put", params := AT150, body := FuncBody.stmts BT150, scope := ST150, globals := 3, closure := [], defaults := Value.none, kwdefaults := Value.none, pyModule := Value.str (Str.ofString "livehall.runner") 1751, code := Value.ref 1252 } }
def o_1164 : Params → Obj := fun P => { cls := Value.none, data := Data.func { name := Str.ofString "forward", qualname := Str.ofString "forward", params := AT123, body := FuncBody.stmts BT123, scope := ST123, globals := 0, closure := [], defaults := Value.none, kwdefaults := Value.none } }
def o_1437 : Params → Obj := fun P => { cls := Value.none, data := Data.func { name := Str.ofString "first_looked", qualname := Str.ofString "first_looked", params := AT158, body := FuncBody.stmts BT158, scope := ST158, globals := 0, closure := [], defaults := Value.none, kwdefaults := Value.none } }
def o_1236 : Params → Obj := fun P => { cls := Value.type "tuple", data := Data.seq #[Value.str (Str.ofString "self") 1772, Value.str (Str.ofString "store") 1773, Value.str (Str.ofString "top") 1774] }
def o_1506 : Params → Obj := fun P => { cls := Value.type "code", data := Data.fields #[Value.str (Str.ofString "go") 2123, Value.str (Str.ofString "go") 2124, Value.str (Str.ofString "/claim/cut.py") 2125, Value.int 819 0, Value.int 3 0, Value.int 0 0, Value.int 0 0, Value.int 3 0, Value.ref 1360, Value.bool true, Value.int 181 0, Value.ref 1361, Value.none, Value.ref 1362, Value.ref 1363, Value.ref 1364, Value.int 2131 0, Value.int 819 0, Value.str (Str.ofString "/claim/cut.py") 2132] }
def o_1367 : Params → Obj := fun P => { cls := Value.none, data := Data.func { name := Str.ofString "do_do", qualname := Str.ofString "do_do", params := AT148, body := FuncBody.stmts BT148, scope := ST148, globals := 0, closure := [], defaults := Value.none, kwdefaults := Value.none } }
def o_1199 : Params → Obj := fun P => { cls := Value.type "function", data := Data.func { name := Str.ofString "leading_fields", qualname := Str.ofString "leading_fields", params := AT130, body := FuncBody.stmts BT130, scope := ST130, globals := 3, closure := [], defaults := Value.none, kwdefaults := Value.none, pyModule := Value.str (Str.ofString "livehall.reach") 1703, code := Value.ref 1076 } }
def o_1063 : Params → Obj := fun P => { cls := Value.type "tuple", data := Data.seq #[Value.str (Str.ofString "store") 1541, Value.str (Str.ofString "thing") 1542, Value.str (Str.ofString "field") 1543, Value.str (Str.ofString "fields") 1544] }
def o_1268 : Params → Obj := fun P => { cls := Value.type "function", data := Data.func { name := Str.ofString "push", qualname := Str.ofString "Runner.push", params := AM138x4, body := FuncBody.stmts BM138x4, scope := SM138x4, globals := 3, closure := [], defaults := Value.none, kwdefaults := Value.none, pyModule := Value.str (Str.ofString "livehall.runner") 1751, code := Value.ref 1140 } }
def o_1541 : Params → Obj := fun P => { cls := Value.type "tuple", data := Data.seq #[Value.str (Str.ofString "store") 2177, Value.str (Str.ofString "run") 2178, Value.str (Str.ofString "frame") 2179, Value.str (Str.ofString "row") 2180, Value.str (Str.ofString "ways") 2181, Value.str (Str.ofString "undone") 2182, Value.str (Str.ofString "top") 2183] }
def o_1292 : Params → Obj := fun P => { cls := Value.type "type", data := Data.cls { name := Str.ofString "Runner", bases := [Value.type "object"], mro := [Value.ref 1165, Value.type "object"], ns := 1164, qualname := Str.ofString "Runner" }, slots := #[none, none, some (Value.str (Str.ofString "Runner") 1757), some (Value.str (Str.ofString "Runner") 1765), some (Value.builtin "object.__new__"), some (Value.bool true)] }
def o_1498 : Params → Obj := fun P => { cls := Value.none, data := Data.func { name := Str.ofString "end", qualname := Str.ofString "end", params := AT167, body := FuncBody.stmts BT167, scope := ST167, globals := 0, closure := [], defaults := Value.none, kwdefaults := Value.none } }
def o_1327 : Params → Obj := fun P => { cls := Value.type "function", data := Data.func { name := Str.ofString "has_field", qualname := Str.ofString "has_field", params := AT142, body := FuncBody.stmts BT142, scope := ST142, globals := 3, closure := [], defaults := Value.none, kwdefaults := Value.none, pyModule := Value.str (Str.ofString "livehall.runner") 1751, code := Value.ref 1196 } }
def o_1260 : Params → Obj := fun P => { cls := Value.type "code", data := Data.fields #[Value.str (Str.ofString "pass_step") 1794, Value.str (Str.ofString "Runner.pass_step") 1795, Value.str (Str.ofString "/claim/cut.py") 1796, Value.int 668 0, Value.int 1 0, Value.int 0 0, Value.int 0 0, Value.int 3 0, Value.ref 1128, Value.bool true, Value.int 181 0, Value.ref 1129, Value.none, Value.ref 1130, Value.ref 1131, Value.ref 1132, Value.int 1799 0, Value.int 668 0, Value.str (Str.ofString "/claim/cut.py") 1800] }
def o_1124 : Params → Obj := fun P => { cls := Value.none, data := Data.func { name := Str.ofString "led", qualname := Str.ofString "led", params := AT117, body := FuncBody.stmts BT117, scope := ST117, globals := 0, closure := [], defaults := Value.none, kwdefaults := Value.none } }
def o_1172 : Params → Obj := fun P => { cls := Value.type "code", data := Data.fields #[Value.str (Str.ofString "field_told") 1675, Value.str (Str.ofString "field_told") 1676, Value.str (Str.ofString "/claim/cut.py") 1677, Value.int 598 0, Value.int 3 0, Value.int 0 0, Value.int 0 0, Value.int 3 0, Value.ref 1048, Value.bool true, Value.int 181 0, Value.ref 1049, Value.none, Value.ref 1050, Value.ref 1051, Value.ref 1052, Value.int 1681 0, Value.int 598 0, Value.str (Str.ofString "/claim/cut.py") 1682] }
def o_1445 : Params → Obj := fun P => { cls := Value.type "code", data := Data.fields #[Value.str (Str.ofString "begin_way") 2045, Value.str (Str.ofString "begin_way") 2046, Value.str (Str.ofString "/claim/cut.py") 2047, Value.int 773 0, Value.int 1 0, Value.int 0 0, Value.int 0 0, Value.int 3 0, Value.ref 1304, Value.bool true, Value.int 181 0, Value.ref 1305, Value.none, Value.ref 1306, Value.ref 1307, Value.ref 1308, Value.int 2056 0, Value.int 773 0, Value.str (Str.ofString "/claim/cut.py") 2057] }
def o_1311 : Params → Obj := fun P => { cls := Value.none, data := Data.func { name := Str.ofString "do_self", qualname := Str.ofString "do_self", params := AT140, body := FuncBody.stmts BT140, scope := ST140, globals := 0, closure := [], defaults := Value.none, kwdefaults := Value.none } }
def o_1039 : Params → Obj := fun P => { cls := Value.type "dict", data := Data.dict #[{ hash := PyData.keyHash P (Str.ofString "make_kind"), key := Value.str (Str.ofString "make_kind") 1501, val := Value.ref 852 }, { hash := PyData.keyHash P (Str.ofString "reshape"), key := Value.str (Str.ofString "reshape") 1502, val := Value.ref 898 }, { hash := PyData.keyHash P (Str.ofString "move_kind"), key := Value.str (Str.ofString "move_kind") 1503, val := Value.ref 905 }, { hash := PyData.keyHash P (Str.ofString "rename_kind"), key := Value.str (Str.ofString "rename_kind") 1504, val := Value.ref 912 }, { hash := PyData.keyHash P (Str.ofString "drop_kind"), key := Value.str (Str.ofString "drop_kind") 1505, val := Value.ref 924 }] 5 }
def o_1514 : Params → Obj := fun P => { cls := Value.type "function", data := Data.func { name := Str.ofString "give", qualname := Str.ofString "give", params := AT169, body := FuncBody.stmts BT169, scope := ST169, globals := 3, closure := [], defaults := Value.none, kwdefaults := Value.none, pyModule := Value.str (Str.ofString "livehall.runs") 2066, code := Value.ref 1372 } }
def o_1375 : Params → Obj := fun P => { cls := Value.type "code", data := Data.fields #[Value.str (Str.ofString "do_let") 1933, Value.str (Str.ofString "do_let") 1934, Value.str (Str.ofString "/claim/cut.py") 1935, Value.int 736 0, Value.int 2 0, Value.int 0 0, Value.int 0 0, Value.int 3 0, Value.ref 1240, Value.bool true, Value.int 181 0, Value.ref 1241, Value.none, Value.ref 1242, Value.ref 1243, Value.ref 1244, Value.int 1938 0, Value.int 736 0, Value.str (Str.ofString "/claim/cut.py") 1939] }
def o_1108 : Params → Obj := fun P => { cls := Value.type "tuple", data := Data.seq #[Value.str (Str.ofString "store") 1597, Value.str (Str.ofString "name") 1598] }
def o_1207 : Params → Obj := fun P => { cls := Value.none, data := Data.func { name := Str.ofString "reached", qualname := Str.ofString "reached", params := AT132, body := FuncBody.stmts BT132, scope := ST132, globals := 0, closure := [], defaults := Value.none, kwdefaults := Value.none } }
def o_1482 : Params → Obj := fun P => { cls := Value.type "tuple", data := Data.seq #[Value.str (Str.ofString "store") 2097, Value.str (Str.ofString "run") 2098, Value.str (Str.ofString "runner") 2099] }
def o_1071 : Params → Obj := fun P => { cls := Value.type "code", data := Data.fields #[Value.str (Str.ofString "new_thing") 1548, Value.str (Str.ofString "new_thing") 1549, Value.str (Str.ofString "/claim/cut.py") 1550, Value.int 535 0, Value.int 2 0, Value.int 0 0, Value.int 0 0, Value.int 3 0, Value.ref 954, Value.bool true, Value.int 181 0, Value.ref 955, Value.none, Value.none, Value.none, Value.ref 956, Value.int 1551 0, Value.int 535 0, Value.str (Str.ofString "/claim/cut.py") 1552] }
def o_1549 : Params → Obj := fun P => { cls := Value.type "code", data := Data.fields #[Value.str (Str.ofString "frame_told") 2187, Value.str (Str.ofString "frame_told") 2188, Value.str (Str.ofString "/claim/cut.py") 2189, Value.int 861 0, Value.int 2 0, Value.int 0 0, Value.int 0 0, Value.int 3 0, Value.ref 1402, Value.bool true, Value.int 181 0, Value.ref 1403, Value.none, Value.none, Value.none, Value.ref 1404, Value.int 2190 0, Value.int 861 0, Value.str (Str.ofString "/claim/cut.py") 2191] }
def o_1410 : Params → Obj := fun P => { cls := Value.type "tuple", data := Data.seq #[Value.str (Str.ofString "runner") 1978, Value.str (Str.ofString "step") 1979, Value.str (Str.ofString "truth") 1980] }
def o_1143 : Params → Obj := fun P => { cls := Value.none, data := Data.func { name := Str.ofString "lead_runs", qualname := Str.ofString "lead_runs", params := AT120, body := FuncBody.stmts BT120, scope := ST120, globals := 0, closure := [], defaults := Value.none, kwdefaults := Value.none } }
def o_1413 : Params → Obj := fun P => { cls := Value.type "code", data := Data.fields #[Value.str (Str.ofString "do_branch") 1975, Value.str (Str.ofString "do_branch") 1976, Value.str (Str.ofString "/claim/cut.py") 1977, Value.int 753 0, Value.int 2 0, Value.int 0 0, Value.int 0 0, Value.int 3 0, Value.ref 1275, Value.bool true, Value.int 181 0, Value.ref 1276, Value.none, Value.ref 1277, Value.ref 1278, Value.ref 1279, Value.int 1981 0, Value.int 753 0, Value.str (Str.ofString "/claim/cut.py") 1982] }
def o_1485 : Params → Obj := fun P => { cls := Value.type "code", data := Data.fields #[Value.str (Str.ofString "keep_on") 2094, Value.str (Str.ofString "keep_on") 2095, Value.str (Str.ofString "/claim/cut.py") 2096, Value.int 804 0, Value.int 3 0, Value.int 0 0, Value.int 0 0, Value.int 3 0, Value.ref 1339, Value.bool true, Value.int 181 0, Value.ref 1340, Value.none, Value.ref 1341, Value.ref 1342, Value.ref 1343, Value.int 2100 0, Value.int 804 0, Value.str (Str.ofString "/claim/cut.py") 2101] }
def o_1346 : Params → Obj := fun P => { cls := Value.none, data := Data.func { name := Str.ofString "do_same", qualname := Str.ofString "do_same", params := AT145, body := FuncBody.stmts BT145, scope := ST145, globals := 0, closure := [], defaults := Value.none, kwdefaults := Value.none } }
def o_1042 : Params → Obj := fun P => { cls := Value.type "tuple", data := Data.seq #[Value.str (Str.ofString "store") 1517, Value.str (Str.ofString "thing") 1518] }
def o_1247 : Params → Obj := fun P => { cls := Value.type "function", data := Data.func { name := Str.ofString "row", qualname := Str.ofString "Runner.row", params := AM138x1, body := FuncBody.stmts BM138x1, scope := SM138x1, globals := 3, closure := [], defaults := Value.none, kwdefaults := Value.none, pyModule := Value.str (Str.ofString "livehall.runner") 1751, code := Value.ref 1119 } }
def o_1517 : Params → Obj := fun P => { cls := Value.type "tuple", data := Data.seq #[Value.str (Str.ofString "row") 2148] }
def o_1111 : Params → Obj := fun P => { cls := Value.type "code", data := Data.fields #[Value.str (Str.ofString "let_go") 1594, Value.str (Str.ofString "let_go") 1595, Value.str (Str.ofString "/claim/cut.py") 1596, Value.int 555 0, Value.int 2 0, Value.int 0 0, Value.int 0 0, Value.int 3 0, Value.ref 987, Value.bool true, Value.int 181 0, Value.ref 988, Value.none, Value.ref 989, Value.ref 990, Value.ref 991, Value.int 1599 0, Value.int 555 0, Value.str (Str.ofString "/claim/cut.py") 1600] }
def o_1159 : Params → Obj := fun P => { cls := Value.type "function", data := Data.func { name := Str.ofString "swap", qualname := Str.ofString "swap", params := AT122, body := FuncBody.stmts BT122, scope := ST122, globals := 3, closure := [], defaults := Value.none, kwdefaults := Value.none, pyModule := Value.str (Str.ofString "livehall.things") 1512, code := Value.ref 1039 } }
def o_1432 : Params → Obj := fun P => { cls := Value.type "function", data := Data.func { name := Str.ofString "go_on", qualname := Str.ofString "go_on", params := AT157, body := FuncBody.stmts BT157, scope := ST157, globals := 3, closure := [], defaults := Value.none, kwdefaults := Value.none, pyModule := Value.str (Str.ofString "livehall.runner") 1751, code := Value.ref 1295 } }
def o_1295 : Params → Obj := fun P => { cls := Value.type "super", data := Data.fields #[Value.ref 1165, Value.ref 1165, Value.ref 1165] }
def o_1568 : Params → Obj := fun P => { cls := Value.none, data := Data.func { name := Str.ofString "check_way", qualname := Str.ofString "check_way", params := AT179, body := FuncBody.stmts BT179, scope := ST179, globals := 0, closure := [], defaults := Value.none, kwdefaults := Value.none } }
def o_1231 : Params → Obj := fun P => { cls := Value.none, data := Data.fields #[Value.int 656 0, Value.int 4 0, Value.ref 1112, Value.int 661 0, Value.int 4 0, Value.ref 1119, Value.int 664 0, Value.int 4 0, Value.ref 1126, Value.int 668 0, Value.int 4 0, Value.ref 1133, Value.int 672 0, Value.int 4 0, Value.ref 1140, Value.int 676 0, Value.int 4 0, Value.ref 1147, Value.int 679 0, Value.int 4 0, Value.ref 1154, Value.int 687 0, Value.int 4 0, Value.ref 1161] }
def o_1362 : Params → Obj := fun P => { cls := Value.type "function", data := Data.func { name := Str.ofString "do_count", qualname := Str.ofString "do_count", params := AT147, body := FuncBody.stmts BT147, scope := ST147, globals := 3, closure := [], defaults := Value.none, kwdefaults := Value.none, pyModule := Value.str (Str.ofString "livehall.runner") 1751, code := Value.ref 1231 } }
def o_1194 : Params → Obj := fun P => { cls := Value.type "function", data := Data.func { name := Str.ofString "roots", qualname := Str.ofString "roots", params := AT129, body := FuncBody.stmts BT129, scope := ST129, globals := 3, closure := [], defaults := Value.none, kwdefaults := Value.none, pyModule := Value.str (Str.ofString "livehall.reach") 1703, code := Value.ref 1071 } }
def o_1330 : Params → Obj := fun P => { cls := Value.type "tuple", data := Data.seq #[Value.str (Str.ofString "runner") 1882, Value.str (Str.ofString "step") 1883] }
def o_1058 : Params → Obj := fun P => { cls := Value.none, data := Data.func { name := Str.ofString "thing_number", qualname := Str.ofString "thing_number", params := AT108, body := FuncBody.stmts BT108, scope := ST108, globals := 0, closure := [], defaults := Value.none, kwdefaults := Value.none } }
def o_1533 : Params → Obj := fun P => { cls := Value.none, data := Data.func { name := Str.ofString "fault", qualname := Str.ofString "fault", params := AT172, body := FuncBody.stmts BT172, scope := ST172, globals := 0, closure := [], defaults := Value.none, kwdefaults := Value.none } }
def o_1151 : Params → Obj := fun P => { cls := Value.type "code", data := Data.fields #[Value.str (Str.ofString "lead_elsewhere") 1645, Value.str (Str.ofString "lead_elsewhere") 1646, Value.str (Str.ofString "/claim/cut.py") 1647, Value.int 583 0, Value.int 2 0, Value.int 0 0, Value.int 0 0, Value.int 3 0, Value.ref 1027, Value.bool true, Value.int 181 0, Value.ref 1028, Value.none, Value.ref 1029, Value.ref 1030, Value.ref 1031, Value.int 1650 0, Value.int 583 0, Value.str (Str.ofString "/claim/cut.py") 1651] }
def o_1421 : Params → Obj := fun P => { cls := Value.type "function", data := Data.func { name := Str.ofString "do_jump", qualname := Str.ofString "do_jump", params := AT155, body := FuncBody.stmts BT155, scope := ST155, globals := 3, closure := [], defaults := Value.none, kwdefaults := Value.none, pyModule := Value.str (Str.ofString "livehall.runner") 1751, code := Value.ref 1287 } }
def o_1287 : Params → Obj := fun P => { cls := Value.none, data := Data.func { name := Str.ofString "meet_fault", qualname := Str.ofString "Runner.meet_fault", params := AM138x7, body := FuncBody.stmts BM138x7, scope := SM138x7, globals := 0, closure := [], defaults := Value.none, kwdefaults := Value.none } }
def o_1218 : Params → Obj := fun P => { cls := Value.type "code", data := Data.fields #[Value.str (Str.ofString "sweep") 1742, Value.str (Str.ofString "sweep") 1743, Value.str (Str.ofString "/claim/cut.py") 1744, Value.int 640 0, Value.int 1 0, Value.int 0 0, Value.int 0 0, Value.int 3 0, Value.ref 1093, Value.bool true, Value.int 181 0, Value.ref 1094, Value.none, Value.none, Value.none, Value.ref 1095, Value.int 1745 0, Value.int 640 0, Value.str (Str.ofString "/claim/cut.py") 1746] }
def o_1493 : Params → Obj := fun P => { cls := Value.type "function", data := Data.func { name := Str.ofString "start", qualname := Str.ofString "start", params := AT166, body := FuncBody.stmts BT166, scope := ST166, globals := 3, closure := [], defaults := Value.none, kwdefaults := Value.none, pyModule := Value.str (Str.ofString "livehall.runs") 2066, code := Value.ref 1351 } }
def o_1354 : Params → Obj := fun P => { cls := Value.type "code", data := Data.fields #[Value.str (Str.ofString "counted") 1906, Value.str (Str.ofString "counted") 1907, Value.str (Str.ofString "/claim/cut.py") 1908, Value.int 718 0, Value.int 3 0, Value.int 0 0, Value.int 0 0, Value.int 3 0, Value.ref 1219, Value.bool true, Value.int 181 0, Value.ref 1220, Value.none, Value.ref 1221, Value.ref 1222, Value.ref 1223, Value.int 1912 0, Value.int 718 0, Value.str (Str.ofString "/claim/cut.py") 1913] }
def o_1082 : Params → Obj := fun P => { cls := Value.type "tuple", data := Data.seq #[Value.str (Str.ofString "store") 1570, Value.str (Str.ofString "kind") 1571] }
def o_1461 : Params → Obj := fun P => { cls := Value.type "tuple", data := Data.seq #[Value.str (Str.ofString "store") 2071, Value.str (Str.ofString "run") 2072] }
def o_1386 : Params → Obj := fun P => { cls := Value.type "tuple", data := Data.seq #[Value.str (Str.ofString "runner") 1953, Value.str (Str.ofString "step") 1954] }
def o_1119 : Params → Obj := fun P => { cls := Value.type "function", data := Data.func { name := Str.ofString "leads", qualname := Str.ofString "leads", params := AT116, body := FuncBody.stmts BT116, scope := ST116, globals := 3, closure := [], defaults := Value.none, kwdefaults := Value.none, pyModule := Value.str (Str.ofString "livehall.things") 1512, code := Value.ref 999 } }
def o_1306 : Params → Obj := fun P => { cls := Value.type "function", data := Data.func { name := Str.ofString "do_value", qualname := Str.ofString "do_value", params := AT139, body := FuncBody.stmts BT139, scope := ST139, globals := 3, closure := [], defaults := Value.none, kwdefaults := Value.none, pyModule := Value.str (Str.ofString "livehall.runner") 1751, code := Value.ref 1175 } }
def o_1239 : Params → Obj := fun P => { cls := Value.type "code", data := Data.fields #[Value.str (Str.ofString "__init__") 1769, Value.str (Str.ofString "Runner.__init__") 1770, Value.str (Str.ofString "/claim/cut.py") 1771, Value.int 656 0, Value.int 3 0, Value.int 0 0, Value.int 0 0, Value.int 3 0, Value.ref 1107, Value.bool true, Value.int 181 0, Value.ref 1108, Value.none, Value.ref 1109, Value.ref 1110, Value.ref 1111, Value.int 1775 0, Value.int 656 0, Value.str (Str.ofString "/claim/cut.py") 1776] }
def o_1103 : Params → Obj := fun P => { cls := Value.none, data := Data.func { name := Str.ofString "hold", qualname := Str.ofString "hold", params := AT114, body := FuncBody.stmts BT114, scope := ST114, globals := 0, closure := [], defaults := Value.none, kwdefaults := Value.none } }
def o_1202 : Params → Obj := fun P => { cls := Value.none, data := Data.func { name := Str.ofString "steps_from", qualname := Str.ofString "steps_from", params := AT131, body := FuncBody.stmts BT131, scope := ST131, globals := 0, closure := [], defaults := Value.none, kwdefaults := Value.none } }
def o_1477 : Params → Obj := fun P => { cls := Value.none, data := Data.func { name := Str.ofString "state_told", qualname := Str.ofString "state_told", params := AT164, body := FuncBody.stmts BT164, scope := ST164, globals := 0, closure := [], defaults := Value.none, kwdefaults := Value.none } }
def o_1066 : Params → Obj := fun P => { cls := Value.type "code", data := Data.fields #[Value.str (Str.ofString "fields_with") 1538, Value.str (Str.ofString "fields_with") 1539, Value.str (Str.ofString "/claim/cut.py") 1540, Value.int 530 0, Value.int 3 0, Value.int 0 0, Value.int 0 0, Value.int 3 0, Value.ref 947, Value.bool true, Value.int 181 0, Value.ref 948, Value.none, Value.ref 949, Value.ref 950, Value.ref 951, Value.int 1545 0, Value.int 530 0, Value.str (Str.ofString "/claim/cut.py") 1546] }
def o_1271 : Params → Obj := fun P => { cls := Value.type "tuple", data := Data.seq #[Value.str (Str.ofString "self") 1813] }
def o_1544 : Params → Obj := fun P => { cls := Value.type "code", data := Data.fields #[Value.str (Str.ofString "redo") 2174, Value.str (Str.ofString "redo") 2175, Value.str (Str.ofString "/claim/cut.py") 2176, Value.int 851 0, Value.int 3 0, Value.int 0 0, Value.int 0 0, Value.int 3 0, Value.ref 1395, Value.bool true, Value.int 181 0, Value.ref 1396, Value.none, Value.ref 1397, Value.ref 1398, Value.ref 1399, Value.int 2184 0, Value.int 851 0, Value.str (Str.ofString "/claim/cut.py") 2185] }
def o_1405 : Params → Obj := fun P => { cls := Value.none, data := Data.func { name := Str.ofString "jump", qualname := Str.ofString "jump", params := AT153, body := FuncBody.stmts BT153, scope := ST153, globals := 0, closure := [], defaults := Value.none, kwdefaults := Value.none } }
def o_1538 : Params → Obj := fun P => { cls := Value.none, data := Data.fields #[Value.int 1 0, Value.int 0 0, Value.ref 20, Value.int 7 0, Value.int 0 0, Value.ref 25, Value.int 9 0, Value.int 0 0, Value.ref 32, Value.int 11 0, Value.int 0 0, Value.ref 39, Value.int 13 0, Value.int 0 0, Value.ref 46, Value.int 15 0, Value.int 0 0, Value.ref 53, Value.int 17 0, Value.int 0 0, Value.ref 60, Value.int 19 0, Value.int 0 0, Value.ref 67, Value.int 33 0, Value.int 0 0, Value.ref 98, Value.int 35 0, Value.int 0 0, Value.ref 105, Value.int 39 0, Value.int 0 0, Value.ref 110, Value.int 48 0, Value.int 0 0, Value.ref 117, Value.int 61 0, Value.int 0 0, Value.ref 124, Value.int 70 0, Value.int 0 0, Value.ref 129, Value.int 72 0, Value.int 0 0, Value.ref 136, Value.int 74 0, Value.int 0 0, Value.ref 143, Value.int 93 0, Value.int 0 0, Value.ref 150, Value.int 95 0, Value.int 0 0, Value.ref 164, Value.int 100 0, Value.int 0 0, Value.ref 185, Value.int 105 0, Value.int 0 0, Value.ref 206, Value.int 110 0, Value.int 0 0, Value.ref 227, Value.int 115 0, Value.int 0 0, Value.ref 248, Value.int 120 0, Value.int 0 0, Value.ref 268, Value.int 122 0, Value.int 0 0, Value.ref 280, Value.int 124 0, Value.int 0 0, Value.ref 292, Value.int 126 0, Value.int 0 0, Value.ref 304, Value.int 128 0, Value.int 0 0, Value.ref 316, Value.int 130 0, Value.int 0 0, Value.ref 328, Value.int 132 0, Value.int 0 0, Value.ref 340, Value.int 134 0, Value.int 0 0, Value.ref 353, Value.int 139 0, Value.int 0 0, Value.ref 373, Value.int 141 0, Value.int 0 0, Value.ref 385, Value.int 143 0, Value.int 0 0, Value.ref 397, Value.int 145 0, Value.int 0 0, Value.ref 409, Value.int 147 0, Value.int 0 0, Value.ref 421, Value.int 149 0, Value.int 0 0, Value.ref 433, Value.int 151 0, Value.int 0 0, Value.ref 445, Value.int 155 0, Value.int 0 0, Value.ref 458, Value.int 185 0, Value.int 0 0, Value.ref 505, Value.int 189 0, Value.int 0 0, Value.ref 512, Value.int 193 0, Value.int 0 0, Value.ref 519, Value.int 197 0, Value.int 0 0, Value.ref 526, Value.int 205 0, Value.int 0 0, Value.ref 531, Value.int 213 0, Value.int 0 0, Value.ref 536, Value.int 227 0, Value.int 0 0, Value.ref 543, Value.int 234 0, Value.int 0 0, Value.ref 564, Value.int 246 0, Value.int 0 0, Value.ref 585, Value.int 251 0, Value.int 0 0, Value.ref 604, Value.int 255 0, Value.int 0 0, Value.ref 611, Value.int 261 0, Value.int 0 0, Value.ref 618, Value.int 268 0, Value.int 0 0, Value.ref 625, Value.int 270 0, Value.int 0 0, Value.ref 630, Value.int 273 0, Value.int 0 0, Value.ref 637, Value.int 282 0, Value.int 0 0, Value.ref 644, Value.int 284 0, Value.int 0 0, Value.ref 649, Value.int 288 0, Value.int 0 0, Value.ref 656, Value.int 290 0, Value.int 0 0, Value.ref 663, Value.int 295 0, Value.int 0 0, Value.ref 670, Value.int 299 0, Value.int 0 0, Value.ref 677, Value.int 304 0, Value.int 0 0, Value.ref 684, Value.int 308 0, Value.int 0 0, Value.ref 691, Value.int 310 0, Value.int 0 0, Value.ref 696, Value.int 312 0, Value.int 0 0, Value.ref 703, Value.int 318 0, Value.int 0 0, Value.ref 710, Value.int 323 0, Value.int 0 0, Value.ref 717, Value.int 325 0, Value.int 0 0, Value.ref 724, Value.int 334 0, Value.int 0 0, Value.ref 731, Value.int 339 0, Value.int 0 0, Value.ref 738, Value.int 344 0, Value.int 0 0, Value.ref 743, Value.int 346 0, Value.int 0 0, Value.ref 750, Value.int 351 0, Value.int 0 0, Value.ref 755, Value.int 355 0, Value.int 0 0, Value.ref 762, Value.int 363 0, Value.int 0 0, Value.ref 783, Value.int 368 0, Value.int 0 0, Value.ref 790, Value.int 403 0, Value.int 0 0, Value.ref 839, Value.int 408 0, Value.int 0 0, Value.ref 846, Value.int 415 0, Value.int 0 0, Value.ref 851, Value.int 423 0, Value.int 0 0, Value.ref 858, Value.int 427 0, Value.int 0 0, Value.ref 865, Value.int 431 0, Value.int 0 0, Value.ref 870, Value.int 437 0, Value.int 0 0, Value.ref 875, Value.int 442 0, Value.int 0 0, Value.ref 880, Value.int 447 0, Value.int 0 0, Value.ref 885, Value.int 456 0, Value.int 0 0, Value.ref 892, Value.int 463 0, Value.int 0 0, Value.ref 897, Value.int 479 0, Value.int 0 0, Value.ref 904, Value.int 494 0, Value.int 0 0, Value.ref 911, Value.int 504 0, Value.int 0 0, Value.ref 916, Value.int 509 0, Value.int 0 0, Value.ref 923, Value.int 519 0, Value.int 0 0, Value.ref 931, Value.int 523 0, Value.int 0 0, Value.ref 938, Value.int 526 0, Value.int 0 0, Value.ref 945, Value.int 530 0, Value.int 0 0, Value.ref 952, Value.int 535 0, Value.int 0 0, Value.ref 957, Value.int 539 0, Value.int 0 0, Value.ref 964, Value.int 544 0, Value.int 0 0, Value.ref 971, Value.int 546 0, Value.int 0 0, Value.ref 978, Value.int 550 0, Value.int 0 0, Value.ref 985, Value.int 555 0, Value.int 0 0, Value.ref 992, Value.int 559 0, Value.int 0 0, Value.ref 999, Value.int 561 0, Value.int 0 0, Value.ref 1006, Value.int 563 0, Value.int 0 0, Value.ref 1011, Value.int 568 0, Value.int 0 0, Value.ref 1018, Value.int 571 0, Value.int 0 0, Value.ref 1025, Value.int 583 0, Value.int 0 0, Value.ref 1032, Value.int 587 0, Value.int 0 0, Value.ref 1039, Value.int 591 0, Value.int 0 0, Value.ref 1046, Value.int 598 0, Value.int 0 0, Value.ref 1053, Value.int 600 0, Value.int 0 0, Value.ref 1058, Value.int 604 0, Value.int 0 0, Value.ref 1066, Value.int 606 0, Value.int 0 0, Value.ref 1071, Value.int 614 0, Value.int 0 0, Value.ref 1076, Value.int 620 0, Value.int 0 0, Value.ref 1081, Value.int 624 0, Value.int 0 0, Value.ref 1086, Value.int 636 0, Value.int 0 0, Value.ref 1091, Value.int 640 0, Value.int 0 0, Value.ref 1096, Value.int 654 0, Value.int 0 0, Value.ref 1105, Value.int 698 0, Value.int 0 0, Value.ref 1175, Value.int 700 0, Value.int 0 0, Value.ref 1182, Value.int 702 0, Value.int 0 0, Value.ref 1189, Value.int 704 0, Value.int 0 0, Value.ref 1196, Value.int 706 0, Value.int 0 0, Value.ref 1203, Value.int 711 0, Value.int 0 0, Value.ref 1210, Value.int 714 0, Value.int 0 0, Value.ref 1217, Value.int 718 0, Value.int 0 0, Value.ref 1224, Value.int 726 0, Value.int 0 0, Value.ref 1231, Value.int 733 0, Value.int 0 0, Value.ref 1238, Value.int 736 0, Value.int 0 0, Value.ref 1245, Value.int 739 0, Value.int 0 0, Value.ref 1252, Value.int 746 0, Value.int 0 0, Value.ref 1259, Value.int 748 0, Value.int 0 0, Value.ref 1266, Value.int 750 0, Value.int 0 0, Value.ref 1273, Value.int 753 0, Value.int 0 0, Value.ref 1280, Value.int 761 0, Value.int 0 0, Value.ref 1287, Value.int 764 0, Value.int 0 0, Value.ref 1295, Value.int 769 0, Value.int 0 0, Value.ref 1302, Value.int 773 0, Value.int 0 0, Value.ref 1309, Value.int 785 0, Value.int 0 0, Value.ref 1316, Value.int 792 0, Value.int 0 0, Value.ref 1323, Value.int 796 0, Value.int 0 0, Value.ref 1330, Value.int 801 0, Value.int 0 0, Value.ref 1337, Value.int 804 0, Value.int 0 0, Value.ref 1344, Value.int 808 0, Value.int 0 0, Value.ref 1351, Value.int 816 0, Value.int 0 0, Value.ref 1358, Value.int 819 0, Value.int 0 0, Value.ref 1365, Value.int 828 0, Value.int 0 0, Value.ref 1372, Value.int 834 0, Value.int 0 0, Value.ref 1379, Value.int 836 0, Value.int 0 0, Value.ref 1386, Value.int 845 0, Value.int 0 0, Value.ref 1393, Value.int 851 0, Value.int 0 0, Value.ref 1400, Value.int 861 0, Value.int 0 0, Value.ref 1405, Value.int 864 0, Value.int 0 0, Value.ref 1410, Value.int 868 0, Value.int 0 0, Value.ref 1418, Value.int 871 0, Value.int 0 0, Value.ref 1425] }
def o_1417 : Params → Obj := fun P => { cls := Value.type "tuple", data := Data.seq #[Value.str (Str.ofString "runner") 1987, Value.str (Str.ofString "step") 1988] }
def o_1556 : Params → Obj := fun P => { cls := Value.type "dict", data := Data.dict #[{ hash := PyData.keyHash P (Str.ofString "start"), key := Value.str (Str.ofString "start") 2199, val := Value.ref 1352 }, { hash := PyData.keyHash P (Str.ofString "end"), key := Value.str (Str.ofString "end") 2200, val := Value.ref 1359 }, { hash := PyData.keyHash P (Str.ofString "go"), key := Value.str (Str.ofString "go") 2201, val := Value.ref 1366 }, { hash := PyData.keyHash P (Str.ofString "give"), key := Value.str (Str.ofString "give") 2202, val := Value.ref 1373 }, { hash := PyData.keyHash P (Str.ofString "answer"), key := Value.str (Str.ofString "answer") 2203, val := Value.ref 1387 }, { hash := PyData.keyHash P (Str.ofString "fault"), key := Value.str (Str.ofString "fault") 2204, val := Value.ref 1394 }, { hash := PyData.keyHash P (Str.ofString "redo"), key := Value.str (Str.ofString "redo") 2205, val := Value.ref 1401 }] 7 }
def o_1214 : Params → Obj := fun P => { cls := Value.type "function", data := Data.func { name := Str.ofString "kept_by", qualname := Str.ofString "kept_by", params := AT133, body := FuncBody.stmts BT133, scope := ST133, globals := 3, closure := [], defaults := Value.none, kwdefaults := Value.none, pyModule := Value.str (Str.ofString "livehall.reach") 1703, code := Value.ref 1091 } }
def o_1489 : Params → Obj := fun P => { cls := Value.type "tuple", data := Data.seq #[Value.str (Str.ofString "store") 2106, Value.str (Str.ofString "value") 2107, Value.str (Str.ofString "word") 2108, Value.str (Str.ofString "values") 2109, Value.str (Str.ofString "each") 2110, Value.str (Str.ofString "number") 2111] }
def o_1078 : Params → Obj := fun P => { cls := Value.type "code", data := Data.fields #[Value.str (Str.ofString "write_field") 1554, Value.str (Str.ofString "write_field") 1555, Value.str (Str.ofString "/claim/cut.py") 1556, Value.int 539 0, Value.int 4 0, Value.int 0 0, Value.int 0 0, Value.int 3 0, Value.ref 959, Value.bool true, Value.int 181 0, Value.ref 960, Value.none, Value.ref 961, Value.ref 962, Value.ref 963, Value.int 1564 0, Value.int 539 0, Value.str (Str.ofString "/claim/cut.py") 1565] }
def o_1182 : Params → Obj := fun P => { cls := Value.type "dict", data := Data.dict #[{ hash := PyData.keyHash P (Str.ofString "make"), key := Value.str (Str.ofString "make") 1690, val := Value.ref 972 }, { hash := PyData.keyHash P (Str.ofString "put"), key := Value.str (Str.ofString "put") 1691, val := Value.ref 979 }, { hash := PyData.keyHash P (Str.ofString "hold"), key := Value.str (Str.ofString "hold") 1692, val := Value.ref 986 }, { hash := PyData.keyHash P (Str.ofString "let_go"), key := Value.str (Str.ofString "let_go") 1693, val := Value.ref 993 }, { hash := PyData.keyHash P (Str.ofString "swap"), key := Value.str (Str.ofString "swap") 1694, val := Value.ref 1040 }, { hash := PyData.keyHash P (Str.ofString "forward"), key := Value.str (Str.ofString "forward") 1695, val := Value.ref 1047 }] 6 }
def o_1457 : Params → Obj := fun P => { cls := Value.type "code", data := Data.fields #[Value.str (Str.ofString "beat") 2059, Value.str (Str.ofString "beat") 2060, Value.str (Str.ofString "/claim/cut.py") 2061, Value.int 785 0, Value.int 1 0, Value.int 0 0, Value.int 0 0, Value.int 3 0, Value.ref 1311, Value.bool true, Value.int 181 0, Value.ref 1312, Value.none, Value.ref 1313, Value.ref 1314, Value.ref 1315, Value.int 2063 0, Value.int 785 0, Value.str (Str.ofString "/claim/cut.py") 2064] }
def o_1318 : Params → Obj := fun P => { cls := Value.none, data := Data.func { name := Str.ofString "do_name", qualname := Str.ofString "do_name", params := AT141, body := FuncBody.stmts BT141, scope := ST141, globals := 0, closure := [], defaults := Value.none, kwdefaults := Value.none } }
def o_1046 : Params → Obj := fun P => { cls := Value.type "function", data := Data.func { name := Str.ofString "is_there", qualname := Str.ofString "is_there", params := AT106, body := FuncBody.stmts BT106, scope := ST106, globals := 3, closure := [], defaults := Value.none, kwdefaults := Value.none, pyModule := Value.str (Str.ofString "livehall.things") 1512, code := Value.ref 931 } }
def o_1521 : Params → Obj := fun P => { cls := Value.type "function", data := Data.func { name := Str.ofString "waits_for_ask", qualname := Str.ofString "waits_for_ask", params := AT170, body := FuncBody.stmts BT170, scope := ST170, globals := 3, closure := [], defaults := Value.none, kwdefaults := Value.none, pyModule := Value.str (Str.ofString "livehall.runs") 2066, code := Value.ref 1379 } }
def o_1382 : Params → Obj := fun P => { cls := Value.type "code", data := Data.fields #[Value.str (Str.ofString "do_put") 1941, Value.str (Str.ofString "do_put") 1942, Value.str (Str.ofString "/claim/cut.py") 1943, Value.int 739 0, Value.int 2 0, Value.int 0 0, Value.int 0 0, Value.int 3 0, Value.ref 1247, Value.bool true, Value.int 181 0, Value.ref 1248, Value.none, Value.ref 1249, Value.ref 1250, Value.ref 1251, Value.int 1947 0, Value.int 739 0, Value.str (Str.ofString "/claim/cut.py") 1948] }
def o_1115 : Params → Obj := fun P => { cls := Value.type "tuple", data := Data.seq #[Value.str (Str.ofString "value") 1605, Value.str (Str.ofString "others") 1606] }
def o_1302 : Params → Obj := fun P => { cls := Value.type "tuple", data := Data.seq #[Value.str (Str.ofString "runner") 1850, Value.str (Str.ofString "step") 1851] }
def o_1505 : Params → Obj := fun P => { cls := Value.none, data := Data.func { name := Str.ofString "go", qualname := Str.ofString "go", params := AT168, body := FuncBody.stmts BT168, scope := ST168, globals := 0, closure := [], defaults := Value.none, kwdefaults := Value.none } }
def o_1198 : Params → Obj := fun P => { cls := Value.type "code", data := Data.fields #[Value.str (Str.ofString "leading_fields") 1718, Value.str (Str.ofString "leading_fields") 1719, Value.str (Str.ofString "/claim/cut.py") 1720, Value.int 614 0, Value.int 1 0, Value.int 0 0, Value.int 0 0, Value.int 3 0, Value.ref 1073, Value.bool true, Value.int 181 0, Value.ref 1074, Value.none, Value.none, Value.none, Value.ref 1075, Value.int 1721 0, Value.int 614 0, Value.str (Str.ofString "/claim/cut.py") 1722] }
def o_1334 : Params → Obj := fun P => { cls := Value.type "function", data := Data.func { name := Str.ofString "do_field", qualname := Str.ofString "do_field", params := AT143, body := FuncBody.stmts BT143, scope := ST143, globals := 3, closure := [], defaults := Value.none, kwdefaults := Value.none, pyModule := Value.str (Str.ofString "livehall.runner") 1751, code := Value.ref 1203 } }
def o_1267 : Params → Obj := fun P => { cls := Value.type "code", data := Data.fields #[Value.str (Str.ofString "push") 1802, Value.str (Str.ofString "Runner.push") 1803, Value.str (Str.ofString "/claim/cut.py") 1804, Value.int 672 0, Value.int 2 0, Value.int 0 0, Value.int 0 0, Value.int 3 0, Value.ref 1135, Value.bool true, Value.int 181 0, Value.ref 1136, Value.none, Value.ref 1137, Value.ref 1138, Value.ref 1139, Value.int 1807 0, Value.int 672 0, Value.str (Str.ofString "/claim/cut.py") 1808] }
def o_1131 : Params → Obj := fun P => { cls := Value.type "function", data := Data.func { name := Str.ofString "lead_fields", qualname := Str.ofString "lead_fields", params := AT118, body := FuncBody.stmts BT118, scope := ST118, globals := 3, closure := [], defaults := Value.none, kwdefaults := Value.none, pyModule := Value.str (Str.ofString "livehall.things") 1512, code := Value.ref 1011 } }
def o_1155 : Params → Obj := fun P => { cls := Value.type "tuple", data := Data.seq #[Value.str (Str.ofString "store") 1656, Value.str (Str.ofString "one") 1657, Value.str (Str.ofString "other") 1658, Value.str (Str.ofString "first") 1659, Value.str (Str.ofString "second") 1660] }
def o_1428 : Params → Obj := fun P => { cls := Value.type "tuple", data := Data.seq #[Value.str (Str.ofString "runner") 2030, Value.str (Str.ofString "step") 2031, Value.str (Str.ofString "action") 2032] }
def o_1291 : Params → Obj := fun P => { cls := Value.type "dict", data := Data.dict #[{ hash := PyData.keyHash P (Str.ofString "__module__"), key := Value.str (Str.ofString "__module__") 1764, val := Value.str (Str.ofString "livehall.runner") 1751 }, { hash := PyData.keyHash P (Str.ofString "__firstlineno__"), key := Value.str (Str.ofString "__firstlineno__") 1768, val := Value.int 654 1767 }, { hash := PyData.keyHash P (Str.ofString "__init__"), key := Value.str (Str.ofString "__init__") 1777, val := Value.ref 1113 }, { hash := PyData.keyHash P (Str.ofString "row"), key := Value.str (Str.ofString "row") 1784, val := Value.ref 1120 }, { hash := PyData.keyHash P (Str.ofString "finish"), key := Value.str (Str.ofString "finish") 1793, val := Value.ref 1127 }, { hash := PyData.keyHash P (Str.ofString "pass_step"), key := Value.str (Str.ofString "pass_step") 1801, val := Value.ref 1134 }, { hash := PyData.keyHash P (Str.ofString "push"), key := Value.str (Str.ofString "push") 1809, val := Value.ref 1141 }, { hash := PyData.keyHash P (Str.ofString "pull"), key := Value.str (Str.ofString "pull") 1816, val := Value.ref 1148 }, { hash := PyData.keyHash P (Str.ofString "end_way"), key := Value.str (Str.ofString "end_way") 1825, val := Value.ref 1155 }, { hash := PyData.keyHash P (Str.ofString "meet_fault"), key := Value.str (Str.ofString "meet_fault") 1835, val := Value.ref 1162 }, { hash := PyData.keyHash P (Str.ofString "__static_attributes__"), key := Value.str (Str.ofString "__static_attributes__") 1839, val := Value.ref 1163 }, { hash := PyData.keyHash P (Str.ofString "__dict__"), key := Value.str (Str.ofString "__dict__") 1841, val := Value.ref 1166 }, { hash := PyData.keyHash P (Str.ofString "__weakref__"), key := Value.str (Str.ofString "__weakref__") 1843, val := Value.ref 1167 }, { hash := PyData.keyHash P (Str.ofString "__doc__"), key := Value.str (Str.ofString "__doc__") 1844, val := Value.none }] 4 }
def o_1358 : Params → Obj := fun P => { cls := Value.type "tuple", data := Data.seq #[Value.str (Str.ofString "runner") 1918, Value.str (Str.ofString "step") 1919, Value.str (Str.ofString "other") 1920, Value.str (Str.ofString "one") 1921] }
def o_1086 : Params → Obj := fun P => { cls := Value.type "function", data := Data.func { name := Str.ofString "make", qualname := Str.ofString "make", params := AT112, body := FuncBody.stmts BT112, scope := ST112, globals := 3, closure := [], defaults := Value.none, kwdefaults := Value.none, pyModule := Value.str (Str.ofString "livehall.things") 1512, code := Value.ref 971 } }
def o_1465 : Params → Obj := fun P => { cls := Value.type "function", data := Data.func { name := Str.ofString "run_row", qualname := Str.ofString "run_row", params := AT162, body := FuncBody.stmts BT162, scope := ST162, globals := 3, closure := [], defaults := Value.none, kwdefaults := Value.none, pyModule := Value.str (Str.ofString "livehall.runs") 2066, code := Value.ref 1323 } }
def o_1326 : Params → Obj := fun P => { cls := Value.type "code", data := Data.fields #[Value.str (Str.ofString "has_field") 1871, Value.str (Str.ofString "has_field") 1872, Value.str (Str.ofString "/claim/cut.py") 1873, Value.int 704 0, Value.int 2 0, Value.int 0 0, Value.int 0 0, Value.int 3 0, Value.ref 1191, Value.bool true, Value.int 181 0, Value.ref 1192, Value.none, Value.ref 1193, Value.ref 1194, Value.ref 1195, Value.int 1876 0, Value.int 704 0, Value.str (Str.ofString "/claim/cut.py") 1877] }
def o_1259 : Params → Obj := fun P => { cls := Value.none, data := Data.func { name := Str.ofString "pass_step", qualname := Str.ofString "Runner.pass_step", params := AM138x3, body := FuncBody.stmts BM138x3, scope := SM138x3, globals := 0, closure := [], defaults := Value.none, kwdefaults := Value.none } }
def o_1390 : Params → Obj := fun P => { cls := Value.type "function", data := Data.func { name := Str.ofString "do_give", qualname := Str.ofString "do_give", params := AT151, body := FuncBody.stmts BT151, scope := ST151, globals := 3, closure := [], defaults := Value.none, kwdefaults := Value.none, pyModule := Value.str (Str.ofString "livehall.runner") 1751, code := Value.ref 1259 } }
def o_1171 : Params → Obj := fun P => { cls := Value.none, data := Data.func { name := Str.ofString "field_told", qualname := Str.ofString "field_told", params := AT124, body := FuncBody.stmts BT124, scope := ST124, globals := 0, closure := [], defaults := Value.none, kwdefaults := Value.none } }
def o_1444 : Params → Obj := fun P => { cls := Value.none, data := Data.func { name := Str.ofString "begin_way", qualname := Str.ofString "begin_way", params := AT159, body := FuncBody.stmts BT159, scope := ST159, globals := 0, closure := [], defaults := Value.none, kwdefaults := Value.none } }
def o_1243 : Params → Obj := fun P => { cls := Value.type "tuple", data := Data.seq #[Value.str (Str.ofString "self") 1781] }
def o_1513 : Params → Obj := fun P => { cls := Value.type "code", data := Data.fields #[Value.str (Str.ofString "give") 2134, Value.str (Str.ofString "give") 2135, Value.str (Str.ofString "/claim/cut.py") 2136, Value.int 828 0, Value.int 3 0, Value.int 0 0, Value.int 0 0, Value.int 3 0, Value.ref 1367, Value.bool true, Value.int 181 0, Value.ref 1368, Value.none, Value.ref 1369, Value.ref 1370, Value.ref 1371, Value.int 2142 0, Value.int 828 0, Value.str (Str.ofString "/claim/cut.py") 2143] }
def o_1374 : Params → Obj := fun P => { cls := Value.none, data := Data.func { name := Str.ofString "do_let", qualname := Str.ofString "do_let", params := AT149, body := FuncBody.stmts BT149, scope := ST149, globals := 0, closure := [], defaults := Value.none, kwdefaults := Value.none } }
def o_1070 : Params → Obj := fun P => { cls := Value.none, data := Data.func { name := Str.ofString "new_thing", qualname := Str.ofString "new_thing", params := AT110, body := FuncBody.stmts BT110, scope := ST110, globals := 0, closure := [], defaults := Value.none, kwdefaults := Value.none } }
def o_1275 : Params → Obj := fun P => { cls := Value.type "function", data := Data.func { name := Str.ofString "pull", qualname := Str.ofString "Runner.pull", params := AM138x5, body := FuncBody.stmts BM138x5, scope := SM138x5, globals := 3, closure := [], defaults := Value.none, kwdefaults := Value.none, pyModule := Value.str (Str.ofString "livehall.runner") 1751, code := Value.ref 1147 } }
def o_1548 : Params → Obj := fun P => { cls := Value.none, data := Data.func { name := Str.ofString "frame_told", qualname := Str.ofString "frame_told", params := AT174, body := FuncBody.stmts BT174, scope := ST174, globals := 0, closure := [], defaults := Value.none, kwdefaults := Value.none } }
def o_1145 : Params → Obj := fun P => { cls := Value.type "function", data := Data.func { name := Str.ofString "lead_runs", qualname := Str.ofString "lead_runs", params := AT120, body := FuncBody.stmts BT120, scope := ST120, globals := 3, closure := [], defaults := Value.none, kwdefaults := Value.none, pyModule := Value.str (Str.ofString "livehall.things") 1512, code := Value.ref 1025 } }
def o_1281 : Params → Obj := fun P => { cls := Value.type "code", data := Data.fields #[Value.str (Str.ofString "end_way") 1817, Value.str (Str.ofString "Runner.end_way") 1818, Value.str (Str.ofString "/claim/cut.py") 1819, Value.int 679 0, Value.int 2 0, Value.int 0 0, Value.int 0 0, Value.int 3 0, Value.ref 1149, Value.bool true, Value.int 181 0, Value.ref 1150, Value.none, Value.ref 1151, Value.ref 1152, Value.ref 1153, Value.int 1823 0, Value.int 679 0, Value.str (Str.ofString "/claim/cut.py") 1824] }
def o_1554 : Params → Obj := fun P => { cls := Value.type "code", data := Data.fields #[Value.str (Str.ofString "frames_told") 2193, Value.str (Str.ofString "frames_told") 2194, Value.str (Str.ofString "/claim/cut.py") 2195, Value.int 864 0, Value.int 2 0, Value.int 0 0, Value.int 0 0, Value.int 3 0, Value.ref 1407, Value.bool true, Value.int 181 0, Value.ref 1408, Value.none, Value.none, Value.none, Value.ref 1409, Value.int 2196 0, Value.int 864 0, Value.str (Str.ofString "/claim/cut.py") 2197] }
def o_1212 : Params → Obj := fun P => { cls := Value.none, data := Data.func { name := Str.ofString "kept_by", qualname := Str.ofString "kept_by", params := AT133, body := FuncBody.stmts BT133, scope := ST133, globals := 0, closure := [], defaults := Value.none, kwdefaults := Value.none } }
def o_1348 : Params → Obj := fun P => { cls := Value.type "function", data := Data.func { name := Str.ofString "do_same", qualname := Str.ofString "do_same", params := AT145, body := FuncBody.stmts BT145, scope := ST145, globals := 3, closure := [], defaults := Value.none, kwdefaults := Value.none, pyModule := Value.str (Str.ofString "livehall.runner") 1751, code := Value.ref 1217 } }
def o_1177 : Params → Obj := fun P => { cls := Value.type "code", data := Data.fields #[Value.str (Str.ofString "held_told") 1684, Value.str (Str.ofString "held_told") 1685, Value.str (Str.ofString "/claim/cut.py") 1686, Value.int 600 0, Value.int 1 0, Value.int 0 0, Value.int 0 0, Value.int 3 0, Value.ref 1055, Value.bool true, Value.int 181 0, Value.ref 1056, Value.none, Value.none, Value.none, Value.ref 1057, Value.int 1687 0, Value.int 600 0, Value.str (Str.ofString "/claim/cut.py") 1688] }
def o_1316 : Params → Obj := fun P => { cls := Value.type "tuple", data := Data.seq #[Value.str (Str.ofString "runner") 1866, Value.str (Str.ofString "step") 1867] }
def o_1044 : Params → Obj := fun P => { cls := Value.none, data := Data.func { name := Str.ofString "is_there", qualname := Str.ofString "is_there", params := AT106, body := FuncBody.stmts BT106, scope := ST106, globals := 0, closure := [], defaults := Value.none, kwdefaults := Value.none } }
def o_1519 : Params → Obj := fun P => { cls := Value.none, data := Data.func { name := Str.ofString "waits_for_ask", qualname := Str.ofString "waits_for_ask", params := AT170, body := FuncBody.stmts BT170, scope := ST170, globals := 0, closure := [], defaults := Value.none, kwdefaults := Value.none } }
def o_1570 : Params → Obj := fun P => { cls := Value.type "function", data := Data.func { name := Str.ofString "check_way", qualname := Str.ofString "check_way", params := AT179, body := FuncBody.stmts BT179, scope := ST179, globals := 3, closure := [], defaults := Value.none, kwdefaults := Value.none, pyModule := Value.str (Str.ofString "livehall.ways") 2214, code := Value.ref 1425 } }
def o_1233 : Params → Obj := fun P => { cls := Value.type "frame", slots := #[some (Value.ref 1105), some (Value.ref 3), some (Value.ref 1102), none, some (Value.str (Str.ofString "livehall.runner") 1751), none, some (Value.ref 0)] }
def o_1503 : Params → Obj := fun P => { cls := Value.type "tuple", data := Data.seq #[Value.str (Str.ofString "store") 2126, Value.str (Str.ofString "run") 2127, Value.str (Str.ofString "beats") 2128, Value.str (Str.ofString "row") 2129, Value.str (Str.ofString "runner") 2130] }
def o_1097 : Params → Obj := fun P => { cls := Value.type "code", data := Data.fields #[Value.str (Str.ofString "put") 1575, Value.str (Str.ofString "put") 1576, Value.str (Str.ofString "/claim/cut.py") 1577, Value.int 546 0, Value.int 4 0, Value.int 0 0, Value.int 0 0, Value.int 3 0, Value.ref 973, Value.bool true, Value.int 181 0, Value.ref 974, Value.none, Value.ref 975, Value.ref 976, Value.ref 977, Value.int 1582 0, Value.int 546 0, Value.str (Str.ofString "/claim/cut.py") 1583] }
def o_1471 : Params → Obj := fun P => { cls := Value.type "code", data := Data.fields #[Value.str (Str.ofString "halted_row") 2076, Value.str (Str.ofString "halted_row") 2077, Value.str (Str.ofString "/claim/cut.py") 2078, Value.int 796 0, Value.int 2 0, Value.int 0 0, Value.int 0 0, Value.int 3 0, Value.ref 1325, Value.bool true, Value.int 181 0, Value.ref 1326, Value.none, Value.ref 1327, Value.ref 1328, Value.ref 1329, Value.int 2082 0, Value.int 796 0, Value.str (Str.ofString "/claim/cut.py") 2083] }
def o_1332 : Params → Obj := fun P => { cls := Value.none, data := Data.func { name := Str.ofString "do_field", qualname := Str.ofString "do_field", params := AT143, body := FuncBody.stmts BT143, scope := ST143, globals := 0, closure := [], defaults := Value.none, kwdefaults := Value.none } }
def o_1060 : Params → Obj := fun P => { cls := Value.type "function", data := Data.func { name := Str.ofString "thing_number", qualname := Str.ofString "thing_number", params := AT108, body := FuncBody.stmts BT108, scope := ST108, globals := 3, closure := [], defaults := Value.none, kwdefaults := Value.none, pyModule := Value.str (Str.ofString "livehall.things") 1512, code := Value.ref 945 } }
def o_1535 : Params → Obj := fun P => { cls := Value.type "function", data := Data.func { name := Str.ofString "fault", qualname := Str.ofString "fault", params := AT172, body := FuncBody.stmts BT172, scope := ST172, globals := 3, closure := [], defaults := Value.none, kwdefaults := Value.none, pyModule := Value.str (Str.ofString "livehall.runs") 2066, code := Value.ref 1393 } }
def o_1399 : Params → Obj := fun P => { cls := Value.type "code", data := Data.fields #[Value.str (Str.ofString "do_raise") 1958, Value.str (Str.ofString "do_raise") 1959, Value.str (Str.ofString "/claim/cut.py") 1960, Value.int 748 0, Value.int 2 0, Value.int 0 0, Value.int 0 0, Value.int 3 0, Value.ref 1261, Value.bool true, Value.int 181 0, Value.ref 1262, Value.none, Value.ref 1263, Value.ref 1264, Value.ref 1265, Value.int 1963 0, Value.int 748 0, Value.str (Str.ofString "/claim/cut.py") 1964] }
def o_1129 : Params → Obj := fun P => { cls := Value.none, data := Data.func { name := Str.ofString "lead_fields", qualname := Str.ofString "lead_fields", params := AT118, body := FuncBody.stmts BT118, scope := ST118, globals := 0, closure := [], defaults := Value.none, kwdefaults := Value.none } }
def o_1289 : Params → Obj := fun P => { cls := Value.type "function", data := Data.func { name := Str.ofString "meet_fault", qualname := Str.ofString "Runner.meet_fault", params := AM138x7, body := FuncBody.stmts BM138x7, scope := SM138x7, globals := 3, closure := [], defaults := Value.none, kwdefaults := Value.none, pyModule := Value.str (Str.ofString "livehall.runner") 1751, code := Value.ref 1161 } }
def o_1562 : Params → Obj := fun P => { cls := Value.type "code", data := Data.fields #[Value.str (Str.ofString "write_ways") 2216, Value.str (Str.ofString "write_ways") 2217, Value.str (Str.ofString "/claim/cut.py") 2218, Value.int 868 0, Value.int 3 0, Value.int 0 0, Value.int 0 0, Value.int 3 0, Value.ref 1413, Value.bool true, Value.int 181 0, Value.ref 1414, Value.none, Value.ref 1415, Value.ref 1416, Value.ref 1417, Value.int 2223 0, Value.int 868 0, Value.str (Str.ofString "/claim/cut.py") 2224] }
def o_1220 : Params → Obj := fun P => { cls := Value.type "dict", data := Data.dict #[{ hash := PyData.keyHash P (Str.ofString "sweep"), key := Value.str (Str.ofString "sweep") 1748, val := Value.ref 1097 }] 1 }
def o_1084 : Params → Obj := fun P => { cls := Value.none, data := Data.func { name := Str.ofString "make", qualname := Str.ofString "make", params := AT112, body := FuncBody.stmts BT112, scope := ST112, globals := 0, closure := [], defaults := Value.none, kwdefaults := Value.none } }
def o_1188 : Params → Obj := fun P => { cls := Value.type "code", data := Data.fields #[Value.str (Str.ofString "led_number") 1705, Value.str (Str.ofString "led_number") 1706, Value.str (Str.ofString "/claim/cut.py") 1707, Value.int 604 0, Value.int 1 0, Value.int 0 0, Value.int 0 0, Value.int 3 0, Value.ref 1061, Value.bool true, Value.int 181 0, Value.ref 1062, Value.none, Value.ref 1063, Value.ref 1064, Value.ref 1065, Value.int 1709 0, Value.int 604 0, Value.str (Str.ofString "/claim/cut.py") 1710] }
def o_1463 : Params → Obj := fun P => { cls := Value.none, data := Data.func { name := Str.ofString "run_row", qualname := Str.ofString "run_row", params := AT162, body := FuncBody.stmts BT162, scope := ST162, globals := 0, closure := [], defaults := Value.none, kwdefaults := Value.none } }
def o_1052 : Params → Obj := fun P => { cls := Value.type "code", data := Data.fields #[Value.str (Str.ofString "check_value") 1522, Value.str (Str.ofString "check_value") 1523, Value.str (Str.ofString "/claim/cut.py") 1524, Value.int 523 0, Value.int 2 0, Value.int 0 0, Value.int 0 0, Value.int 3 0, Value.ref 933, Value.bool true, Value.int 181 0, Value.ref 934, Value.none, Value.ref 935, Value.ref 936, Value.ref 937, Value.int 1527 0, Value.int 523 0, Value.str (Str.ofString "/claim/cut.py") 1528] }
def o_1257 : Params → Obj := fun P => { cls := Value.type "tuple", data := Data.seq #[Value.str (Str.ofString "self") 1797, Value.str (Str.ofString "top") 1798] }
def o_1527 : Params → Obj := fun P => { cls := Value.type "code", data := Data.fields #[Value.str (Str.ofString "answer") 2152, Value.str (Str.ofString "answer") 2153, Value.str (Str.ofString "/claim/cut.py") 2154, Value.int 836 0, Value.int 3 0, Value.int 0 0, Value.int 0 0, Value.int 3 0, Value.ref 1381, Value.bool true, Value.int 181 0, Value.ref 1382, Value.none, Value.ref 1383, Value.ref 1384, Value.ref 1385, Value.int 2160 0, Value.int 836 0, Value.str (Str.ofString "/claim/cut.py") 2161] }
def o_1388 : Params → Obj := fun P => { cls := Value.none, data := Data.func { name := Str.ofString "do_give", qualname := Str.ofString "do_give", params := AT151, body := FuncBody.stmts BT151, scope := ST151, globals := 0, closure := [], defaults := Value.none, kwdefaults := Value.none } }
def o_1169 : Params → Obj := fun P => { cls := Value.type "tuple", data := Data.seq #[Value.str (Str.ofString "store") 1678, Value.str (Str.ofString "thing") 1679, Value.str (Str.ofString "field") 1680] }
def o_1442 : Params → Obj := fun P => { cls := Value.type "tuple", data := Data.seq #[Value.str (Str.ofString "runner") 2048, Value.str (Str.ofString "store") 2049, Value.str (Str.ofString "top") 2050, Value.str (Str.ofString "word") 2051, Value.str (Str.ofString "asked") 2052, Value.str (Str.ofString "values") 2053, Value.str (Str.ofString "kind") 2054, Value.str (Str.ofString "way") 2055] }
def o_1372 : Params → Obj := fun P => { cls := Value.type "tuple", data := Data.seq #[Value.str (Str.ofString "runner") 1936, Value.str (Str.ofString "step") 1937] }
def o_1105 : Params → Obj := fun P => { cls := Value.type "function", data := Data.func { name := Str.ofString "hold", qualname := Str.ofString "hold", params := AT114, body := FuncBody.stmts BT114, scope := ST114, globals := 3, closure := [], defaults := Value.none, kwdefaults := Value.none, pyModule := Value.str (Str.ofString "livehall.things") 1512, code := Value.ref 985 } }
def o_1204 : Params → Obj := fun P => { cls := Value.type "function", data := Data.func { name := Str.ofString "steps_from", qualname := Str.ofString "steps_from", params := AT131, body := FuncBody.stmts BT131, scope := ST131, globals := 3, closure := [], defaults := Value.none, kwdefaults := Value.none, pyModule := Value.str (Str.ofString "livehall.reach") 1703, code := Value.ref 1081 } }
def o_1479 : Params → Obj := fun P => { cls := Value.type "function", data := Data.func { name := Str.ofString "state_told", qualname := Str.ofString "state_told", params := AT164, body := FuncBody.stmts BT164, scope := ST164, globals := 3, closure := [], defaults := Value.none, kwdefaults := Value.none, pyModule := Value.str (Str.ofString "livehall.runs") 2066, code := Value.ref 1337 } }
def o_1340 : Params → Obj := fun P => { cls := Value.type "code", data := Data.fields #[Value.str (Str.ofString "do_new") 1887, Value.str (Str.ofString "do_new") 1888, Value.str (Str.ofString "/claim/cut.py") 1889, Value.int 711 0, Value.int 2 0, Value.int 0 0, Value.int 0 0, Value.int 3 0, Value.ref 1205, Value.bool true, Value.int 181 0, Value.ref 1206, Value.none, Value.ref 1207, Value.ref 1208, Value.ref 1209, Value.int 1893 0, Value.int 711 0, Value.str (Str.ofString "/claim/cut.py") 1894] }
def o_1273 : Params → Obj := fun P => { cls := Value.none, data := Data.func { name := Str.ofString "pull", qualname := Str.ofString "Runner.pull", params := AM138x5, body := FuncBody.stmts BM138x5, scope := SM138x5, globals := 0, closure := [], defaults := Value.none, kwdefaults := Value.none } }
def o_1407 : Params → Obj := fun P => { cls := Value.type "function", data := Data.func { name := Str.ofString "jump", qualname := Str.ofString "jump", params := AT153, body := FuncBody.stmts BT153, scope := ST153, globals := 3, closure := [], defaults := Value.none, kwdefaults := Value.none, pyModule := Value.str (Str.ofString "livehall.runner") 1751, code := Value.ref 1273 } }
def o_1137 : Params → Obj := fun P => { cls := Value.type "code", data := Data.fields #[Value.str (Str.ofString "lead_names") 1624, Value.str (Str.ofString "lead_names") 1625, Value.str (Str.ofString "/claim/cut.py") 1626, Value.int 568 0, Value.int 2 0, Value.int 0 0, Value.int 0 0, Value.int 3 0, Value.ref 1013, Value.bool true, Value.int 181 0, Value.ref 1014, Value.none, Value.ref 1015, Value.ref 1016, Value.ref 1017, Value.int 1630 0, Value.int 568 0, Value.str (Str.ofString "/claim/cut.py") 1631] }
def o_1419 : Params → Obj := fun P => { cls := Value.none, data := Data.func { name := Str.ofString "do_jump", qualname := Str.ofString "do_jump", params := AT155, body := FuncBody.stmts BT155, scope := ST155, globals := 0, closure := [], defaults := Value.none, kwdefaults := Value.none } }
def o_1285 : Params → Obj := fun P => { cls := Value.type "tuple", data := Data.seq #[Value.str (Str.ofString "self") 1829, Value.str (Str.ofString "value") 1830, Value.str (Str.ofString "frame") 1831, Value.str (Str.ofString "top") 1832] }
def o_1491 : Params → Obj := fun P => { cls := Value.none, data := Data.func { name := Str.ofString "start", qualname := Str.ofString "start", params := AT166, body := FuncBody.stmts BT166, scope := ST166, globals := 0, closure := [], defaults := Value.none, kwdefaults := Value.none } }
def o_1320 : Params → Obj := fun P => { cls := Value.type "function", data := Data.func { name := Str.ofString "do_name", qualname := Str.ofString "do_name", params := AT141, body := FuncBody.stmts BT141, scope := ST141, globals := 3, closure := [], defaults := Value.none, kwdefaults := Value.none, pyModule := Value.str (Str.ofString "livehall.runner") 1751, code := Value.ref 1189 } }
def o_1253 : Params → Obj := fun P => { cls := Value.type "code", data := Data.fields #[Value.str (Str.ofString "finish") 1785, Value.str (Str.ofString "Runner.finish") 1786, Value.str (Str.ofString "/claim/cut.py") 1787, Value.int 664 0, Value.int 3 0, Value.int 0 0, Value.int 0 0, Value.int 3 0, Value.ref 1121, Value.bool true, Value.int 181 0, Value.ref 1122, Value.none, Value.ref 1123, Value.ref 1124, Value.ref 1125, Value.int 1791 0, Value.int 664 0, Value.str (Str.ofString "/claim/cut.py") 1792] }
def o_1117 : Params → Obj := fun P => { cls := Value.none, data := Data.func { name := Str.ofString "leads", qualname := Str.ofString "leads", params := AT116, body := FuncBody.stmts BT116, scope := ST116, globals := 0, closure := [], defaults := Value.none, kwdefaults := Value.none } }
def o_1165 : Params → Obj := fun P => { cls := Value.type "code", data := Data.fields #[Value.str (Str.ofString "forward") 1664, Value.str (Str.ofString "forward") 1665, Value.str (Str.ofString "/claim/cut.py") 1666, Value.int 591 0, Value.int 3 0, Value.int 0 0, Value.int 0 0, Value.int 3 0, Value.ref 1041, Value.bool true, Value.int 181 0, Value.ref 1042, Value.none, Value.ref 1043, Value.ref 1044, Value.ref 1045, Value.int 1672 0, Value.int 591 0, Value.str (Str.ofString "/claim/cut.py") 1673] }
def o_1438 : Params → Obj := fun P => { cls := Value.type "code", data := Data.fields #[Value.str (Str.ofString "first_looked") 2036, Value.str (Str.ofString "first_looked") 2037, Value.str (Str.ofString "/claim/cut.py") 2038, Value.int 769 0, Value.int 3 0, Value.int 0 0, Value.int 0 0, Value.int 3 0, Value.ref 1297, Value.bool true, Value.int 181 0, Value.ref 1298, Value.none, Value.ref 1299, Value.ref 1300, Value.ref 1301, Value.int 2042 0, Value.int 769 0, Value.str (Str.ofString "/claim/cut.py") 2043] }
def o_1304 : Params → Obj := fun P => { cls := Value.none, data := Data.func { name := Str.ofString "do_value", qualname := Str.ofString "do_value", params := AT139, body := FuncBody.stmts BT139, scope := ST139, globals := 0, closure := [], defaults := Value.none, kwdefaults := Value.none } }
def o_1507 : Params → Obj := fun P => { cls := Value.type "function", data := Data.func { name := Str.ofString "go", qualname := Str.ofString "go", params := AT168, body := FuncBody.stmts BT168, scope := ST168, globals := 3, closure := [], defaults := Value.none, kwdefaults := Value.none, pyModule := Value.str (Str.ofString "livehall.runs") 2066, code := Value.ref 1365 } }
def o_1368 : Params → Obj := fun P => { cls := Value.type "code", data := Data.fields #[Value.str (Str.ofString "do_do") 1925, Value.str (Str.ofString "do_do") 1926, Value.str (Str.ofString "/claim/cut.py") 1927, Value.int 733 0, Value.int 2 0, Value.int 0 0, Value.int 0 0, Value.int 3 0, Value.ref 1233, Value.bool true, Value.int 181 0, Value.ref 1234, Value.none, Value.ref 1235, Value.ref 1236, Value.ref 1237, Value.int 1930 0, Value.int 733 0, Value.str (Str.ofString "/claim/cut.py") 1931] }
def o_1101 : Params → Obj := fun P => { cls := Value.type "tuple", data := Data.seq #[Value.str (Str.ofString "store") 1588, Value.str (Str.ofString "name") 1589, Value.str (Str.ofString "value") 1590] }
def o_1475 : Params → Obj := fun P => { cls := Value.type "tuple", data := Data.seq #[Value.str (Str.ofString "store") 2088, Value.str (Str.ofString "run") 2089, Value.str (Str.ofString "row") 2090] }
def o_1403 : Params → Obj := fun P => { cls := Value.type "tuple", data := Data.seq #[Value.str (Str.ofString "runner") 1969, Value.str (Str.ofString "place") 1970, Value.str (Str.ofString "top") 1971] }
def o_1157 : Params → Obj := fun P => { cls := Value.none, data := Data.func { name := Str.ofString "swap", qualname := Str.ofString "swap", params := AT122, body := FuncBody.stmts BT122, scope := ST122, globals := 0, closure := [], defaults := Value.none, kwdefaults := Value.none } }
def o_1430 : Params → Obj := fun P => { cls := Value.none, data := Data.func { name := Str.ofString "go_on", qualname := Str.ofString "go_on", params := AT157, body := FuncBody.stmts BT157, scope := ST157, globals := 0, closure := [], defaults := Value.none, kwdefaults := Value.none } }
def o_1293 : Params → Obj := fun P => { cls := Value.type "getset_descriptor", data := Data.fields #[Value.str (Str.ofString "__dict__") 1840, Value.ref 1165, Value.builtin "function.__dict__", Value.builtin "function.__dict__#set"] }
def o_1566 : Params → Obj := fun P => { cls := Value.type "tuple", data := Data.seq #[Value.str (Str.ofString "store") 2229, Value.str (Str.ofString "word") 2230, Value.str (Str.ofString "body") 2231, Value.str (Str.ofString "names") 2232, Value.str (Str.ofString "name") 2233, Value.str (Str.ofString "kind") 2234] }
def o_1229 : Params → Obj := fun P => { cls := Value.type "dict", data := Data.dict #[{ hash := PyData.keyHash P (Str.ofString "__module__"), key := Value.str (Str.ofString "__module__") 1764, val := Value.str (Str.ofString "livehall.runner") 1751 }, { hash := PyData.keyHash P (Str.ofString "__qualname__"), key := Value.str (Str.ofString "__qualname__") 1766, val := Value.str (Str.ofString "Runner") 1765 }, { hash := PyData.keyHash P (Str.ofString "__firstlineno__"), key := Value.str (Str.ofString "__firstlineno__") 1768, val := Value.int 654 1767 }, { hash := PyData.keyHash P (Str.ofString "__init__"), key := Value.str (Str.ofString "__init__") 1777, val := Value.ref 1113 }, { hash := PyData.keyHash P (Str.ofString "row"), key := Value.str (Str.ofString "row") 1784, val := Value.ref 1120 }, { hash := PyData.keyHash P (Str.ofString "finish"), key := Value.str (Str.ofString "finish") 1793, val := Value.ref 1127 }, { hash := PyData.keyHash P (Str.ofString "pass_step"), key := Value.str (Str.ofString "pass_step") 1801, val := Value.ref 1134 }, { hash := PyData.keyHash P (Str.ofString "push"), key := Value.str (Str.ofString "push") 1809, val := Value.ref 1141 }, { hash := PyData.keyHash P (Str.ofString "pull"), key := Value.str (Str.ofString "pull") 1816, val := Value.ref 1148 }, { hash := PyData.keyHash P (Str.ofString "end_way"), key := Value.str (Str.ofString "end_way") 1825, val := Value.ref 1155 }, { hash := PyData.keyHash P (Str.ofString "meet_fault"), key := Value.str (Str.ofString "meet_fault") 1835, val := Value.ref 1162 }, { hash := PyData.keyHash P (Str.ofString "__static_attributes__"), key := Value.str (Str.ofString "__static_attributes__") 1839, val := Value.ref 1163 }] 12 }
def o_1499 : Params → Obj := fun P => { cls := Value.type "code", data := Data.fields #[Value.str (Str.ofString "end") 2115, Value.str (Str.ofString "end") 2116, Value.str (Str.ofString "/claim/cut.py") 2117, Value.int 816 0, Value.int 2 0, Value.int 0 0, Value.int 0 0, Value.int 3 0, Value.ref 1353, Value.bool true, Value.int 181 0, Value.ref 1354, Value.none, Value.ref 1355, Value.ref 1356, Value.ref 1357, Value.int 2120 0, Value.int 816 0, Value.str (Str.ofString "/claim/cut.py") 2121] }
def o_1360 : Params → Obj := fun P => { cls := Value.none, data := Data.func { name := Str.ofString "do_count", qualname := Str.ofString "do_count", params := AT147, body := FuncBody.stmts BT147, scope := ST147, globals := 0, closure := [], defaults := Value.none, kwdefaults := Value.none } }
def o_1192 : Params → Obj := fun P => { cls := Value.none, data := Data.func { name := Str.ofString "roots", qualname := Str.ofString "roots", params := AT129, body := FuncBody.stmts BT129, scope := ST129, globals := 0, closure := [], defaults := Value.none, kwdefaults := Value.none } }
def o_1056 : Params → Obj := fun P => { cls := Value.type "tuple", data := Data.seq #[Value.str (Str.ofString "store") 1533, Value.str (Str.ofString "thing") 1534] }
def o_1261 : Params → Obj := fun P => { cls := Value.type "function", data := Data.func { name := Str.ofString "pass_step", qualname := Str.ofString "Runner.pass_step", params := AM138x3, body := FuncBody.stmts BM138x3, scope := SM138x3, globals := 3, closure := [], defaults := Value.none, kwdefaults := Value.none, pyModule := Value.str (Str.ofString "livehall.runner") 1751, code := Value.ref 1133 } }
def o_1531 : Params → Obj := fun P => { cls := Value.type "tuple", data := Data.seq #[Value.str (Str.ofString "store") 2166, Value.str (Str.ofString "run") 2167, Value.str (Str.ofString "value") 2168, Value.str (Str.ofString "row") 2169, Value.str (Str.ofString "runner") 2170] }
def o_1125 : Params → Obj := fun P => { cls := Value.type "code", data := Data.fields #[Value.str (Str.ofString "led") 1610, Value.str (Str.ofString "led") 1611, Value.str (Str.ofString "/claim/cut.py") 1612, Value.int 561 0, Value.int 2 0, Value.int 0 0, Value.int 0 0, Value.int 3 0, Value.ref 1001, Value.bool true, Value.int 181 0, Value.ref 1002, Value.none, Value.ref 1003, Value.ref 1004, Value.ref 1005, Value.int 1615 0, Value.int 561 0, Value.str (Str.ofString "/claim/cut.py") 1616] }
def o_1173 : Params → Obj := fun P => { cls := Value.type "function", data := Data.func { name := Str.ofString "field_told", qualname := Str.ofString "field_told", params := AT124, body := FuncBody.stmts BT124, scope := ST124, globals := 3, closure := [], defaults := Value.none, kwdefaults := Value.none, pyModule := Value.str (Str.ofString "livehall.things") 1512, code := Value.ref 1053 } }
def o_1446 : Params → Obj := fun P => { cls := Value.type "function", data := Data.func { name := Str.ofString "begin_way", qualname := Str.ofString "begin_way", params := AT159, body := FuncBody.stmts BT159, scope := ST159, globals := 3, closure := [], defaults := Value.none, kwdefaults := Value.none, pyModule := Value.str (Str.ofString "livehall.runner") 1751, code := Value.ref 1309 } }
def o_1312 : Params → Obj := fun P => { cls := Value.type "code", data := Data.fields #[Value.str (Str.ofString "do_self") 1855, Value.str (Str.ofString "do_self") 1856, Value.str (Str.ofString "/claim/cut.py") 1857, Value.int 700 0, Value.int 2 0, Value.int 0 0, Value.int 0 0, Value.int 3 0, Value.ref 1177, Value.bool true, Value.int 181 0, Value.ref 1178, Value.none, Value.ref 1179, Value.ref 1180, Value.ref 1181, Value.int 1860 0, Value.int 700 0, Value.str (Str.ofString "/claim/cut.py") 1861] }
def o_1245 : Params → Obj := fun P => { cls := Value.none, data := Data.func { name := Str.ofString "row", qualname := Str.ofString "Runner.row", params := AM138x1, body := FuncBody.stmts BM138x1, scope := SM138x1, globals := 0, closure := [], defaults := Value.none, kwdefaults := Value.none } }
def o_1376 : Params → Obj := fun P => { cls := Value.type "function", data := Data.func { name := Str.ofString "do_let", qualname := Str.ofString "do_let", params := AT149, body := FuncBody.stmts BT149, scope := ST149, globals := 3, closure := [], defaults := Value.none, kwdefaults := Value.none, pyModule := Value.str (Str.ofString "livehall.runner") 1751, code := Value.ref 1245 } }
def o_1208 : Params → Obj := fun P => { cls := Value.type "code", data := Data.fields #[Value.str (Str.ofString "reached") 1730, Value.str (Str.ofString "reached") 1731, Value.str (Str.ofString "/claim/cut.py") 1732, Value.int 624 0, Value.int 2 0, Value.int 0 0, Value.int 0 0, Value.int 3 0, Value.ref 1083, Value.bool true, Value.int 181 0, Value.ref 1084, Value.none, Value.none, Value.none, Value.ref 1085, Value.int 1733 0, Value.int 624 0, Value.str (Str.ofString "/claim/cut.py") 1734] }
def o_1344 : Params → Obj := fun P => { cls := Value.type "tuple", data := Data.seq #[Value.str (Str.ofString "runner") 1899, Value.str (Str.ofString "step") 1900, Value.str (Str.ofString "other") 1901, Value.str (Str.ofString "one") 1902] }
def o_1072 : Params → Obj := fun P => { cls := Value.type "function", data := Data.func { name := Str.ofString "new_thing", qualname := Str.ofString "new_thing", params := AT110, body := FuncBody.stmts BT110, scope := ST110, globals := 3, closure := [], defaults := Value.none, kwdefaults := Value.none, pyModule := Value.str (Str.ofString "livehall.things") 1512, code := Value.ref 957 } }
def o_1550 : Params → Obj := fun P => { cls := Value.type "function", data := Data.func { name := Str.ofString "frame_told", qualname := Str.ofString "frame_told", params := AT174, body := FuncBody.stmts BT174, scope := ST174, globals := 3, closure := [], defaults := Value.none, kwdefaults := Value.none, pyModule := Value.str (Str.ofString "livehall.runs") 2066, code := Value.ref 1405 } }
def o_1141 : Params → Obj := fun P => { cls := Value.type "tuple", data := Data.seq #[Value.str (Str.ofString "store") 1636, Value.str (Str.ofString "others") 1637, Value.str (Str.ofString "change") 1638, Value.str (Str.ofString "number") 1639, Value.str (Str.ofString "outcome") 1640] }
def tree_1570 : Params → BT := fun P => BT.node (boot_o_0 P) (BT.node (boot_o_1 P) (BT.node (o_1537 P) (BT.node (boot_o_7 P) (BT.node (pre.o_600 P) (BT.node (pre.o_23 P) (BT.node (pre.o_836 P) (BT.node (pre.o_836 P) (BT.node (pre.o_279 P) (BT.node (pre.o_601 P) (BT.node (o_1142 P) BT.nil BT.nil) BT.nil) (BT.node (pre.o_600 P) (BT.node (o_1412 P) BT.nil BT.nil) BT.nil)) (BT.node (pre.o_600 P) (BT.node (pre.o_600 P) (BT.node (o_1278 P) BT.nil BT.nil) BT.nil) (BT.node (pre.o_836 P) (BT.node (pre.o_600 P) BT.nil BT.nil) BT.nil))) (BT.node (pre.o_600 P) (BT.node (pre.o_363 P) (BT.node (pre.o_668 P) (BT.node (o_1209 P) BT.nil BT.nil) BT.nil) (BT.node (pre.o_939 P) (BT.node (o_1484 P) BT.nil BT.nil) BT.nil)) (BT.node (pre.o_600 P) (BT.node (pre.o_802 P) (BT.node (pre.o_600 P) BT.nil BT.nil) BT.nil) (BT.node (pre.o_600 P) BT.nil BT.nil)))) (BT.node (pre.o_94 P) (BT.node (pre.o_242 P) (BT.node (pre.o_166 P) (BT.node (pre.o_633 P) (BT.node (pre.o_600 P) BT.nil BT.nil) BT.nil) (BT.node (pre.o_600 P) (BT.node (pre.o_600 P) BT.nil BT.nil) BT.nil)) (BT.node (pre.o_487 P) (BT.node (pre.o_770 P) (BT.node (o_1313 P) BT.nil BT.nil) BT.nil) (BT.node (pre.o_836 P) BT.nil BT.nil))) (BT.node (pre.o_243 P) (BT.node (pre.o_600 P) (BT.node (pre.o_836 P) (BT.node (o_1246 P) BT.nil BT.nil) BT.nil) (BT.node (pre.o_600 P) (BT.node (pre.o_836 P) BT.nil BT.nil) BT.nil)) (BT.node (pre.o_566 P) (BT.node (pre.o_837 P) (BT.node (pre.o_600 P) BT.nil BT.nil) BT.nil) (BT.node (o_1110 P) BT.nil BT.nil))))) (BT.node (pre.o_39 P) (BT.node (pre.o_73 P) (BT.node (pre.o_142 P) (BT.node (pre.o_299 P) (BT.node (pre.o_617 P) (BT.node (o_1158 P) BT.nil BT.nil) BT.nil) (BT.node (pre.o_888 P) (BT.node (o_1431 P) BT.nil BT.nil) BT.nil)) (BT.node (pre.o_600 P) (BT.node (pre.o_754 P) (BT.node (o_1294 P) BT.nil BT.nil) BT.nil) (BT.node (pre.o_1022 P) (BT.node (pre.o_600 P) BT.nil BT.nil) BT.nil))) (BT.node (pre.o_223 P) (BT.node (pre.o_166 P) (BT.node (pre.o_687 P) (BT.node (pre.o_600 P) BT.nil BT.nil) BT.nil) (BT.node (pre.o_958 P) (BT.node (o_1500 P) BT.nil BT.nil) BT.nil)) (BT.node (pre.o_600 P) (BT.node (pre.o_600 P) (BT.node (o_1361 P) BT.nil BT.nil) BT.nil) (BT.node (o_1094 P) BT.nil BT.nil)))) (BT.node (pre.o_110 P) (BT.node (pre.o_183 P) (BT.node (pre.o_836 P) (BT.node (pre.o_600 P) (BT.node (o_1193 P) BT.nil BT.nil) BT.nil) (BT.node (pre.o_923 P) (BT.node (o_1468 P) BT.nil BT.nil) BT.nil)) (BT.node (pre.o_600 P) (BT.node (pre.o_836 P) (BT.node (pre.o_836 P) BT.nil BT.nil) BT.nil) (BT.node (pre.o_600 P) BT.nil BT.nil))) (BT.node (pre.o_259 P) (BT.node (pre.o_423 P) (BT.node (pre.o_600 P) (BT.node (pre.o_600 P) BT.nil BT.nil) BT.nil) (BT.node (pre.o_990 P) (BT.node (pre.o_600 P) BT.nil BT.nil) BT.nil)) (BT.node (pre.o_582 P) (BT.node (pre.o_853 P) (BT.node (o_1396 P) BT.nil BT.nil) BT.nil) (BT.node (o_1126 P) BT.nil BT.nil)))))) (BT.node (pre.o_836 P) (BT.node (pre.o_31 P) (BT.node (pre.o_65 P) (BT.node (pre.o_134 P) (BT.node (pre.o_166 P) (BT.node (pre.o_609 P) (BT.node (o_1150 P) BT.nil BT.nil) BT.nil) (BT.node (pre.o_880 P) (BT.node (o_1420 P) BT.nil BT.nil) BT.nil)) (BT.node (pre.o_455 P) (BT.node (pre.o_836 P) (BT.node (pre.o_600 P) BT.nil BT.nil) BT.nil) (BT.node (pre.o_1014 P) (BT.node (o_1559 P) BT.nil BT.nil) BT.nil))) (BT.node (pre.o_211 P) (BT.node (pre.o_836 P) (BT.node (pre.o_600 P) (BT.node (o_1217 P) BT.nil BT.nil) BT.nil) (BT.node (pre.o_950 P) (BT.node (o_1492 P) BT.nil BT.nil) BT.nil)) (BT.node (pre.o_542 P) (BT.node (pre.o_810 P) (BT.node (o_1353 P) BT.nil BT.nil) BT.nil) (BT.node (pre.o_836 P) BT.nil BT.nil)))) (BT.node (pre.o_600 P) (BT.node (pre.o_175 P) (BT.node (pre.o_331 P) (BT.node (pre.o_641 P) (BT.node (o_1185 P) BT.nil BT.nil) BT.nil) (BT.node (pre.o_836 P) (BT.node (pre.o_836 P) BT.nil BT.nil) BT.nil)) (BT.node (pre.o_600 P) (BT.node (pre.o_600 P) (BT.node (pre.o_600 P) BT.nil BT.nil) BT.nil) (BT.node (o_1049 P) BT.nil BT.nil))) (BT.node (pre.o_836 P) (BT.node (pre.o_600 P) (BT.node (pre.o_711 P) (BT.node (o_1254 P) BT.nil BT.nil) BT.nil) (BT.node (pre.o_982 P) (BT.node (o_1524 P) BT.nil BT.nil) BT.nil)) (BT.node (pre.o_574 P) (BT.node (pre.o_845 P) (BT.node (pre.o_836 P) BT.nil BT.nil) BT.nil) (BT.node (o_1118 P) BT.nil BT.nil))))) (BT.node (pre.o_600 P) (BT.node (pre.o_81 P) (BT.node (pre.o_155 P) (BT.node (pre.o_836 P) (BT.node (pre.o_625 P) (BT.node (o_1166 P) BT.nil BT.nil) BT.nil) (BT.node (pre.o_899 P) (BT.node (o_1439 P) BT.nil BT.nil) BT.nil)) (BT.node (pre.o_600 P) (BT.node (pre.o_762 P) (BT.node (o_1305 P) BT.nil BT.nil) BT.nil) (BT.node (pre.o_836 P) BT.nil BT.nil))) (BT.node (pre.o_231 P) (BT.node (pre.o_395 P) (BT.node (pre.o_695 P) (BT.node (o_1238 P) BT.nil BT.nil) BT.nil) (BT.node (pre.o_966 P) (BT.node (pre.o_600 P) BT.nil BT.nil) BT.nil)) (BT.node (pre.o_558 P) (BT.node (pre.o_836 P) (BT.node (o_1369 P) BT.nil BT.nil) BT.nil) (BT.node (pre.o_600 P) BT.nil BT.nil)))) (BT.node (pre.o_600 P) (BT.node (pre.o_600 P) (BT.node (pre.o_166 P) (BT.node (pre.o_836 P) (BT.node (pre.o_836 P) BT.nil BT.nil) BT.nil) (BT.node (pre.o_600 P) (BT.node (pre.o_600 P) BT.nil BT.nil) BT.nil)) (BT.node (pre.o_519 P) (BT.node (pre.o_794 P) (BT.node (o_1337 P) BT.nil BT.nil) BT.nil) (BT.node (o_1065 P) BT.nil BT.nil))) (BT.node (pre.o_271 P) (BT.node (pre.o_600 P) (BT.node (pre.o_727 P) (BT.node (pre.o_836 P) BT.nil BT.nil) BT.nil) (BT.node (pre.o_600 P) (BT.node (o_1543 P) BT.nil BT.nil) BT.nil)) (BT.node (pre.o_600 P) (BT.node (pre.o_864 P) (BT.node (pre.o_600 P) BT.nil BT.nil) BT.nil) (BT.node (o_1134 P) BT.nil BT.nil))))))) (BT.node (pre.o_600 P) (BT.node (pre.o_11 P) (BT.node (pre.o_836 P) (BT.node (pre.o_59 P) (BT.node (pre.o_600 P) (BT.node (pre.o_283 P) (BT.node (pre.o_836 P) (BT.node (pre.o_600 P) BT.nil BT.nil) BT.nil) (BT.node (pre.o_876 P) (BT.node (pre.o_836 P) BT.nil BT.nil) BT.nil)) (BT.node (pre.o_600 P) (BT.node (pre.o_742 P) (BT.node (o_1282 P) BT.nil BT.nil) BT.nil) (BT.node (pre.o_600 P) (BT.node (o_1555 P) BT.nil BT.nil) BT.nil))) (BT.node (pre.o_207 P) (BT.node (pre.o_166 P) (BT.node (pre.o_672 P) (BT.node (o_1213 P) BT.nil BT.nil) BT.nil) (BT.node (pre.o_836 P) (BT.node (pre.o_836 P) BT.nil BT.nil) BT.nil)) (BT.node (pre.o_535 P) (BT.node (pre.o_806 P) (BT.node (pre.o_600 P) BT.nil BT.nil) BT.nil) (BT.node (o_1077 P) BT.nil BT.nil)))) (BT.node (pre.o_98 P) (BT.node (pre.o_171 P) (BT.node (pre.o_836 P) (BT.node (pre.o_637 P) (BT.node (o_1178 P) BT.nil BT.nil) BT.nil) (BT.node (pre.o_911 P) (BT.node (o_1456 P) BT.nil BT.nil) BT.nil)) (BT.node (pre.o_600 P) (BT.node (pre.o_600 P) (BT.node (pre.o_600 P) BT.nil BT.nil) BT.nil) (BT.node (o_1045 P) BT.nil BT.nil))) (BT.node (pre.o_247 P) (BT.node (pre.o_411 P) (BT.node (pre.o_707 P) (BT.node (o_1250 P) BT.nil BT.nil) BT.nil) (BT.node (pre.o_600 P) (BT.node (o_1520 P) BT.nil BT.nil) BT.nil)) (BT.node (pre.o_570 P) (BT.node (pre.o_841 P) (BT.node (o_1381 P) BT.nil BT.nil) BT.nil) (BT.node (pre.o_836 P) BT.nil BT.nil))))) (BT.node (pre.o_600 P) (BT.node (pre.o_77 P) (BT.node (pre.o_151 P) (BT.node (pre.o_166 P) (BT.node (pre.o_621 P) (BT.node (o_1162 P) BT.nil BT.nil) BT.nil) (BT.node (pre.o_895 P) (BT.node (o_1435 P) BT.nil BT.nil) BT.nil)) (BT.node (pre.o_471 P) (BT.node (pre.o_836 P) (BT.node (pre.o_836 P) BT.nil BT.nil) BT.nil) (BT.node (pre.o_1029 P) BT.nil BT.nil))) (BT.node (pre.o_227 P) (BT.node (pre.o_836 P) (BT.node (pre.o_691 P) (BT.node (pre.o_600 P) BT.nil BT.nil) BT.nil) (BT.node (pre.o_962 P) (BT.node (pre.o_600 P) BT.nil BT.nil) BT.nil)) (BT.node (pre.o_600 P) (BT.node (pre.o_825 P) (BT.node (o_1365 P) BT.nil BT.nil) BT.nil) (BT.node (o_1098 P) BT.nil BT.nil)))) (BT.node (pre.o_600 P) (BT.node (pre.o_166 P) (BT.node (pre.o_347 P) (BT.node (pre.o_656 P) (BT.node (o_1197 P) BT.nil BT.nil) BT.nil) (BT.node (pre.o_927 P) (BT.node (o_1472 P) BT.nil BT.nil) BT.nil)) (BT.node (pre.o_600 P) (BT.node (pre.o_790 P) (BT.node (o_1333 P) BT.nil BT.nil) BT.nil) (BT.node (pre.o_600 P) BT.nil BT.nil))) (BT.node (pre.o_242 P) (BT.node (pre.o_600 P) (BT.node (pre.o_600 P) (BT.node (o_1266 P) BT.nil BT.nil) BT.nil) (BT.node (pre.o_836 P) (BT.node (pre.o_600 P) BT.nil BT.nil) BT.nil)) (BT.node (pre.o_586 P) (BT.node (pre.o_857 P) (BT.node (o_1400 P) BT.nil BT.nil) BT.nil) (BT.node (o_1130 P) BT.nil BT.nil)))))) (BT.node (pre.o_600 P) (BT.node (pre.o_35 P) (BT.node (pre.o_69 P) (BT.node (pre.o_836 P) (BT.node (pre.o_836 P) (BT.node (pre.o_613 P) (BT.node (pre.o_836 P) BT.nil BT.nil) BT.nil) (BT.node (pre.o_836 P) (BT.node (pre.o_836 P) BT.nil BT.nil) BT.nil)) (BT.node (pre.o_600 P) (BT.node (pre.o_600 P) (BT.node (o_1290 P) BT.nil BT.nil) BT.nil) (BT.node (pre.o_836 P) (BT.node (o_1563 P) BT.nil BT.nil) BT.nil))) (BT.node (pre.o_219 P) (BT.node (pre.o_379 P) (BT.node (pre.o_600 P) (BT.node (o_1221 P) BT.nil BT.nil) BT.nil) (BT.node (pre.o_954 P) (BT.node (o_1496 P) BT.nil BT.nil) BT.nil)) (BT.node (pre.o_546 P) (BT.node (pre.o_600 P) (BT.node (pre.o_836 P) BT.nil BT.nil) BT.nil) (BT.node (o_1085 P) BT.nil BT.nil)))) (BT.node (pre.o_600 P) (BT.node (pre.o_179 P) (BT.node (pre.o_166 P) (BT.node (pre.o_645 P) (BT.node (o_1189 P) BT.nil BT.nil) BT.nil) (BT.node (pre.o_919 P) (BT.node (o_1464 P) BT.nil BT.nil) BT.nil)) (BT.node (pre.o_503 P) (BT.node (pre.o_782 P) (BT.node (o_1325 P) BT.nil BT.nil) BT.nil) (BT.node (o_1053 P) BT.nil BT.nil))) (BT.node (pre.o_255 P) (BT.node (pre.o_419 P) (BT.node (pre.o_715 P) (BT.node (pre.o_600 P) BT.nil BT.nil) BT.nil) (BT.node (pre.o_986 P) (BT.node (o_1528 P) BT.nil BT.nil) BT.nil)) (BT.node (pre.o_578 P) (BT.node (pre.o_849 P) (BT.node (o_1389 P) BT.nil BT.nil) BT.nil) (BT.node (o_1122 P) BT.nil BT.nil))))) (BT.node (pre.o_51 P) (BT.node (pre.o_90 P) (BT.node (pre.o_159 P) (BT.node (pre.o_315 P) (BT.node (pre.o_242 P) (BT.node (pre.o_600 P) BT.nil BT.nil) BT.nil) (BT.node (pre.o_600 P) (BT.node (pre.o_600 P) BT.nil BT.nil) BT.nil)) (BT.node (pre.o_600 P) (BT.node (pre.o_766 P) (BT.node (o_1309 P) BT.nil BT.nil) BT.nil) (BT.node (pre.o_1037 P) BT.nil BT.nil))) (BT.node (pre.o_235 P) (BT.node (pre.o_166 P) (BT.node (pre.o_699 P) (BT.node (pre.o_836 P) BT.nil BT.nil) BT.nil) (BT.node (pre.o_970 P) (BT.node (o_1512 P) BT.nil BT.nil) BT.nil)) (BT.node (pre.o_836 P) (BT.node (pre.o_833 P) (BT.node (pre.o_600 P) BT.nil BT.nil) BT.nil) (BT.node (pre.o_600 P) BT.nil BT.nil)))) (BT.node (pre.o_122 P) (BT.node (pre.o_199 P) (BT.node (pre.o_836 P) (BT.node (pre.o_664 P) (BT.node (pre.o_600 P) BT.nil BT.nil) BT.nil) (BT.node (pre.o_935 P) (BT.node (pre.o_600 P) BT.nil BT.nil) BT.nil)) (BT.node (pre.o_600 P) (BT.node (pre.o_836 P) (BT.node (o_1341 P) BT.nil BT.nil) BT.nil) (BT.node (pre.o_836 P) BT.nil BT.nil))) (BT.node (pre.o_275 P) (BT.node (pre.o_439 P) (BT.node (pre.o_600 P) (BT.node (o_1274 P) BT.nil BT.nil) BT.nil) (BT.node (pre.o_1002 P) (BT.node (pre.o_836 P) BT.nil BT.nil) BT.nil)) (BT.node (pre.o_600 P) (BT.node (pre.o_868 P) (BT.node (pre.o_600 P) BT.nil BT.nil) BT.nil) (BT.node (o_1138 P) BT.nil BT.nil)))))))) (BT.node (boot_o_5 P) (BT.node (boot_o_9 P) (BT.node (pre.o_9 P) (BT.node (pre.o_25 P) (BT.node (pre.o_600 P) (BT.node (pre.o_128 P) (BT.node (pre.o_281 P) (BT.node (pre.o_603 P) (BT.node (o_1144 P) BT.nil BT.nil) BT.nil) (BT.node (pre.o_874 P) (BT.node (o_1414 P) BT.nil BT.nil) BT.nil)) (BT.node (pre.o_449 P) (BT.node (pre.o_740 P) (BT.node (o_1280 P) BT.nil BT.nil) BT.nil) (BT.node (pre.o_1008 P) (BT.node (o_1553 P) BT.nil BT.nil) BT.nil))) (BT.node (pre.o_205 P) (BT.node (pre.o_365 P) (BT.node (pre.o_670 P) (BT.node (pre.o_836 P) BT.nil BT.nil) BT.nil) (BT.node (pre.o_941 P) (BT.node (o_1486 P) BT.nil BT.nil) BT.nil)) (BT.node (pre.o_533 P) (BT.node (pre.o_600 P) (BT.node (o_1347 P) BT.nil BT.nil) BT.nil) (BT.node (o_1075 P) BT.nil BT.nil)))) (BT.node (pre.o_96 P) (BT.node (pre.o_169 P) (BT.node (pre.o_325 P) (BT.node (pre.o_600 P) (BT.node (o_1176 P) BT.nil BT.nil) BT.nil) (BT.node (pre.o_909 P) (BT.node (o_1454 P) BT.nil BT.nil) BT.nil)) (BT.node (pre.o_242 P) (BT.node (pre.o_836 P) (BT.node (pre.o_836 P) BT.nil BT.nil) BT.nil) (BT.node (pre.o_600 P) BT.nil BT.nil))) (BT.node (pre.o_600 P) (BT.node (pre.o_409 P) (BT.node (pre.o_600 P) (BT.node (pre.o_600 P) BT.nil BT.nil) BT.nil) (BT.node (pre.o_976 P) (BT.node (pre.o_600 P) BT.nil BT.nil) BT.nil)) (BT.node (pre.o_600 P) (BT.node (pre.o_839 P) (BT.node (o_1379 P) BT.nil BT.nil) BT.nil) (BT.node (o_1112 P) BT.nil BT.nil))))) (BT.node (pre.o_836 P) (BT.node (pre.o_75 P) (BT.node (pre.o_149 P) (BT.node (pre.o_301 P) (BT.node (pre.o_836 P) (BT.node (pre.o_600 P) BT.nil BT.nil) BT.nil) (BT.node (pre.o_600 P) (BT.node (pre.o_600 P) BT.nil BT.nil) BT.nil)) (BT.node (pre.o_469 P) (BT.node (pre.o_756 P) (BT.node (o_1296 P) BT.nil BT.nil) BT.nil) (BT.node (pre.o_600 P) (BT.node (o_1569 P) BT.nil BT.nil) BT.nil))) (BT.node (pre.o_225 P) (BT.node (pre.o_389 P) (BT.node (pre.o_689 P) (BT.node (o_1232 P) BT.nil BT.nil) BT.nil) (BT.node (pre.o_836 P) (BT.node (pre.o_836 P) BT.nil BT.nil) BT.nil)) (BT.node (pre.o_552 P) (BT.node (pre.o_823 P) (BT.node (pre.o_600 P) BT.nil BT.nil) BT.nil) (BT.node (o_1096 P) BT.nil BT.nil)))) (BT.node (pre.o_836 P) (BT.node (pre.o_185 P) (BT.node (pre.o_345 P) (BT.node (pre.o_654 P) (BT.node (pre.o_600 P) BT.nil BT.nil) BT.nil) (BT.node (pre.o_925 P) (BT.node (o_1470 P) BT.nil BT.nil) BT.nil)) (BT.node (pre.o_513 P) (BT.node (pre.o_600 P) (BT.node (pre.o_600 P) BT.nil BT.nil) BT.nil) (BT.node (o_1059 P) BT.nil BT.nil))) (BT.node (pre.o_261 P) (BT.node (pre.o_242 P) (BT.node (pre.o_721 P) (BT.node (o_1264 P) BT.nil BT.nil) BT.nil) (BT.node (pre.o_992 P) (BT.node (o_1534 P) BT.nil BT.nil) BT.nil)) (BT.node (pre.o_584 P) (BT.node (pre.o_836 P) (BT.node (o_1398 P) BT.nil BT.nil) BT.nil) (BT.node (pre.o_836 P) BT.nil BT.nil)))))) (BT.node (pre.o_17 P) (BT.node (pre.o_600 P) (BT.node (pre.o_67 P) (BT.node (pre.o_136 P) (BT.node (pre.o_293 P) (BT.node (pre.o_600 P) (BT.node (o_1152 P) BT.nil BT.nil) BT.nil) (BT.node (pre.o_882 P) (BT.node (o_1425 P) BT.nil BT.nil) BT.nil)) (BT.node (pre.o_242 P) (BT.node (pre.o_748 P) (BT.node (o_1288 P) BT.nil BT.nil) BT.nil) (BT.node (pre.o_1016 P) (BT.node (o_1561 P) BT.nil BT.nil) BT.nil))) (BT.node (pre.o_242 P) (BT.node (pre.o_377 P) (BT.node (pre.o_681 P) (BT.node (o_1219 P) BT.nil BT.nil) BT.nil) (BT.node (pre.o_600 P) (BT.node (pre.o_600 P) BT.nil BT.nil) BT.nil)) (BT.node (pre.o_544 P) (BT.node (pre.o_836 P) (BT.node (o_1355 P) BT.nil BT.nil) BT.nil) (BT.node (pre.o_600 P) BT.nil BT.nil)))) (BT.node (pre.o_104 P) (BT.node (pre.o_177 P) (BT.node (pre.o_333 P) (BT.node (pre.o_643 P) (BT.node (o_1187 P) BT.nil BT.nil) BT.nil) (BT.node (pre.o_600 P) (BT.node (pre.o_600 P) BT.nil BT.nil) BT.nil)) (BT.node (pre.o_501 P) (BT.node (pre.o_780 P) (BT.node (o_1323 P) BT.nil BT.nil) BT.nil) (BT.node (o_1051 P) BT.nil BT.nil))) (BT.node (pre.o_600 P) (BT.node (pre.o_417 P) (BT.node (pre.o_713 P) (BT.node (pre.o_836 P) BT.nil BT.nil) BT.nil) (BT.node (pre.o_836 P) (BT.node (o_1526 P) BT.nil BT.nil) BT.nil)) (BT.node (pre.o_836 P) (BT.node (pre.o_600 P) (BT.node (pre.o_600 P) BT.nil BT.nil) BT.nil) (BT.node (pre.o_600 P) BT.nil BT.nil))))) (BT.node (pre.o_49 P) (BT.node (pre.o_83 P) (BT.node (pre.o_157 P) (BT.node (pre.o_313 P) (BT.node (pre.o_627 P) (BT.node (pre.o_836 P) BT.nil BT.nil) BT.nil) (BT.node (pre.o_836 P) (BT.node (pre.o_836 P) BT.nil BT.nil) BT.nil)) (BT.node (pre.o_481 P) (BT.node (pre.o_600 P) (BT.node (pre.o_600 P) BT.nil BT.nil) BT.nil) (BT.node (pre.o_600 P) BT.nil BT.nil))) (BT.node (pre.o_233 P) (BT.node (pre.o_397 P) (BT.node (pre.o_600 P) (BT.node (o_1240 P) BT.nil BT.nil) BT.nil) (BT.node (pre.o_968 P) (BT.node (o_1510 P) BT.nil BT.nil) BT.nil)) (BT.node (pre.o_560 P) (BT.node (pre.o_600 P) (BT.node (pre.o_836 P) BT.nil BT.nil) BT.nil) (BT.node (o_1104 P) BT.nil BT.nil)))) (BT.node (pre.o_120 P) (BT.node (pre.o_197 P) (BT.node (pre.o_357 P) (BT.node (pre.o_600 P) (BT.node (o_1203 P) BT.nil BT.nil) BT.nil) (BT.node (pre.o_933 P) (BT.node (o_1478 P) BT.nil BT.nil) BT.nil)) (BT.node (pre.o_242 P) (BT.node (pre.o_796 P) (BT.node (o_1339 P) BT.nil BT.nil) BT.nil) (BT.node (o_1067 P) BT.nil BT.nil))) (BT.node (pre.o_273 P) (BT.node (pre.o_437 P) (BT.node (pre.o_836 P) (BT.node (pre.o_600 P) BT.nil BT.nil) BT.nil) (BT.node (pre.o_1000 P) (BT.node (o_1545 P) BT.nil BT.nil) BT.nil)) (BT.node (pre.o_592 P) (BT.node (pre.o_866 P) (BT.node (o_1406 P) BT.nil BT.nil) BT.nil) (BT.node (o_1136 P) BT.nil BT.nil))))))) (BT.node (pre.o_3 P) (BT.node (pre.o_13 P) (BT.node (pre.o_600 P) (BT.node (pre.o_63 P) (BT.node (pre.o_132 P) (BT.node (pre.o_285 P) (BT.node (pre.o_600 P) (BT.node (o_1148 P) BT.nil BT.nil) BT.nil) (BT.node (pre.o_878 P) (BT.node (pre.o_600 P) BT.nil BT.nil) BT.nil)) (BT.node (pre.o_453 P) (BT.node (pre.o_744 P) (BT.node (pre.o_836 P) BT.nil BT.nil) BT.nil) (BT.node (pre.o_1012 P) (BT.node (pre.o_600 P) BT.nil BT.nil) BT.nil))) (BT.node (pre.o_209 P) (BT.node (pre.o_373 P) (BT.node (pre.o_242 P) (BT.node (pre.o_600 P) BT.nil BT.nil) BT.nil) (BT.node (pre.o_600 P) (BT.node (pre.o_600 P) BT.nil BT.nil) BT.nil)) (BT.node (pre.o_600 P) (BT.node (pre.o_808 P) (BT.node (o_1351 P) BT.nil BT.nil) BT.nil) (BT.node (o_1079 P) BT.nil BT.nil)))) (BT.node (pre.o_836 P) (BT.node (pre.o_173 P) (BT.node (pre.o_329 P) (BT.node (pre.o_639 P) (BT.node (pre.o_600 P) BT.nil BT.nil) BT.nil) (BT.node (pre.o_913 P) (BT.node (o_1458 P) BT.nil BT.nil) BT.nil)) (BT.node (pre.o_497 P) (BT.node (pre.o_776 P) (BT.node (o_1319 P) BT.nil BT.nil) BT.nil) (BT.node (pre.o_600 P) BT.nil BT.nil))) (BT.node (pre.o_249 P) (BT.node (pre.o_836 P) (BT.node (pre.o_600 P) (BT.node (o_1252 P) BT.nil BT.nil) BT.nil) (BT.node (pre.o_980 P) (BT.node (pre.o_600 P) BT.nil BT.nil) BT.nil)) (BT.node (pre.o_572 P) (BT.node (pre.o_836 P) (BT.node (o_1383 P) BT.nil BT.nil) BT.nil) (BT.node (pre.o_600 P) BT.nil BT.nil))))) (BT.node (pre.o_45 P) (BT.node (pre.o_79 P) (BT.node (pre.o_836 P) (BT.node (pre.o_309 P) (BT.node (pre.o_600 P) (BT.node (o_1164 P) BT.nil BT.nil) BT.nil) (BT.node (pre.o_897 P) (BT.node (o_1437 P) BT.nil BT.nil) BT.nil)) (BT.node (pre.o_242 P) (BT.node (pre.o_600 P) (BT.node (pre.o_600 P) BT.nil BT.nil) BT.nil) (BT.node (pre.o_1031 P) BT.nil BT.nil))) (BT.node (pre.o_229 P) (BT.node (pre.o_393 P) (BT.node (pre.o_693 P) (BT.node (o_1236 P) BT.nil BT.nil) BT.nil) (BT.node (pre.o_600 P) (BT.node (o_1506 P) BT.nil BT.nil) BT.nil)) (BT.node (pre.o_556 P) (BT.node (pre.o_827 P) (BT.node (o_1367 P) BT.nil BT.nil) BT.nil) (BT.node (pre.o_836 P) BT.nil BT.nil)))) (BT.node (pre.o_116 P) (BT.node (pre.o_193 P) (BT.node (pre.o_349 P) (BT.node (pre.o_658 P) (BT.node (o_1199 P) BT.nil BT.nil) BT.nil) (BT.node (pre.o_836 P) (BT.node (pre.o_836 P) BT.nil BT.nil) BT.nil)) (BT.node (pre.o_517 P) (BT.node (pre.o_600 P) (BT.node (pre.o_600 P) BT.nil BT.nil) BT.nil) (BT.node (o_1063 P) BT.nil BT.nil))) (BT.node (pre.o_269 P) (BT.node (pre.o_433 P) (BT.node (pre.o_725 P) (BT.node (o_1268 P) BT.nil BT.nil) BT.nil) (BT.node (pre.o_996 P) (BT.node (o_1541 P) BT.nil BT.nil) BT.nil)) (BT.node (pre.o_836 P) (BT.node (pre.o_600 P) (BT.node (pre.o_836 P) BT.nil BT.nil) BT.nil) (BT.node (pre.o_600 P) BT.nil BT.nil)))))) (BT.node (pre.o_21 P) (BT.node (pre.o_37 P) (BT.node (pre.o_71 P) (BT.node (pre.o_600 P) (BT.node (pre.o_297 P) (BT.node (pre.o_615 P) (BT.node (pre.o_600 P) BT.nil BT.nil) BT.nil) (BT.node (pre.o_600 P) (BT.node (pre.o_600 P) BT.nil BT.nil) BT.nil)) (BT.node (pre.o_465 P) (BT.node (pre.o_752 P) (BT.node (o_1292 P) BT.nil BT.nil) BT.nil) (BT.node (pre.o_600 P) (BT.node (pre.o_836 P) BT.nil BT.nil) BT.nil))) (BT.node (pre.o_221 P) (BT.node (pre.o_381 P) (BT.node (pre.o_685 P) (BT.node (pre.o_242 P) BT.nil BT.nil) BT.nil) (BT.node (pre.o_956 P) (BT.node (o_1498 P) BT.nil BT.nil) BT.nil)) (BT.node (pre.o_836 P) (BT.node (pre.o_816 P) (BT.node (pre.o_600 P) BT.nil BT.nil) BT.nil) (BT.node (pre.o_600 P) BT.nil BT.nil)))) (BT.node (pre.o_108 P) (BT.node (pre.o_181 P) (BT.node (pre.o_341 P) (BT.node (pre.o_647 P) (BT.node (pre.o_836 P) BT.nil BT.nil) BT.nil) (BT.node (pre.o_600 P) (BT.node (pre.o_600 P) BT.nil BT.nil) BT.nil)) (BT.node (pre.o_242 P) (BT.node (pre.o_784 P) (BT.node (o_1327 P) BT.nil BT.nil) BT.nil) (BT.node (pre.o_836 P) BT.nil BT.nil))) (BT.node (pre.o_257 P) (BT.node (pre.o_421 P) (BT.node (pre.o_836 P) (BT.node (o_1260 P) BT.nil BT.nil) BT.nil) (BT.node (pre.o_600 P) (BT.node (pre.o_836 P) BT.nil BT.nil) BT.nil)) (BT.node (pre.o_580 P) (BT.node (pre.o_851 P) (BT.node (pre.o_600 P) BT.nil BT.nil) BT.nil) (BT.node (o_1124 P) BT.nil BT.nil))))) (BT.node (pre.o_53 P) (BT.node (pre.o_600 P) (BT.node (pre.o_161 P) (BT.node (pre.o_317 P) (BT.node (pre.o_600 P) (BT.node (o_1172 P) BT.nil BT.nil) BT.nil) (BT.node (pre.o_905 P) (BT.node (o_1445 P) BT.nil BT.nil) BT.nil)) (BT.node (pre.o_485 P) (BT.node (pre.o_768 P) (BT.node (o_1311 P) BT.nil BT.nil) BT.nil) (BT.node (o_1039 P) BT.nil BT.nil))) (BT.node (pre.o_166 P) (BT.node (pre.o_405 P) (BT.node (pre.o_701 P) (BT.node (pre.o_600 P) BT.nil BT.nil) BT.nil) (BT.node (pre.o_836 P) (BT.node (o_1514 P) BT.nil BT.nil) BT.nil)) (BT.node (pre.o_600 P) (BT.node (pre.o_600 P) (BT.node (o_1375 P) BT.nil BT.nil) BT.nil) (BT.node (o_1108 P) BT.nil BT.nil)))) (BT.node (pre.o_124 P) (BT.node (pre.o_836 P) (BT.node (pre.o_361 P) (BT.node (pre.o_666 P) (BT.node (o_1207 P) BT.nil BT.nil) BT.nil) (BT.node (pre.o_937 P) (BT.node (o_1482 P) BT.nil BT.nil) BT.nil)) (BT.node (pre.o_529 P) (BT.node (pre.o_600 P) (BT.node (pre.o_836 P) BT.nil BT.nil) BT.nil) (BT.node (o_1071 P) BT.nil BT.nil))) (BT.node (pre.o_277 P) (BT.node (pre.o_242 P) (BT.node (pre.o_736 P) (BT.node (pre.o_600 P) BT.nil BT.nil) BT.nil) (BT.node (pre.o_1004 P) (BT.node (o_1549 P) BT.nil BT.nil) BT.nil)) (BT.node (pre.o_599 P) (BT.node (pre.o_836 P) (BT.node (o_1410 P) BT.nil BT.nil) BT.nil) (BT.node (pre.o_836 P) BT.nil BT.nil))))))))) (BT.node (boot_o_2 P) (BT.node (boot_o_4 P) (BT.node (boot_o_8 P) (BT.node (pre.o_836 P) (BT.node (pre.o_24 P) (BT.node (pre.o_56 P) (BT.node (pre.o_127 P) (BT.node (pre.o_280 P) (BT.node (pre.o_602 P) (BT.node (o_1143 P) BT.nil BT.nil) BT.nil) (BT.node (pre.o_873 P) (BT.node (o_1413 P) BT.nil BT.nil) BT.nil)) (BT.node (pre.o_836 P) (BT.node (pre.o_836 P) (BT.node (pre.o_600 P) BT.nil BT.nil) BT.nil) (BT.node (pre.o_1007 P) (BT.node (pre.o_836 P) BT.nil BT.nil) BT.nil))) (BT.node (pre.o_204 P) (BT.node (pre.o_364 P) (BT.node (pre.o_669 P) (BT.node (pre.o_600 P) BT.nil BT.nil) BT.nil) (BT.node (pre.o_940 P) (BT.node (o_1485 P) BT.nil BT.nil) BT.nil)) (BT.node (pre.o_532 P) (BT.node (pre.o_803 P) (BT.node (o_1346 P) BT.nil BT.nil) BT.nil) (BT.node (pre.o_836 P) BT.nil BT.nil)))) (BT.node (pre.o_600 P) (BT.node (pre.o_168 P) (BT.node (pre.o_242 P) (BT.node (pre.o_634 P) (BT.node (pre.o_836 P) BT.nil BT.nil) BT.nil) (BT.node (pre.o_836 P) (BT.node (pre.o_836 P) BT.nil BT.nil) BT.nil)) (BT.node (pre.o_166 P) (BT.node (pre.o_600 P) (BT.node (pre.o_600 P) BT.nil BT.nil) BT.nil) (BT.node (o_1042 P) BT.nil BT.nil))) (BT.node (pre.o_244 P) (BT.node (pre.o_408 P) (BT.node (pre.o_704 P) (BT.node (o_1247 P) BT.nil BT.nil) BT.nil) (BT.node (pre.o_975 P) (BT.node (o_1517 P) BT.nil BT.nil) BT.nil)) (BT.node (pre.o_567 P) (BT.node (pre.o_600 P) (BT.node (pre.o_836 P) BT.nil BT.nil) BT.nil) (BT.node (o_1111 P) BT.nil BT.nil))))) (BT.node (pre.o_600 P) (BT.node (pre.o_600 P) (BT.node (pre.o_143 P) (BT.node (pre.o_300 P) (BT.node (pre.o_600 P) (BT.node (o_1159 P) BT.nil BT.nil) BT.nil) (BT.node (pre.o_889 P) (BT.node (o_1432 P) BT.nil BT.nil) BT.nil)) (BT.node (pre.o_468 P) (BT.node (pre.o_755 P) (BT.node (o_1295 P) BT.nil BT.nil) BT.nil) (BT.node (pre.o_1023 P) (BT.node (o_1568 P) BT.nil BT.nil) BT.nil))) (BT.node (pre.o_224 P) (BT.node (pre.o_242 P) (BT.node (pre.o_688 P) (BT.node (o_1231 P) BT.nil BT.nil) BT.nil) (BT.node (pre.o_600 P) (BT.node (pre.o_600 P) BT.nil BT.nil) BT.nil)) (BT.node (pre.o_551 P) (BT.node (pre.o_836 P) (BT.node (o_1362 P) BT.nil BT.nil) BT.nil) (BT.node (pre.o_600 P) BT.nil BT.nil)))) (BT.node (pre.o_600 P) (BT.node (pre.o_184 P) (BT.node (pre.o_344 P) (BT.node (pre.o_242 P) (BT.node (o_1194 P) BT.nil BT.nil) BT.nil) (BT.node (pre.o_600 P) (BT.node (pre.o_600 P) BT.nil BT.nil) BT.nil)) (BT.node (pre.o_836 P) (BT.node (pre.o_787 P) (BT.node (o_1330 P) BT.nil BT.nil) BT.nil) (BT.node (o_1058 P) BT.nil BT.nil))) (BT.node (pre.o_260 P) (BT.node (pre.o_166 P) (BT.node (pre.o_720 P) (BT.node (pre.o_836 P) BT.nil BT.nil) BT.nil) (BT.node (pre.o_991 P) (BT.node (o_1533 P) BT.nil BT.nil) BT.nil)) (BT.node (pre.o_583 P) (BT.node (pre.o_600 P) (BT.node (pre.o_600 P) BT.nil BT.nil) BT.nil) (BT.node (pre.o_600 P) BT.nil BT.nil)))))) (BT.node (pre.o_16 P) (BT.node (pre.o_32 P) (BT.node (pre.o_66 P) (BT.node (pre.o_135 P) (BT.node (pre.o_242 P) (BT.node (pre.o_610 P) (BT.node (o_1151 P) BT.nil BT.nil) BT.nil) (BT.node (pre.o_881 P) (BT.node (o_1421 P) BT.nil BT.nil) BT.nil)) (BT.node (pre.o_166 P) (BT.node (pre.o_747 P) (BT.node (o_1287 P) BT.nil BT.nil) BT.nil) (BT.node (pre.o_1015 P) (BT.node (pre.o_600 P) BT.nil BT.nil) BT.nil))) (BT.node (pre.o_166 P) (BT.node (pre.o_376 P) (BT.node (pre.o_680 P) (BT.node (o_1218 P) BT.nil BT.nil) BT.nil) (BT.node (pre.o_951 P) (BT.node (o_1493 P) BT.nil BT.nil) BT.nil)) (BT.node (pre.o_600 P) (BT.node (pre.o_600 P) (BT.node (o_1354 P) BT.nil BT.nil) BT.nil) (BT.node (o_1082 P) BT.nil BT.nil)))) (BT.node (pre.o_103 P) (BT.node (pre.o_836 P) (BT.node (pre.o_332 P) (BT.node (pre.o_642 P) (BT.node (pre.o_600 P) BT.nil BT.nil) BT.nil) (BT.node (pre.o_916 P) (BT.node (o_1461 P) BT.nil BT.nil) BT.nil)) (BT.node (pre.o_500 P) (BT.node (pre.o_836 P) (BT.node (pre.o_836 P) BT.nil BT.nil) BT.nil) (BT.node (pre.o_600 P) BT.nil BT.nil))) (BT.node (pre.o_252 P) (BT.node (pre.o_416 P) (BT.node (pre.o_600 P) (BT.node (pre.o_600 P) BT.nil BT.nil) BT.nil) (BT.node (pre.o_600 P) (BT.node (pre.o_600 P) BT.nil BT.nil) BT.nil)) (BT.node (pre.o_600 P) (BT.node (pre.o_846 P) (BT.node (o_1386 P) BT.nil BT.nil) BT.nil) (BT.node (o_1119 P) BT.nil BT.nil))))) (BT.node (pre.o_836 P) (BT.node (pre.o_82 P) (BT.node (pre.o_600 P) (BT.node (pre.o_312 P) (BT.node (pre.o_626 P) (BT.node (pre.o_600 P) BT.nil BT.nil) BT.nil) (BT.node (pre.o_600 P) (BT.node (pre.o_600 P) BT.nil BT.nil) BT.nil)) (BT.node (pre.o_836 P) (BT.node (pre.o_763 P) (BT.node (o_1306 P) BT.nil BT.nil) BT.nil) (BT.node (pre.o_1034 P) BT.nil BT.nil))) (BT.node (pre.o_232 P) (BT.node (pre.o_396 P) (BT.node (pre.o_696 P) (BT.node (o_1239 P) BT.nil BT.nil) BT.nil) (BT.node (pre.o_600 P) (BT.node (pre.o_836 P) BT.nil BT.nil) BT.nil)) (BT.node (pre.o_559 P) (BT.node (pre.o_830 P) (BT.node (pre.o_600 P) BT.nil BT.nil) BT.nil) (BT.node (o_1103 P) BT.nil BT.nil)))) (BT.node (pre.o_836 P) (BT.node (pre.o_196 P) (BT.node (pre.o_242 P) (BT.node (pre.o_661 P) (BT.node (o_1202 P) BT.nil BT.nil) BT.nil) (BT.node (pre.o_932 P) (BT.node (o_1477 P) BT.nil BT.nil) BT.nil)) (BT.node (pre.o_166 P) (BT.node (pre.o_795 P) (BT.node (pre.o_600 P) BT.nil BT.nil) BT.nil) (BT.node (o_1066 P) BT.nil BT.nil))) (BT.node (pre.o_272 P) (BT.node (pre.o_436 P) (BT.node (pre.o_600 P) (BT.node (o_1271 P) BT.nil BT.nil) BT.nil) (BT.node (pre.o_836 P) (BT.node (o_1544 P) BT.nil BT.nil) BT.nil)) (BT.node (pre.o_591 P) (BT.node (pre.o_600 P) (BT.node (o_1405 P) BT.nil BT.nil) BT.nil) (BT.node (pre.o_600 P) BT.nil BT.nil))))))) (BT.node (o_1538 P) (BT.node (pre.o_12 P) (BT.node (pre.o_28 P) (BT.node (pre.o_60 P) (BT.node (pre.o_836 P) (BT.node (pre.o_284 P) (BT.node (pre.o_606 P) (BT.node (pre.o_836 P) BT.nil BT.nil) BT.nil) (BT.node (pre.o_877 P) (BT.node (o_1417 P) BT.nil BT.nil) BT.nil)) (BT.node (pre.o_452 P) (BT.node (pre.o_743 P) (BT.node (pre.o_600 P) BT.nil BT.nil) BT.nil) (BT.node (pre.o_836 P) (BT.node (o_1556 P) BT.nil BT.nil) BT.nil))) (BT.node (pre.o_208 P) (BT.node (pre.o_242 P) (BT.node (pre.o_600 P) (BT.node (o_1214 P) BT.nil BT.nil) BT.nil) (BT.node (pre.o_947 P) (BT.node (o_1489 P) BT.nil BT.nil) BT.nil)) (BT.node (pre.o_536 P) (BT.node (pre.o_600 P) (BT.node (pre.o_836 P) BT.nil BT.nil) BT.nil) (BT.node (o_1078 P) BT.nil BT.nil)))) (BT.node (pre.o_600 P) (BT.node (pre.o_172 P) (BT.node (pre.o_328 P) (BT.node (pre.o_600 P) (BT.node (o_1182 P) BT.nil BT.nil) BT.nil) (BT.node (pre.o_912 P) (BT.node (o_1457 P) BT.nil BT.nil) BT.nil)) (BT.node (pre.o_836 P) (BT.node (pre.o_775 P) (BT.node (o_1318 P) BT.nil BT.nil) BT.nil) (BT.node (o_1046 P) BT.nil BT.nil))) (BT.node (pre.o_248 P) (BT.node (pre.o_412 P) (BT.node (pre.o_708 P) (BT.node (pre.o_600 P) BT.nil BT.nil) BT.nil) (BT.node (pre.o_836 P) (BT.node (o_1521 P) BT.nil BT.nil) BT.nil)) (BT.node (pre.o_600 P) (BT.node (pre.o_600 P) (BT.node (o_1382 P) BT.nil BT.nil) BT.nil) (BT.node (o_1115 P) BT.nil BT.nil))))) (BT.node (pre.o_44 P) (BT.node (pre.o_78 P) (BT.node (pre.o_600 P) (BT.node (pre.o_242 P) (BT.node (pre.o_622 P) (BT.node (pre.o_600 P) BT.nil BT.nil) BT.nil) (BT.node (pre.o_600 P) (BT.node (pre.o_600 P) BT.nil BT.nil) BT.nil)) (BT.node (pre.o_166 P) (BT.node (pre.o_759 P) (BT.node (o_1302 P) BT.nil BT.nil) BT.nil) (BT.node (pre.o_1030 P) BT.nil BT.nil))) (BT.node (pre.o_600 P) (BT.node (pre.o_392 P) (BT.node (pre.o_692 P) (BT.node (pre.o_836 P) BT.nil BT.nil) BT.nil) (BT.node (pre.o_963 P) (BT.node (o_1505 P) BT.nil BT.nil) BT.nil)) (BT.node (pre.o_836 P) (BT.node (pre.o_826 P) (BT.node (pre.o_600 P) BT.nil BT.nil) BT.nil) (BT.node (pre.o_600 P) BT.nil BT.nil)))) (BT.node (pre.o_115 P) (BT.node (pre.o_242 P) (BT.node (pre.o_348 P) (BT.node (pre.o_657 P) (BT.node (o_1198 P) BT.nil BT.nil) BT.nil) (BT.node (pre.o_600 P) (BT.node (pre.o_600 P) BT.nil BT.nil) BT.nil)) (BT.node (pre.o_516 P) (BT.node (pre.o_791 P) (BT.node (o_1334 P) BT.nil BT.nil) BT.nil) (BT.node (pre.o_836 P) BT.nil BT.nil))) (BT.node (pre.o_268 P) (BT.node (pre.o_836 P) (BT.node (pre.o_836 P) (BT.node (o_1267 P) BT.nil BT.nil) BT.nil) (BT.node (pre.o_995 P) (BT.node (pre.o_836 P) BT.nil BT.nil) BT.nil)) (BT.node (pre.o_600 P) (BT.node (pre.o_858 P) (BT.node (pre.o_600 P) BT.nil BT.nil) BT.nil) (BT.node (o_1131 P) BT.nil BT.nil)))))) (BT.node (pre.o_836 P) (BT.node (pre.o_600 P) (BT.node (pre.o_70 P) (BT.node (pre.o_139 P) (BT.node (pre.o_296 P) (BT.node (pre.o_600 P) (BT.node (o_1155 P) BT.nil BT.nil) BT.nil) (BT.node (pre.o_885 P) (BT.node (o_1428 P) BT.nil BT.nil) BT.nil)) (BT.node (pre.o_836 P) (BT.node (pre.o_836 P) (BT.node (o_1291 P) BT.nil BT.nil) BT.nil) (BT.node (pre.o_1019 P) (BT.node (pre.o_600 P) BT.nil BT.nil) BT.nil))) (BT.node (pre.o_600 P) (BT.node (pre.o_380 P) (BT.node (pre.o_836 P) (BT.node (pre.o_600 P) BT.nil BT.nil) BT.nil) (BT.node (pre.o_600 P) (BT.node (pre.o_600 P) BT.nil BT.nil) BT.nil)) (BT.node (pre.o_600 P) (BT.node (pre.o_815 P) (BT.node (o_1358 P) BT.nil BT.nil) BT.nil) (BT.node (o_1086 P) BT.nil BT.nil)))) (BT.node (pre.o_836 P) (BT.node (pre.o_180 P) (BT.node (pre.o_242 P) (BT.node (pre.o_646 P) (BT.node (pre.o_600 P) BT.nil BT.nil) BT.nil) (BT.node (pre.o_920 P) (BT.node (o_1465 P) BT.nil BT.nil) BT.nil)) (BT.node (pre.o_166 P) (BT.node (pre.o_783 P) (BT.node (o_1326 P) BT.nil BT.nil) BT.nil) (BT.node (pre.o_600 P) BT.nil BT.nil))) (BT.node (pre.o_256 P) (BT.node (pre.o_420 P) (BT.node (pre.o_600 P) (BT.node (o_1259 P) BT.nil BT.nil) BT.nil) (BT.node (pre.o_987 P) (BT.node (pre.o_600 P) BT.nil BT.nil) BT.nil)) (BT.node (pre.o_579 P) (BT.node (pre.o_600 P) (BT.node (o_1390 P) BT.nil BT.nil) BT.nil) (BT.node (pre.o_600 P) BT.nil BT.nil))))) (BT.node (pre.o_52 P) (BT.node (pre.o_91 P) (BT.node (pre.o_160 P) (BT.node (pre.o_316 P) (BT.node (pre.o_630 P) (BT.node (o_1171 P) BT.nil BT.nil) BT.nil) (BT.node (pre.o_904 P) (BT.node (o_1444 P) BT.nil BT.nil) BT.nil)) (BT.node (pre.o_484 P) (BT.node (pre.o_600 P) (BT.node (pre.o_600 P) BT.nil BT.nil) BT.nil) (BT.node (pre.o_1038 P) BT.nil BT.nil))) (BT.node (pre.o_236 P) (BT.node (pre.o_242 P) (BT.node (pre.o_700 P) (BT.node (o_1243 P) BT.nil BT.nil) BT.nil) (BT.node (pre.o_600 P) (BT.node (o_1513 P) BT.nil BT.nil) BT.nil)) (BT.node (pre.o_563 P) (BT.node (pre.o_834 P) (BT.node (o_1374 P) BT.nil BT.nil) BT.nil) (BT.node (pre.o_836 P) BT.nil BT.nil)))) (BT.node (pre.o_123 P) (BT.node (pre.o_200 P) (BT.node (pre.o_360 P) (BT.node (pre.o_665 P) (BT.node (pre.o_836 P) BT.nil BT.nil) BT.nil) (BT.node (pre.o_936 P) (BT.node (pre.o_836 P) BT.nil BT.nil) BT.nil)) (BT.node (pre.o_836 P) (BT.node (pre.o_799 P) (BT.node (pre.o_600 P) BT.nil BT.nil) BT.nil) (BT.node (o_1070 P) BT.nil BT.nil))) (BT.node (pre.o_836 P) (BT.node (pre.o_166 P) (BT.node (pre.o_735 P) (BT.node (o_1275 P) BT.nil BT.nil) BT.nil) (BT.node (pre.o_1003 P) (BT.node (o_1548 P) BT.nil BT.nil) BT.nil)) (BT.node (pre.o_836 P) (BT.node (pre.o_600 P) (BT.node (pre.o_836 P) BT.nil BT.nil) BT.nil) (BT.node (pre.o_600 P) BT.nil BT.nil)))))))) (BT.node (boot_o_6 P) (BT.node (boot_o_10 P) (BT.node (pre.o_600 P) (BT.node (pre.o_600 P) (BT.node (pre.o_58 P) (BT.node (pre.o_129 P) (BT.node (pre.o_282 P) (BT.node (pre.o_600 P) (BT.node (o_1145 P) BT.nil BT.nil) BT.nil) (BT.node (pre.o_875 P) (BT.node (pre.o_600 P) BT.nil BT.nil) BT.nil)) (BT.node (pre.o_450 P) (BT.node (pre.o_600 P) (BT.node (o_1281 P) BT.nil BT.nil) BT.nil) (BT.node (pre.o_1009 P) (BT.node (o_1554 P) BT.nil BT.nil) BT.nil))) (BT.node (pre.o_206 P) (BT.node (pre.o_366 P) (BT.node (pre.o_671 P) (BT.node (o_1212 P) BT.nil BT.nil) BT.nil) (BT.node (pre.o_600 P) (BT.node (pre.o_600 P) BT.nil BT.nil) BT.nil)) (BT.node (pre.o_534 P) (BT.node (pre.o_836 P) (BT.node (o_1348 P) BT.nil BT.nil) BT.nil) (BT.node (pre.o_600 P) BT.nil BT.nil)))) (BT.node (pre.o_97 P) (BT.node (pre.o_600 P) (BT.node (pre.o_600 P) (BT.node (pre.o_836 P) (BT.node (o_1177 P) BT.nil BT.nil) BT.nil) (BT.node (pre.o_600 P) (BT.node (pre.o_600 P) BT.nil BT.nil) BT.nil)) (BT.node (pre.o_494 P) (BT.node (pre.o_773 P) (BT.node (o_1316 P) BT.nil BT.nil) BT.nil) (BT.node (o_1044 P) BT.nil BT.nil))) (BT.node (pre.o_246 P) (BT.node (pre.o_410 P) (BT.node (pre.o_706 P) (BT.node (pre.o_836 P) BT.nil BT.nil) BT.nil) (BT.node (pre.o_977 P) (BT.node (o_1519 P) BT.nil BT.nil) BT.nil)) (BT.node (pre.o_836 P) (BT.node (pre.o_840 P) (BT.node (pre.o_600 P) BT.nil BT.nil) BT.nil) (BT.node (pre.o_600 P) BT.nil BT.nil))))) (BT.node (pre.o_42 P) (BT.node (pre.o_76 P) (BT.node (pre.o_242 P) (BT.node (pre.o_302 P) (BT.node (pre.o_620 P) (BT.node (pre.o_836 P) BT.nil BT.nil) BT.nil) (BT.node (pre.o_242 P) (BT.node (pre.o_836 P) BT.nil BT.nil) BT.nil)) (BT.node (pre.o_470 P) (BT.node (pre.o_600 P) (BT.node (pre.o_600 P) BT.nil BT.nil) BT.nil) (BT.node (pre.o_836 P) (BT.node (o_1570 P) BT.nil BT.nil) BT.nil))) (BT.node (pre.o_836 P) (BT.node (pre.o_600 P) (BT.node (pre.o_690 P) (BT.node (o_1233 P) BT.nil BT.nil) BT.nil) (BT.node (pre.o_961 P) (BT.node (o_1503 P) BT.nil BT.nil) BT.nil)) (BT.node (pre.o_553 P) (BT.node (pre.o_600 P) (BT.node (pre.o_836 P) BT.nil BT.nil) BT.nil) (BT.node (o_1097 P) BT.nil BT.nil)))) (BT.node (pre.o_113 P) (BT.node (pre.o_186 P) (BT.node (pre.o_600 P) (BT.node (pre.o_600 P) (BT.node (pre.o_836 P) BT.nil BT.nil) BT.nil) (BT.node (pre.o_926 P) (BT.node (o_1471 P) BT.nil BT.nil) BT.nil)) (BT.node (pre.o_514 P) (BT.node (pre.o_789 P) (BT.node (o_1332 P) BT.nil BT.nil) BT.nil) (BT.node (o_1060 P) BT.nil BT.nil))) (BT.node (pre.o_166 P) (BT.node (pre.o_430 P) (BT.node (pre.o_722 P) (BT.node (pre.o_600 P) BT.nil BT.nil) BT.nil) (BT.node (pre.o_600 P) (BT.node (o_1535 P) BT.nil BT.nil) BT.nil)) (BT.node (pre.o_585 P) (BT.node (pre.o_856 P) (BT.node (o_1399 P) BT.nil BT.nil) BT.nil) (BT.node (o_1129 P) BT.nil BT.nil)))))) (BT.node (pre.o_18 P) (BT.node (pre.o_836 P) (BT.node (pre.o_68 P) (BT.node (pre.o_600 P) (BT.node (pre.o_600 P) (BT.node (pre.o_836 P) (BT.node (pre.o_600 P) BT.nil BT.nil) BT.nil) (BT.node (pre.o_600 P) (BT.node (pre.o_600 P) BT.nil BT.nil) BT.nil)) (BT.node (pre.o_462 P) (BT.node (pre.o_749 P) (BT.node (o_1289 P) BT.nil BT.nil) BT.nil) (BT.node (pre.o_600 P) (BT.node (o_1562 P) BT.nil BT.nil) BT.nil))) (BT.node (pre.o_218 P) (BT.node (pre.o_600 P) (BT.node (pre.o_682 P) (BT.node (o_1220 P) BT.nil BT.nil) BT.nil) (BT.node (pre.o_836 P) (BT.node (pre.o_836 P) BT.nil BT.nil) BT.nil)) (BT.node (pre.o_545 P) (BT.node (pre.o_813 P) (BT.node (pre.o_600 P) BT.nil BT.nil) BT.nil) (BT.node (o_1084 P) BT.nil BT.nil)))) (BT.node (pre.o_105 P) (BT.node (pre.o_600 P) (BT.node (pre.o_334 P) (BT.node (pre.o_644 P) (BT.node (o_1188 P) BT.nil BT.nil) BT.nil) (BT.node (pre.o_918 P) (BT.node (o_1463 P) BT.nil BT.nil) BT.nil)) (BT.node (pre.o_502 P) (BT.node (pre.o_600 P) (BT.node (pre.o_600 P) BT.nil BT.nil) BT.nil) (BT.node (o_1052 P) BT.nil BT.nil))) (BT.node (pre.o_254 P) (BT.node (pre.o_418 P) (BT.node (pre.o_714 P) (BT.node (o_1257 P) BT.nil BT.nil) BT.nil) (BT.node (pre.o_985 P) (BT.node (o_1527 P) BT.nil BT.nil) BT.nil)) (BT.node (pre.o_577 P) (BT.node (pre.o_836 P) (BT.node (o_1388 P) BT.nil BT.nil) BT.nil) (BT.node (pre.o_836 P) BT.nil BT.nil))))) (BT.node (pre.o_600 P) (BT.node (pre.o_84 P) (BT.node (pre.o_523 P) (BT.node (pre.o_600 P) (BT.node (pre.o_600 P) (BT.node (o_1169 P) BT.nil BT.nil) BT.nil) (BT.node (pre.o_902 P) (BT.node (o_1442 P) BT.nil BT.nil) BT.nil)) (BT.node (pre.o_482 P) (BT.node (pre.o_836 P) (BT.node (pre.o_836 P) BT.nil BT.nil) BT.nil) (BT.node (pre.o_1036 P) BT.nil BT.nil))) (BT.node (pre.o_234 P) (BT.node (pre.o_398 P) (BT.node (pre.o_836 P) (BT.node (pre.o_600 P) BT.nil BT.nil) BT.nil) (BT.node (pre.o_969 P) (BT.node (pre.o_600 P) BT.nil BT.nil) BT.nil)) (BT.node (pre.o_600 P) (BT.node (pre.o_832 P) (BT.node (o_1372 P) BT.nil BT.nil) BT.nil) (BT.node (o_1105 P) BT.nil BT.nil)))) (BT.node (pre.o_600 P) (BT.node (pre.o_198 P) (BT.node (pre.o_600 P) (BT.node (pre.o_663 P) (BT.node (o_1204 P) BT.nil BT.nil) BT.nil) (BT.node (pre.o_934 P) (BT.node (o_1479 P) BT.nil BT.nil) BT.nil)) (BT.node (pre.o_526 P) (BT.node (pre.o_600 P) (BT.node (o_1340 P) BT.nil BT.nil) BT.nil) (BT.node (pre.o_600 P) BT.nil BT.nil))) (BT.node (pre.o_274 P) (BT.node (pre.o_438 P) (BT.node (pre.o_733 P) (BT.node (o_1273 P) BT.nil BT.nil) BT.nil) (BT.node (pre.o_1001 P) (BT.node (pre.o_600 P) BT.nil BT.nil) BT.nil)) (BT.node (pre.o_593 P) (BT.node (pre.o_867 P) (BT.node (o_1407 P) BT.nil BT.nil) BT.nil) (BT.node (o_1137 P) BT.nil BT.nil))))))) (BT.node (pre.o_4 P) (BT.node (pre.o_600 P) (BT.node (pre.o_30 P) (BT.node (pre.o_64 P) (BT.node (pre.o_600 P) (BT.node (pre.o_286 P) (BT.node (pre.o_608 P) (BT.node (pre.o_600 P) BT.nil BT.nil) BT.nil) (BT.node (pre.o_879 P) (BT.node (o_1419 P) BT.nil BT.nil) BT.nil)) (BT.node (pre.o_454 P) (BT.node (pre.o_600 P) (BT.node (o_1285 P) BT.nil BT.nil) BT.nil) (BT.node (pre.o_600 P) (BT.node (pre.o_836 P) BT.nil BT.nil) BT.nil))) (BT.node (pre.o_210 P) (BT.node (pre.o_600 P) (BT.node (pre.o_678 P) (BT.node (pre.o_836 P) BT.nil BT.nil) BT.nil) (BT.node (pre.o_949 P) (BT.node (o_1491 P) BT.nil BT.nil) BT.nil)) (BT.node (pre.o_242 P) (BT.node (pre.o_809 P) (BT.node (pre.o_600 P) BT.nil BT.nil) BT.nil) (BT.node (pre.o_600 P) BT.nil BT.nil)))) (BT.node (pre.o_101 P) (BT.node (pre.o_174 P) (BT.node (pre.o_600 P) (BT.node (pre.o_640 P) (BT.node (pre.o_836 P) BT.nil BT.nil) BT.nil) (BT.node (pre.o_600 P) (BT.node (pre.o_600 P) BT.nil BT.nil) BT.nil)) (BT.node (pre.o_498 P) (BT.node (pre.o_777 P) (BT.node (o_1320 P) BT.nil BT.nil) BT.nil) (BT.node (pre.o_836 P) BT.nil BT.nil))) (BT.node (pre.o_250 P) (BT.node (pre.o_414 P) (BT.node (pre.o_836 P) (BT.node (o_1253 P) BT.nil BT.nil) BT.nil) (BT.node (pre.o_981 P) (BT.node (pre.o_836 P) BT.nil BT.nil) BT.nil)) (BT.node (pre.o_573 P) (BT.node (pre.o_844 P) (BT.node (pre.o_600 P) BT.nil BT.nil) BT.nil) (BT.node (o_1117 P) BT.nil BT.nil))))) (BT.node (pre.o_46 P) (BT.node (pre.o_80 P) (BT.node (pre.o_154 P) (BT.node (pre.o_600 P) (BT.node (pre.o_836 P) (BT.node (o_1165 P) BT.nil BT.nil) BT.nil) (BT.node (pre.o_898 P) (BT.node (o_1438 P) BT.nil BT.nil) BT.nil)) (BT.node (pre.o_478 P) (BT.node (pre.o_761 P) (BT.node (o_1304 P) BT.nil BT.nil) BT.nil) (BT.node (pre.o_600 P) BT.nil BT.nil))) (BT.node (pre.o_230 P) (BT.node (pre.o_600 P) (BT.node (pre.o_694 P) (BT.node (pre.o_600 P) BT.nil BT.nil) BT.nil) (BT.node (pre.o_836 P) (BT.node (o_1507 P) BT.nil BT.nil) BT.nil)) (BT.node (pre.o_600 P) (BT.node (pre.o_600 P) (BT.node (o_1368 P) BT.nil BT.nil) BT.nil) (BT.node (o_1101 P) BT.nil BT.nil)))) (BT.node (pre.o_117 P) (BT.node (pre.o_194 P) (BT.node (pre.o_350 P) (BT.node (pre.o_600 P) (BT.node (pre.o_600 P) BT.nil BT.nil) BT.nil) (BT.node (pre.o_930 P) (BT.node (o_1475 P) BT.nil BT.nil) BT.nil)) (BT.node (pre.o_518 P) (BT.node (pre.o_836 P) (BT.node (pre.o_836 P) BT.nil BT.nil) BT.nil) (BT.node (pre.o_600 P) BT.nil BT.nil))) (BT.node (pre.o_600 P) (BT.node (pre.o_434 P) (BT.node (pre.o_726 P) (BT.node (pre.o_600 P) BT.nil BT.nil) BT.nil) (BT.node (pre.o_997 P) (BT.node (pre.o_600 P) BT.nil BT.nil) BT.nil)) (BT.node (pre.o_589 P) (BT.node (pre.o_242 P) (BT.node (o_1403 P) BT.nil BT.nil) BT.nil) (BT.node (pre.o_836 P) BT.nil BT.nil)))))) (BT.node (pre.o_600 P) (BT.node (pre.o_38 P) (BT.node (pre.o_72 P) (BT.node (pre.o_141 P) (BT.node (pre.o_600 P) (BT.node (pre.o_616 P) (BT.node (o_1157 P) BT.nil BT.nil) BT.nil) (BT.node (pre.o_887 P) (BT.node (o_1430 P) BT.nil BT.nil) BT.nil)) (BT.node (pre.o_466 P) (BT.node (pre.o_600 P) (BT.node (o_1293 P) BT.nil BT.nil) BT.nil) (BT.node (pre.o_1021 P) (BT.node (o_1566 P) BT.nil BT.nil) BT.nil))) (BT.node (pre.o_222 P) (BT.node (pre.o_382 P) (BT.node (pre.o_600 P) (BT.node (o_1229 P) BT.nil BT.nil) BT.nil) (BT.node (pre.o_957 P) (BT.node (o_1499 P) BT.nil BT.nil) BT.nil)) (BT.node (pre.o_549 P) (BT.node (pre.o_817 P) (BT.node (o_1360 P) BT.nil BT.nil) BT.nil) (BT.node (pre.o_836 P) BT.nil BT.nil)))) (BT.node (pre.o_109 P) (BT.node (pre.o_182 P) (BT.node (pre.o_600 P) (BT.node (pre.o_648 P) (BT.node (o_1192 P) BT.nil BT.nil) BT.nil) (BT.node (pre.o_836 P) (BT.node (pre.o_836 P) BT.nil BT.nil) BT.nil)) (BT.node (pre.o_510 P) (BT.node (pre.o_600 P) (BT.node (pre.o_600 P) BT.nil BT.nil) BT.nil) (BT.node (o_1056 P) BT.nil BT.nil))) (BT.node (pre.o_258 P) (BT.node (pre.o_422 P) (BT.node (pre.o_718 P) (BT.node (o_1261 P) BT.nil BT.nil) BT.nil) (BT.node (pre.o_836 P) (BT.node (o_1531 P) BT.nil BT.nil) BT.nil)) (BT.node (pre.o_581 P) (BT.node (pre.o_852 P) (BT.node (pre.o_836 P) BT.nil BT.nil) BT.nil) (BT.node (o_1125 P) BT.nil BT.nil))))) (BT.node (pre.o_600 P) (BT.node (pre.o_836 P) (BT.node (pre.o_166 P) (BT.node (pre.o_318 P) (BT.node (pre.o_632 P) (BT.node (o_1173 P) BT.nil BT.nil) BT.nil) (BT.node (pre.o_906 P) (BT.node (o_1446 P) BT.nil BT.nil) BT.nil)) (BT.node (pre.o_486 P) (BT.node (pre.o_769 P) (BT.node (o_1312 P) BT.nil BT.nil) BT.nil) (BT.node (pre.o_600 P) BT.nil BT.nil))) (BT.node (pre.o_242 P) (BT.node (pre.o_406 P) (BT.node (pre.o_600 P) (BT.node (o_1245 P) BT.nil BT.nil) BT.nil) (BT.node (pre.o_973 P) (BT.node (pre.o_600 P) BT.nil BT.nil) BT.nil)) (BT.node (pre.o_565 P) (BT.node (pre.o_836 P) (BT.node (o_1376 P) BT.nil BT.nil) BT.nil) (BT.node (pre.o_600 P) BT.nil BT.nil)))) (BT.node (pre.o_600 P) (BT.node (pre.o_202 P) (BT.node (pre.o_600 P) (BT.node (pre.o_667 P) (BT.node (o_1208 P) BT.nil BT.nil) BT.nil) (BT.node (pre.o_938 P) (BT.node (pre.o_600 P) BT.nil BT.nil) BT.nil)) (BT.node (pre.o_530 P) (BT.node (pre.o_801 P) (BT.node (o_1344 P) BT.nil BT.nil) BT.nil) (BT.node (o_1072 P) BT.nil BT.nil))) (BT.node (pre.o_600 P) (BT.node (pre.o_446 P) (BT.node (pre.o_737 P) (BT.node (pre.o_836 P) BT.nil BT.nil) BT.nil) (BT.node (pre.o_600 P) (BT.node (o_1550 P) BT.nil BT.nil) BT.nil)) (BT.node (pre.o_600 P) (BT.node (pre.o_871 P) (BT.node (pre.o_600 P) BT.nil BT.nil) BT.nil) (BT.node (o_1141 P) BT.nil BT.nil)))))))))
end
end pre2
end H5

set_option maxRecDepth 100000
set_option maxHeartbeats 0
namespace H5
open PySem PySem.W PySem.Calls PyProof.Rows HandSHeadRun
noncomputable section
noncomputable def sk2 (w : World) (os : OsState) : SharedT := ⟨pre2.tree_1570 w.params, 1427, {}, Array.mk [], {}, 2238, os⟩
@[reducible] noncomputable def posL : Pos := ⟨871, 0, 881, 30⟩
noncomputable def Seg2 (w : World) : Prop := ∀ os : OsState, segF (stepQ (denQ tabQ) p0 w) 11 ann0 9000 (sk w os) (piecesQ ((bdy.drop 104).take 76) pre.env_1 cd0 posK fr0) = some (.next, sk2 w os, cd0, posL)
theorem s2F (w : World) : Seg2 (w.withFollow "special-get-raises" false) := fun os => by kernel_rfl
theorem s2T (w : World) : Seg2 (w.withFollow "special-get-raises" true) := fun os => by kernel_rfl
theorem s2 (w : World) : Seg2 w := byRow2 "special-get-raises" (P := Seg2) s2F s2T w
theorem seg2 (w : World) (os : OsState) : segRun treeTable p0 w 11 ann0 1 9000 (sk w os).abs (piecesOf ((bdy.drop 104).take 76) pre.env_1 cd0 posK fr0) = some (.next, (sk2 w os).abs, cd0, posL) := by
  have h := s2 w os
  rw [← tabQ_eq, ← denQ_eq, ← stepQ_eq, ← piecesQ_eq] at h
  exact segRun_of (segF_ok h)
noncomputable def tot (N : Nat) : Nat := 12 + (1 + (9000 + (9000 + N)))
theorem tailTo {w : World} {os : OsState} {N : Nat} {r : Shared} (h : topRun treeTable p0 w 11 ann0 N (sk2 w os).abs (restOf (bdy.drop 180) pre.env_1 cd0 posL fr0) = some r) : topRun treeTable p0 w 11 ann0 (tot N) (st0 w os) (topStub p0) = some r := by
  have e2 : bdy.drop 180 = (bdy.drop 104).drop 76 := by rw [List.drop_drop]
  rw [e2] at h
  have h2 := piece_app (seg2 w os) h
  rw [List.take_append_drop] at h2
  have h1 := piece_app (seg1 w os) h2
  rw [List.take_append_drop] at h1
  exact go_top (preG w os) (piece_block (blkG w os) h1)
/-- what the top leaves, from a run that is cut in two -/
theorem left_cut {p q : Program} {loose : List Str} {Xt : Shared → Bool} {α : Type} {Yf : Shared → α} {Ya : World → α} {N M : Nat} (e : opening p = plainProg p.main.scope.names) (hN : Nat.ble 600 N = true) (f : ∀ s, fenceModules? p s = some s) (le : M ≤ N)
    (run : ∀ (w : World) (os : OsState), ∃ s : Shared, topRun treeTable p w 11 ann0 M (st0 w os) (topStub p) = some s ∧ looksF p (boot_heap w.params) s = true ∧ openSeen q loose (importedModules p.main.body) Xt true s = openGood q loose ∧ Yf s = Ya w) : LeftO p q loose Xt Yf Ya N true := by
  intro w
  have hb := boot_open e hN f w
  rw [Option.map_eq_some_iff] at hb
  obtain ⟨sB, b1, b2⟩ := hb
  obtain ⟨hB, gB, dB, kB, osB⟩ := sB
  have b3 : hB = boot_heap w.params ∧ gB = Array.mk [] ∧ dB = boot_drawn ∧ kB = boot_toks := by simpa using b2
  obtain ⟨c1, c2, c3, c4⟩ := b3
  subst c1 c2 c3 c4
  obtain ⟨s, r0, l1, l2, l3⟩ := run w osB
  have r1 := topRun_mono (N - M) _ _ _ _ r0
  have eM : M + (N - M) = N := Nat.add_sub_of_le le
  rw [eM] at r1
  have tt : topFrom treeTable p w N (st0 w osB) = some s := by
    unfold topFrom
    dsimp only
    rw [boot_ns]
    have r2 := r1
    rw [← size0 w, ← annB w] at r2
    have go : ∀ (F : Shared → Option Shared), F s = some s → (topRun treeTable p w (boot_heap w.params).objs.size (bootAnn w) N (st0 w osB) (topStub p)).bind F = some s := fun F hF => by rw [r2]; exact hF
    refine go _ ?_
    have l1' := l1
    unfold looksF at l1'
    rw [l1']
  unfold openEnds
  rw [b1]
  have fin : ∀ (F : Shared → _ × α), F s = (openGood q loose, Ya w) → (topFrom treeTable p w N (st0 w osB)).map F = some (openGood q loose, Ya w) := fun F hF => by rw [tt]; exact congrArg some hF
  exact fin _ (Prod.ext l2 l3)
noncomputable def restQ (l : List Stmt) (env : Env) (c : Code) (at_ : Pos) (B : List Frame) : Thread := ⟨(execsQ l env).wrap doneF (leaveH env) id id, c, at_, B⟩
theorem restQ_eq (l : List Stmt) (env : Env) (c : Code) (at_ : Pos) (B : List Frame) : restOf l env c at_ B = restQ l env c at_ B := by
  unfold restOf restQ
  rw [execsQ_eq]
/-- the run of the rest, in the kernel -/
noncomputable def runK (w : World) (os : OsState) : Option SharedT := goF (stepQ (denQ tabQ) p0 w) 11 ann0 30000 (sk2 w os) (restQ (bdy.drop 180) pre.env_1 cd0 posL fr0)
noncomputable def RunC (q : Program) (H : Hook) (ob : SharedT → H.α) (loose : List Str) (w : World) : Prop :=
  ∀ os : OsState, (runK w os).map (fun s => (looksF p0 (boot_heap w.params) s.abs, seenQ q loose (importedModules p0.main.body) (fun s => xlAt q [] s && recOk R.toRowW.records s) s.abs, ob s)) = some (true, openGood q loose, H.val w)
theorem runC_of {q : Program} {H : Hook} {ob : SharedT → H.α} {loose : List Str} (ho : ∀ s : SharedT, ob s = H.obs s.abs) {w : World} (h : RunC q H ob loose w) (os : OsState) : ∃ s : Shared, topRun treeTable p0 w 11 ann0 (tot 30000) (st0 w os) (topStub p0) = some s ∧ looksF p0 (boot_heap w.params) s = true ∧ openSeen q loose (importedModules p0.main.body) (fun s => xlAt q [] s && recOk R.toRowW.records s) true s = openGood q loose ∧ H.obs s = H.val w := by
  have h0 := h os
  rw [Option.map_eq_some_iff] at h0
  obtain ⟨s, hs, hv⟩ := h0
  simp only [Prod.mk.injEq] at hv
  obtain ⟨v1, v2, v3⟩ := hv
  unfold runK at hs
  rw [← tabQ_eq, ← denQ_eq, ← stepQ_eq, ← restQ_eq] at hs
  refine ⟨s.abs, tailTo (goF_ok hs), v1, ?_, ?_⟩
  · rw [seenQ_eq]; exact v2
  · rw [← ho]; exact v3
end
end H5

set_option maxRecDepth 100000
set_option maxHeartbeats 4000000
/-! what the head tells of the program's names -/
namespace B1
open PySem PySem.Spec PyProof.Rows L2
/-! ### the Hook: HeadHook4's, with one more root, and defs that have a cell -/
abbrev FnS : Type := Option (Str × Str × Arguments × FuncBody × Scope × Addr × Value × Addr)
def fnS (K : PySem.W.Frag) (p : Str × Option Str) : FnS := match K.lookup (He.fAd K p) with
  | some ⟨_, _, .func fd, _⟩ => some (fd.name, fd.qualname, fd.params, fd.body, fd.scope, fd.globals, fd.defaults, fd.builtins)
  | _ => none
structure SupD where
  at_ : Str × Option Str
  name : Str
  qual : Str
  params : Arguments
  body : List Stmt
  scope : Scope
def SupD.val (d : SupD) : FnS := some (d.name, d.qual, d.params, .stmts d.body, d.scope, mainGlobals, .none, builtinsNs)
def asL0 : List Addr := [26, 25, 33, 32, 685, 684, 697, 696, 704, 703, 711, 710, 718, 717, 732, 731, 739, 738, 784, 783, 840, 839, 847, 846, 852, 851, 1469, 1468, 1885, 1884]
def asL1 : List Addr := [1892, 1891, 1899, 1898, 1906, 1905, 1911, 1910, 1918, 1917, 1925, 1924, 1932, 1931, 1939, 1938, 1944, 1943, 1951, 1950, 1958, 1957, 1965, 1964, 925, 773, 772, 770, 769, 829]
def asL2 : List Addr := [828, 798, 797, 805, 804, 812, 811, 819, 818, 1874, 1873, 1483, 1482, 1514, 1513, 1507, 1505, 1506, 1521, 1520, 1528, 1527, 1535, 1534, 1542, 1541, 1549, 1548, 1819, 1818]
def asL3 : List Addr := [1826, 1825, 154, 153, 176, 175, 173, 172, 161, 197, 196, 194, 193, 182, 218, 217, 215, 214, 203, 365, 364, 239, 238, 260, 259, 257, 256, 245, 272, 271]
def asL4 : List Addr := [284, 283, 296, 295, 308, 307, 320, 319, 332, 331, 344, 343, 377, 376, 389, 388, 437, 436, 449, 448, 401, 400, 413, 412, 425, 424]
def asL : List Addr := mainGlobals :: cStatics :: (asL0 ++ asL1 ++ asL2 ++ asL3 ++ asL4)
def asY (g : Addr → Option Obj) (n : Nat) : List Addr := asL
abbrev AlY : Type := He.AlX × List FnS
structure SaysY (fa : List He.Fa) (fn : List He.DefD) (ts : List He.Tab) (tf : List He.Defn) (ex : PySem.W.Frag → Bool) (sn : List SupD) (w : World) (h : Heap) (K : PySem.W.Frag) : Prop where
  x : He.SaysX fa fn ts tf ex w h K
  sup : sn.map (fun d => fnS K d.at_) = sn.map SupD.val
def obsY (n : Nat) (fa : List He.Fa) (fn : List He.DefD) (ts : List He.Tab) (tf : List He.Defn) (ex : PySem.W.Frag → Bool) (sn : List SupD) (g : Addr → Option Obj) : AlY :=
  ((He.obsT fa fn ts (He.frT g (asY g n)), ex (He.frT g (asY g n)) && He.tabsB g tf (He.frT g (asY g n))), sn.map fun d => fnS (He.frT g (asY g n)) d.at_)
def valY (fn : List He.DefD) (ts : List He.Tab) (sn : List SupD) (w : World) : AlY := (He.valX fn ts w, sn.map SupD.val)
theorem saysY_of {n : Nat} {fa : List He.Fa} {fn : List He.DefD} {ts : List He.Tab} {tf : List He.Defn} {ex : PySem.W.Frag → Bool} {sn : List SupD} {w : World} {h : Heap} (e0 : obsY n fa fn ts tf ex sn h.get? = valY fn ts sn w) : SaysY fa fn ts tf ex sn w h (He.frT h.get? (asY h.get? n)) := by
  have e : (He.obsT fa fn ts (He.frT h.get? (asY h.get? n)), ex (He.frT h.get? (asY h.get? n)) && He.tabsB h.get? tf (He.frT h.get? (asY h.get? n))) = He.valX fn ts w := congrArg (fun z : AlY => z.1) e0
  have e1 : He.obsT fa fn ts (He.frT h.get? (asY h.get? n)) = He.valT fn ts w := congrArg (fun z : He.AlX => z.1) e
  have e2 : (ex (He.frT h.get? (asY h.get? n)) && He.tabsB h.get? tf (He.frT h.get? (asY h.get? n))) = true := congrArg (fun z : He.AlX => z.2) e
  obtain ⟨h1, h2⟩ := He.ba e2
  have key : ∀ p ∈ tf, PySem.W.codeHdIn (He.frT h.get? (asY h.get? n)) (He.cT (He.frT h.get? (asY h.get? n)) p).1 (He.cT (He.frT h.get? (asY h.get? n)) p).2 = true ∧ ∃ o, h.get? (He.cT (He.frT h.get? (asY h.get? n)) p).2 = some o ∧ He.emptyTab o = true := fun p hp => by
    obtain ⟨h3, h4⟩ := He.ba (List.all_eq_true.mp h2 p hp)
    refine ⟨h3, ?_⟩
    cases q : h.get? (He.cT (He.frT h.get? (asY h.get? n)) p).2 with
    | none => rw [q] at h4; cases h4
    | some o => rw [q] at h4; exact ⟨o, rfl, h4⟩
  refine ⟨⟨e1, h1, fun p hp => (key p hp).1, fun p hp => ?_, fun p hp => ?_⟩, congrArg (fun z : AlY => z.2) e0⟩
  · obtain ⟨_, o, q, z⟩ := key p hp
    exact He.frT_none q z
  · obtain ⟨_, o, q, z⟩ := key p hp
    rw [q, He.emptyTab_eq z]
def hookY (n : Nat) (fa : List He.Fa) (fn : List He.DefD) (ts : List He.Tab) (tf : List He.Defn) (ex : PySem.W.Frag → Bool) (sn : List SupD) : PySem.W.Hook where
  α := AlY
  obs := fun s => obsY n fa fn ts tf ex sn s.heap.get?
  val := fun w => valY fn ts sn w
  says := fun w h => ∃ K : PySem.W.Frag, K.In h ∧ SaysY fa fn ts tf ex sn w h K
  of := fun _ _ e => ⟨_, He.frT_in, saysY_of e⟩
  keeps := fun _ _ _ ⟨K, hK, c⟩ k => ⟨K, PySem.W.Frag.In.keeps hK k, ⟨c.x.t, c.x.more, c.x.hd, c.x.out, fun p hp => k _ _ (c.x.empty p hp)⟩, c.sup⟩
theorem obsY_eq {n : Nat} {fa : List He.Fa} {fn : List He.DefD} {ts : List He.Tab} {tf : List He.Defn} {ex : PySem.W.Frag → Bool} {sn : List SupD} {g : Addr → Option Obj} {s : Shared} (h : ∀ a, g a = s.heap.get? a) : obsY n fa fn ts tf ex sn g = (hookY n fa fn ts tf ex sn).obs s := by
  have e : g = s.heap.get? := funext h
  rw [e] <;> rfl
/-! ### the facts -/
/-- the keyword default x of the def at f, if it is an object -/
def kwAt (f : Str × Option Str) (x : Str) (K : PySem.W.Frag) : Addr := match K.lookup (He.fAd K f) with
  | some ⟨_, _, .func fd, _⟩ => (match fd.kwdefaults with
    | .ref D => (match PySem.W.nsIn K D x with
      | some (some (.ref b)) => b
      | _ => 0)
    | _ => 0)
  | _ => 0
/-- an empty tuple -/
def mt0 (K : PySem.W.Frag) (a : Addr) : Bool := match K.lookup a with
  | some ⟨.type c, _, .seq its _, _⟩ => decide (c = "tuple") && its.isEmpty
  | _ => false
def oexB (K : PySem.W.Frag) (C : Addr) : Bool := match K.lookup C with
  | some ⟨.type t, _, .cls cd, sl⟩ => (match cd.mro, sl.toList with
    | .ref C' :: bm, [_, _, _, _, some (.builtin n), _] => decide (t = "type") && (decide (C' = C) && (decide (n = "ValueError.__new__") && (!cd.hasDel && (cd.hasDict && PySem.HandSPX.refsVE bm))))
    | _, _ => false)
  | _ => false
/-- the cell and the code of __init__ -/
def supB (K : PySem.W.Frag) (C fI : Addr) (q : Str) : Bool := match K.lookup fI with
  | some ⟨_, _, .func fd, _⟩ => (match fd.closure, fd.code with
    | [(n, cc)], .ref c => decide (n = ("__class__" : Str)) && (PySem.W.codeIn K (.ref c) q && ((match K.lookup c with
      | some ⟨_, _, .fields vs, _⟩ => (match (vs[2]? : Option Value) with
        | some (Value.str file _) => decide (PySem.Challenge.pw_livehall_k05_kinds_made.main.file = file)
        | _ => false)
      | _ => false) && (match K.lookup cc with
      | some ⟨_, _, .cell (some (.ref D)), _⟩ => decide (D = C)
      | _ => false)))
    | _, _ => false)
  | _ => false
def dOO (a b : Option (Option Value)) : Bool := decide (a = b)
def dOB (a b : Option Bool) : Bool := decide (a = b)
def errN : List Str := ["BadName", "Known", "NoKind", "NoName", "NoField", "BadField", "Fixed", "Ring", "InUse", "BadBody"]
def errM : List Str := ["NoWay", "NoThing", "BadValue", "Same", "NoRun", "NoBack", "NoText", "Ended", "NoAsk", "NoFrame"]
def errB (K : PySem.W.Frag) (x f : Str) : Bool :=
  oexB K (He.ga K x) && (dOO (PySem.W.findIn K (.ref (He.ga K x)) "__setattr__") (some (some (.builtin "object.__setattr__"))) && (dOB (PySem.W.subIn K (.ref (He.ga K x)) (.type "BaseException")) (some true) && (decide (PySem.W.typeIn K (.ref (He.ga K x)) = some (.type "type")) && (PySem.W.keepIn K (.ref (He.ga K x)) &&
  (dOO (PySem.W.findIn K (.ref (He.ga K x)) "__init__") (some (some (.ref (He.ma K (He.ga K x) "__init__")))) && (decide (PySem.W.typeIn K (.ref (He.ma K (He.ga K x) "__init__")) = some (.type "function")) && (supB K (He.ga K x) (He.ma K (He.ga K x) "__init__") (x ++ ".__init__") &&
  (dOO (PySem.W.ks_superIn K (He.ga K x) (He.ga K x) "__init__") (some (some (.builtin "ValueError.__init__"))) && (dOB (PySem.W.subIn K (.ref (He.ga K x)) (.type "ValueError")) (some true) && (dOB (PySem.W.mroIn K (He.ga K x) (.ref (He.ga K x))) (some true) && (dOO (PySem.W.findIn K (.ref (He.ga K x)) f) (some none) &&
  (dOB (PySem.W.exmOne K (.ref (He.ga K x)) (.ref (He.ga K "HallError"))) (some true) && (dOB (PySem.W.kitOne K (.ref (He.ga K x)) (.type "ValueError")) (some true) && ((errN ++ errM).all (fun y => dOB (PySem.W.kitOne K (.ref (He.ga K x)) (.ref (He.ga K y))) (some (decide (x = y)))) &&
  (dOO (PySem.W.findIn K (.ref (He.ga K x)) "__getattribute__") (some (some (.builtin "BaseException.__getattribute__"))) && (dOO (PySem.W.findIn K (.ref (He.ga K x)) "__getattr__") (some none) && (PySem.W.hasDictIn K (He.ga K x) && (dOO (PySem.W.findIn K (.ref (He.ga K x)) "__class__") (some (some (.builtin "object.__class__"))) &&
  (dOO (PySem.W.specialIn K (.builtin "object.__class__") "__get__") (some (some (.builtin "getset_descriptor.__get__"))) && (dOB (PySem.W.takesIn K (.builtin "object.__class__")) (some true) && dOB (PySem.W.mroIn K (He.ga K x) (.type "object")) (some true)))))))))))))))))))))
def fa0 : List He.Fa := [.glo "all_between", .glo "is_name", .glo "kind_number", .glo "kind_names", .glo "line_numbers", .glo "heirs_by_elder", .glo "heir_numbers", .glo "line_fields", .glo "line_weak", .glo "lay_row", .glo "check_new_name", .glo "check_own_fields"]
def fa1 : List He.Fa := [.glo "make_kind", .glo "perform", .glo "_law_draw", .glo "_law_begun", .glo "_law_class", .glo "_law_heard", .glo "_law_named", .glo "_law_new", .glo "_law_up", .glo "_law_all_fields", .glo "_law_new_kind", .glo "_law_kinds_right"]
def fa2 : List He.Fa := [.glo "_law_some_names", .glo "_law_a_kind", .glo "law", .glo "Kind", .glo "Store", .glo "Hall", .glo "KIND_DEEDS", .glo "HallError", .glo "BadName", .glo "Known", .glo "NoKind", .glo "NoName"]
def fa3 : List He.Fa := [.glo "NoField", .glo "BadField", .glo "Fixed", .glo "Ring", .glo "InUse", .glo "BadBody", .glo "NoWay", .glo "NoThing", .glo "BadValue", .glo "Same", .glo "NoRun", .glo "NoBack"]
def fa4 : List He.Fa := [.glo "NoText", .glo "Ended", .glo "NoAsk", .glo "NoFrame", .free "all", .free "isinstance", .free "str", .free "len", .free "tuple", .free "list", .free "sorted", .free "range"]
def fa5 : List He.Fa := [.free "ValueError", .free "super", .int "NAME_LETTERS" 12, .cls "Store", .cls "Kind", .cls "Hall", .mkr "Store", .mkr "Kind", .mkr "Hall", .meth "Store" "write", .meth "Store" "new_number", .meth "Store" "take_changes"]
def fa6 : List He.Fa := [.meth "Hall" "make_kind", .meth "Hall" "kinds", .meth "Hall" "line", .meth "Hall" "heirs", .meth "Hall" "fields_of", .meth "Hall" "weak_of", .meth "Hall" "carry_out", .meth "Hall" "do", .noat "Store" "kind_rows", .noat "Store" "kind_numbers", .noat "Store" "thing_rows", .noat "Store" "held_rows"]
def fa7 : List He.Fa := [.noat "Store" "run_rows", .noat "Store" "next_numbers", .noat "Store" "tables", .noat "Store" "changes", .noat "Kind" "name", .noat "Kind" "elder", .noat "Kind" "own", .noat "Kind" "weak", .noat "Kind" "ways", .noat "Hall" "store", .noat "Hall" "past", .noat "Hall" "future"]
def fa : List He.Fa := fa0 ++ fa1 ++ fa2 ++ fa3 ++ fa4 ++ fa5 ++ fa6 ++ fa7
def fn0 : List He.DefD := [⟨("all_between", none), "all_between", "all_between", defArgs (top 4), defBody (top 4), defScope (top 4), [], []⟩, ⟨("is_name", none), "is_name", "is_name", defArgs (top 5), defBody (top 5), defScope (top 5), [], []⟩, ⟨("kind_number", none), "kind_number", "kind_number", defArgs (top 72), defBody (top 72), defScope (top 72), [], []⟩, ⟨("kind_names", none), "kind_names", "kind_names", defArgs (top 74), defBody (top 74), defScope (top 74), [], []⟩, ⟨("line_numbers", none), "line_numbers", "line_numbers", defArgs (top 75), defBody (top 75), defScope (top 75), [], []⟩, ⟨("heirs_by_elder", none), "heirs_by_elder", "heirs_by_elder", defArgs (top 76), defBody (top 76), defScope (top 76), [], []⟩, ⟨("heir_numbers", none), "heir_numbers", "heir_numbers", defArgs (top 77), defBody (top 77), defScope (top 77), [], []⟩, ⟨("line_fields", none), "line_fields", "line_fields", defArgs (top 79), defBody (top 79), defScope (top 79), [], []⟩]
def fn1 : List He.DefD := [⟨("line_weak", none), "line_weak", "line_weak", defArgs (top 80), defBody (top 80), defScope (top 80), [], []⟩, ⟨("lay_row", none), "lay_row", "lay_row", defArgs (top 86), defBody (top 86), defScope (top 86), [], []⟩, ⟨("check_new_name", none), "check_new_name", "check_new_name", defArgs (top 89), defBody (top 89), defScope (top 89), [], []⟩, ⟨("check_own_fields", none), "check_own_fields", "check_own_fields", defArgs (top 90), defBody (top 90), defScope (top 90), [], []⟩, ⟨("make_kind", none), "make_kind", "make_kind", defArgs (top 91), defBody (top 91), defScope (top 91), [], []⟩, ⟨("perform", none), "perform", "perform", defArgs (top 187), defBody (top 187), defScope (top 187), [], []⟩, ⟨("_law_draw", none), "_law_draw", "_law_draw", defArgs (top 191), defBody (top 191), defScope (top 191), [], []⟩, ⟨("_law_begun", none), "_law_begun", "_law_begun", defArgs (top 192), defBody (top 192), defScope (top 192), [], []⟩]
def fn2 : List He.DefD := [⟨("_law_class", none), "_law_class", "_law_class", defArgs (top 193), defBody (top 193), defScope (top 193), [], []⟩, ⟨("_law_heard", none), "_law_heard", "_law_heard", defArgs (top 194), defBody (top 194), defScope (top 194), [], []⟩, ⟨("_law_named", none), "_law_named", "_law_named", defArgs (top 195), defBody (top 195), defScope (top 195), [], []⟩, ⟨("_law_new", none), "_law_new", "_law_new", defArgs (top 196), defBody (top 196), defScope (top 196), [], []⟩, ⟨("_law_up", none), "_law_up", "_law_up", defArgs (top 197), defBody (top 197), defScope (top 197), [], []⟩, ⟨("_law_all_fields", none), "_law_all_fields", "_law_all_fields", defArgs (top 198), defBody (top 198), defScope (top 198), [], []⟩, ⟨("_law_new_kind", none), "_law_new_kind", "_law_new_kind", defArgs (top 199), defBody (top 199), defScope (top 199), [], []⟩, ⟨("_law_kinds_right", none), "_law_kinds_right", "_law_kinds_right", defArgs (top 200), defBody (top 200), defScope (top 200), [], []⟩]
def fn3 : List He.DefD := [⟨("_law_some_names", none), "_law_some_names", "_law_some_names", defArgs (top 201), defBody (top 201), defScope (top 201), [], []⟩, ⟨("_law_a_kind", none), "_law_a_kind", "_law_a_kind", defArgs (top 202), defBody (top 202), defScope (top 202), [], []⟩, ⟨("law", none), "law", "law", defArgs (top 203), defBody (top 203), defScope (top 203), [], []⟩, ⟨("Kind", some "__init__"), "__init__", "Kind.__init__", defArgs (cm 85 0), defBody (cm 85 0), defScope (cm 85 0), [], []⟩, ⟨("Store", some "__init__"), "__init__", "Store.__init__", defArgs (cm 87 0), defBody (cm 87 0), defScope (cm 87 0), [], []⟩, ⟨("Store", some "write"), "write", "Store.write", defArgs (cm 87 1), defBody (cm 87 1), defScope (cm 87 1), [], []⟩, ⟨("Store", some "new_number"), "new_number", "Store.new_number", defArgs (cm 87 2), defBody (cm 87 2), defScope (cm 87 2), [], []⟩, ⟨("Store", some "take_changes"), "take_changes", "Store.take_changes", defArgs (cm 87 3), defBody (cm 87 3), defScope (cm 87 3), [], []⟩]
def fn4 : List He.DefD := [⟨("Hall", some "__init__"), "__init__", "Hall.__init__", defArgs (cm 189 0), defBody (cm 189 0), defScope (cm 189 0), [], []⟩, ⟨("Hall", some "make_kind"), "make_kind", "Hall.make_kind", defArgs (cm 189 4), defBody (cm 189 4), defScope (cm 189 4), [], [("elder", .str "thing"), ("fields", .adr (kwAt ("Hall", some "make_kind") "fields")), ("weak", .adr (kwAt ("Hall", some "make_kind") "weak"))]⟩, ⟨("Hall", some "kinds"), "kinds", "Hall.kinds", defArgs (cm 189 5), defBody (cm 189 5), defScope (cm 189 5), [], []⟩, ⟨("Hall", some "line"), "line", "Hall.line", defArgs (cm 189 6), defBody (cm 189 6), defScope (cm 189 6), [], []⟩, ⟨("Hall", some "heirs"), "heirs", "Hall.heirs", defArgs (cm 189 7), defBody (cm 189 7), defScope (cm 189 7), [], []⟩, ⟨("Hall", some "fields_of"), "fields_of", "Hall.fields_of", defArgs (cm 189 8), defBody (cm 189 8), defScope (cm 189 8), [], []⟩, ⟨("Hall", some "weak_of"), "weak_of", "Hall.weak_of", defArgs (cm 189 9), defBody (cm 189 9), defScope (cm 189 9), [], []⟩, ⟨("Hall", some "carry_out"), "carry_out", "Hall.carry_out", defArgs (cm 189 46), defBody (cm 189 46), defScope (cm 189 46), [], []⟩]
def fn5 : List He.DefD := [⟨("Hall", some "do"), "do", "Hall.do", defArgs (cm 189 47), defBody (cm 189 47), defScope (cm 189 47), [], []⟩]
def fn : List He.DefD := fn0 ++ fn1 ++ fn2 ++ fn3 ++ fn4 ++ fn5
def sn : List SupD := [⟨("BadName", some "__init__"), "__init__", "BadName.__init__", defArgs (cm 26 0), defBody (cm 26 0), defScope (cm 26 0)⟩, ⟨("Known", some "__init__"), "__init__", "Known.__init__", defArgs (cm 27 0), defBody (cm 27 0), defScope (cm 27 0)⟩, ⟨("NoKind", some "__init__"), "__init__", "NoKind.__init__", defArgs (cm 28 0), defBody (cm 28 0), defScope (cm 28 0)⟩, ⟨("BadField", some "__init__"), "__init__", "BadField.__init__", defArgs (cm 30 0), defBody (cm 30 0), defScope (cm 30 0)⟩]
def ts : List He.Tab := [(fun K => He.ga K "KIND_DEEDS", ["make_kind", "reshape", "move_kind", "rename_kind", "drop_kind"])]
def tf : List He.Defn := [("law", none)]
def erA : List Str := ["BadName", "Known", "NoKind", "NoName", "NoField", "BadField", "Fixed", "Ring", "InUse", "BadBody"]
def erB : List Str := ["NoWay", "NoThing", "BadValue", "Same", "NoRun", "NoBack", "NoText", "Ended", "NoAsk", "NoFrame"]
def ers : List Str := erA ++ erB
def exX (K : PySem.W.Frag) : Bool := errB K "BadName" "name" && (errB K "Known" "name" && (errB K "NoKind" "name" && (errB K "BadField" "field" && (He.valsB K (He.ga K "KIND_DEEDS") [("make_kind", .glo "make_kind")] && (mt0 K (kwAt ("Hall", some "make_kind") "fields" K) && (mt0 K (kwAt ("Hall", some "make_kind") "weak" K) && (decide (PySem.W.nsIn K cStatics "thirdparty.any" = some none))))))))
end B1

set_option maxRecDepth 100000
set_option maxHeartbeats 0
namespace H5
open PySem PySem.W PySem.Calls PyProof.Rows HandSHeadRun
@[reducible] noncomputable def qv : Program := view R.prog [203]
def n0 : List PySem.Str := ["_wall", "NAME_LETTERS", "TEXT_SIGNS", "all_between", "is_name", "is_short_text", "is_plain_value", "is_whole", "same_leaf", "same", "ROWS", "ES", "MANY", "LEAVES"]
def n1 : List PySem.Str := ["is_leaf", "shape_of", "parts_of", "is_body", "parts_in", "leaves_in", "kinds_in", "renamed", "HallError", "BadName", "Known", "NoKind", "NoField", "BadField"]
def n2 : List PySem.Str := ["Fixed", "Ring", "InUse", "BadBody", "NoWay", "NoThing", "BadValue", "NoName", "Same", "NoRun", "Ended", "NoAsk", "NoFrame", "NoBack"]
def n3 : List PySem.Str := ["NoText", "PAIRS", "Builder", "when_orders", "while_orders", "try_orders", "row_orders", "e_orders", "steps_of", "Way", "Frame", "Run", "first_frame", "copied"]
def n4 : List PySem.Str := ["chain", "begun", "halted_runs", "change_frames", "frame_values", "run_values", "step_of", "ready_ask", "take_ready", "put_ready", "kind_number", "kind_name", "kind_names", "line_numbers"]
def n5 : List PySem.Str := ["heirs_by_elder", "heir_numbers", "numbers_below", "line_fields", "line_weak", "own_fields", "finder", "things_of", "Kind", "lay_row", "Store", "check_new_name", "check_own_fields", "make_kind"]
def n6 : List PySem.Str := ["check_gone", "check_come", "refit", "renamed_way", "rename_in_kinds", "rename_fields", "rename_made", "reshape", "move_kind", "rename_kind", "is_made", "drop_kind", "KIND_DEEDS", "is_there"]
def n7 : List PySem.Str := ["check_value", "thing_number", "fields_with", "new_thing", "write_field", "make", "put", "hold", "let_go", "leads", "led", "lead_fields", "lead_names", "lead_runs"]
def n8 : List PySem.Str := ["lead_elsewhere", "swap", "forward", "field_told", "held_told", "THING_DEEDS", "led_number", "roots", "leading_fields", "steps_from", "reached", "kept_by", "sweep", "SWEEP_DEEDS"]
def n9 : List PySem.Str := ["HALTS", "Runner", "do_value", "do_self", "do_name", "has_field", "do_field", "do_new", "do_same", "counted", "do_count", "do_do", "do_let", "do_put"]
def n10 : List PySem.Str := ["do_give", "do_raise", "jump", "do_branch", "do_jump", "ACTIONS", "go_on", "first_looked", "begin_way", "beat", "run_row", "halted_row", "state_told", "keep_on"]
def n11 : List PySem.Str := ["start", "end", "go", "give", "waits_for_ask", "answer", "fault", "redo", "frame_told", "frames_told", "RUN_DEEDS", "write_ways", "check_way", "set_way"]
def n12 : List PySem.Str := ["own_way", "drop_way", "way_told", "found_kind", "WAY_DEEDS", "perform", "Hall", "_law_draw", "_law_begun", "_law_class", "_law_heard", "_law_named", "_law_new", "_law_up"]
def n13 : List PySem.Str := ["_law_all_fields", "_law_new_kind", "_law_kinds_right", "_law_some_names", "_law_a_kind"]
def names : List PySem.Str := n0 ++ n1 ++ n2 ++ n3 ++ n4 ++ n5 ++ n6 ++ n7 ++ n8 ++ n9 ++ n10 ++ n11 ++ n12 ++ n13

@[reducible] noncomputable def hk : Hook := B1.hookY 5 B1.fa B1.fn B1.ts B1.tf B1.exX B1.sn
noncomputable def ob (s : SharedT) : B1.AlY := B1.obsY 5 B1.fa B1.fn B1.ts B1.tf B1.exX B1.sn (getT s)
theorem ob_eq (s : SharedT) : ob s = hk.obs s.abs := B1.obsY_eq (getT_eq s)
theorem rF (w : World) : RunC qv hk ob names (w.withFollow "special-get-raises" false) := fun os => by kernel_rfl
theorem rT (w : World) : RunC qv hk ob names (w.withFollow "special-get-raises" true) := fun os => by kernel_rfl
theorem rAll (w : World) : RunC qv hk ob names w := byRow2 "special-get-raises" (P := fun w => RunC qv hk ob names w) rF rT w
end H5

set_option maxRecDepth 100000
set_option maxHeartbeats 4000000
/-! an own exception whose __init__ says super().__init__(text) and self.f = f -/
namespace B1
open PySem PySem.Spec PyProof.Rows L2 NdefX
/-- __init__(self, f) of the class at C -/
def spSup (C : Addr) (f : Str) : Sp := fun vs H Q _ => ∃ (a : Addr) (v : V), vs = [.ref a, v] ∧ H a = some (exo a C none) ∧ ∀ dx, H dx = none → dx ≠ a → Q .non (upd (upd H dx (exd dx [(f, v)])) a (exo a C (some dx)))
section
variable {CX : CXT} {P : Program} {w : World} {K : PySem.W.Frag} {mg : Str → Option Value} {base : Heap} {C fI cc c : Addr} {nm qual f txt file : Str} {params : Arguments} {scope : Scope} {kV doc pm ct oc ccl cl : Value} {an od cdd cld : Option Addr} {osl ccs csl : Array (Option Value)} {vc : Array Value} {tf : Tok} {ar : Arg} {j : Nat} {p0 p1 p2 p3 p4 p5 p6 p7 p8 p9 : Pos}
theorem ok_sup (T : OexC K C)
    (lk : K.lookup fI = some ⟨oc, od, .func (PySem.W.fnX nm qual params [.Expr (.Call (.Attribute (.Call (.Name "super" p0) [] [] p1) "__init__" p2) [.Constant (.str txt) j p3] [] p4) p5, .Assign [.Attribute (.Name "self" p6) f p7] (.Name f p8) p9] scope [("__class__", cc)] .none kV doc pm an (.ref c) ct), osl⟩)
    (hcd : PySem.W.codeIn K (.ref c) qual = true) (lc : K.lookup c = some ⟨ccl, cdd, .fields vc, ccs⟩) (hvs : vc[2]? = some (.str file tf)) (hfile : ((P.main.file : Str) == file) = true)
    (lcc : K.lookup cc = some ⟨cl, cld, .cell (some (.ref C)), csl⟩) (hsuper : mg "super" = none) (htop : (P.main.scope.names.lookup ("super" : Str)).isSome = false) (hth : PySem.W.nsIn K cStatics "thirdparty.any" = some none)
    (hsup : PySem.W.ks_superIn K C C "__init__" = some (some (.builtin "ValueError.__init__"))) (hsub : PySem.W.subIn K (.ref C) (.type "ValueError") = some true) (hmro : PySem.W.mroIn K C (.ref C) = some true) (hno : PySem.W.findIn K (.ref C) f = some none)
    (S : NScope ["self", f, "__class__"] ["self", f] ["__class__"] scope) (hks : scope.names.lookup ("super" : Str) = some .globalImplicit) (hp : (params.posonlyargs ++ params.args).head? = some ar) (har : ar.arg = "self") (hfd : (f == ("__debug__" : Str)) = false) (hfc : (f == ("__classdict__" : Str)) = false)
    {pl : Env → Sem Bool} (hev : ∀ env : Env, eval (.Call (.Attribute (.Call (.Name "super" p0) [] [] p1) "__init__" p2) [.Constant (.str txt) j p3] [] p4) env = (do
      let ov ← attributeBase (.Call (.Name "super" p0) [] [] p1) "__init__" env (eval (.Call (.Name "super" p0) [] [] p1) env)
      standAt p2.atName
      let (f, first) ← holding [ov] (getMethod ov "__init__" (pl env))
      callWith p4 f first (backTo p4 (starEach [.Constant (.str txt) j p3] env)) []))
    (hsw1 : ∀ env : Env, swapsWith (.Call (.Attribute (.Call (.Name "super" p0) [] [] p1) "__init__" p2) [.Constant (.str txt) j p3] [] p4) none p5.line env = pure false) (hsw2 : ∀ env : Env, swapsWith (.Name f p8) (some (.Attribute (.Name "self" p6) f p7)) p9.line env = pure false) :
    FnOk P w K mg base CX 1 fI (PySem.W.fnX nm qual params [.Expr (.Call (.Attribute (.Call (.Name "super" p0) [] [] p1) "__init__" p2) [.Constant (.str txt) j p3] [] p4) p5, .Assign [.Attribute (.Name "self" p6) f p7] (.Name f p8) p9] scope [("__class__", cc)] .none kV doc pm an (.ref c) ct) ["self", f] (spSup C f) := by
  refine ⟨fun vs H Q E h => ?_, fun A outer s H args us vs Q E hr e0 hb r hsp => ?_⟩
  · obtain ⟨a, v, rfl, _⟩ := h
    rfl
  obtain ⟨a, v, rfl, ha, q⟩ := hsp
  have KX : K.In s.heap := e0.mod.kin.keeps fun b o e => (e0.bs b o e).1
  have lim : s.heap.NoLimit := e0.mod.nolimit.keeps fun b o e => (e0.bs b o e).1
  refine ks_codeAny_call_defAt hr.depth (KX _ _ lk) rfl lim (PySem.W.codeRec_of KX hcd) rfl hb S.nocell (fun y hy => S.par y.1 (List.of_mem_zip (show (y.1, y.2) ∈ _ from hy)).1) (fun h₁ hns kp => ?_) S.co S.gen S.kind
  let F : NF := ⟨nm, qual, params, [.Expr (.Call (.Attribute (.Call (.Name "super" p0) [] [] p1) "__init__" p2) [.Constant (.str txt) j p3] [] p4) p5, .Assign [.Attribute (.Name "self" p6) f p7] (.Name f p8) p9], scope, [("__class__", cc)], c⟩
  have CA : CellsAt F.cl ["__class__"] [none] s.heap H := by
    have look : ∀ y c', ([("__class__", cc)] : List (Str × Addr)).lookup y = some c' → y = "__class__" ∧ c' = cc := fun y c' e => by
      simp only [List.lookup] at e
      split at e
      · rename_i q
        exact ⟨by simpa using q, (Option.some.inj e).symm⟩
      · cases e
    refine ⟨rfl, fun y c' e => ?_, fun x y c' e1 e2 => (look _ _ e1).1.trans (look _ _ e2).1.symm, fun i y e => ?_⟩
    · rw [(look _ _ e).2]
      exact ⟨(e0.bs cc _ (e0.mod.kin _ _ lcc)).2, some (.ref C), _, KX _ _ lcc, rfl⟩
    · cases i with
      | zero => cases e; exact ⟨cc, by rfl, fun v h => by cases h⟩
      | succ i => simp at e
  have I : L2.Inv (ncx CX P w K mg base ["self", f, "__class__"] F fI A outer s H E) [] (startF ["self", f, "__class__"] [.ref a, v] [none]) H { s with heap := h₁, toks := s.toks + ((["self", f] : List Str).zip us).length } := inv_startN S hr.hd e0 rfl r CA hns kp
  show PySem.wpAt (model P w) (A.deeper (envF F fI s.heap.objs.size)) (.func F.body (envF F fI s.heap.objs.size)) (execs F.body (envF F fI s.heap.objs.size)) _ _ _
  have hi : interactive (envF F fI s.heap.objs.size) = false := by
    unfold interactive
    rw [show (envF F fI s.heap.objs.size).scope.kind = .function from S.kind]; rfl
  have kS : (envF F fI s.heap.objs.size).kindOf "super" = some .globalImplicit := hks
  have kC : (envF F fI s.heap.objs.size).kindOf "__class__" = some .free := S.frk _ (List.mem_singleton.mpr rfl)
  have kE : (envF F fI s.heap.objs.size).kindOf "self" = some .local := S.par _ (List.mem_cons_self ..)
  generalize hsA : ({ s with heap := h₁, toks := s.toks + ((["self", f] : List Str).zip us).length } : Shared) = sA at I ⊢
  have KA : K.In sA.heap := I.kIn
  obtain ⟨mb, hb1, hb2⟩ := I.mod.blt
  obtain ⟨t1, hoa⟩ := exo_at I.hok ha
  have IA : PySem.W.InstAt sA.heap a { cls := .ref C, dict := none, data := .fields #[.ref t1, .none, .none, .none, .bool false, .none] } C none := ⟨hoa, rfl, rfl, trivial⟩
  obtain ⟨nmC, qC, NC, bsC, bmC, snC, subC, abC, colC, ddC, k0, k1, k2, k3, k5, hC, hbm⟩ := T.cls
  have hcl : PySem.W.clsIn K C = some { name := nmC, bases := bsC, mro := .ref C :: bmC, ns := NC, qualname := qC, hasDict := true, slotNames := snC, subclasses := subC, abstract := abC, collection := colC, hasDel := false } := by unfold PySem.W.clsIn; rw [hC] <;> rfl
  have selfN : ∃ m, sA.heap.Ns (envF F fI s.heap.objs.size).locals m ∧ m "self" = some (.ref a) := by
    obtain ⟨m, hm, hl⟩ := I.loc
    obtain ⟨u, ru, hu⟩ := hl 0 "self" (.ref a) rfl rfl (.inl kE)
    cases ru
    rcases hu with ⟨_, hu⟩ | ⟨z | z, _⟩
    · exact ⟨m, hm, hu⟩
    · exact nomatch kE.symm.trans z
    · exact nomatch kE.symm.trans z
  obtain ⟨m, hm, hms⟩ := selfN
  refine ks_wpAt_execs_cons (ks_wpAt_Expr_any (ks_wpAt_MethodCall (pl := pl _) ?_ (hev _)) hi (hsw1 _))
  refine ks_wpAt_super_base kS kC (by decide) rfl (KA _ _ lk) rfl hp rfl (KA _ _ lc) rfl hvs hfile htop ?_
  refine PySem.W.ks_loadName_global S.kind kS (Calls.loadGlobal_builtin (mg := mg) (mb := mb) (I.mod.glob.keeps I.bk) hsuper (hb1.keeps I.bk) ((hb2 _ (by decide)).trans (by rfl)) ⟨rfl, ?_⟩)
  refine wpAny_loadName_free S.kind kC (c := cc) rfl ⟨_, KA _ _ lcc, rfl⟩ ?_
  rw [har]
  refine wpAny_loadName_local S.kind kE hm hms ?_
  obtain ⟨hh, g, d, t, os⟩ := sA
  have hCo := KA _ _ hC
  refine ks_wpAny_isType_cls hCo rfl ⟨rfl, ?_⟩
  refine ks_wpAny_call_super hCo rfl hoa rfl (fun _ z => nomatch z) (PySem.W.looks_mroIn KA hmro) (fun h2 e2 k2' => ?_)
  have I2 := I.kept (t' := t) k2'
  have KB : K.In h2 := I2.kIn
  have hI2 : PySem.W.Looks (model P w) h2 (isInstance (.ref a) (.type "ValueError")) true := (show PySem.W.InstAt h2 a { cls := .ref C, dict := none, data := .fields #[.ref t1, .none, .none, .none, .bool false, .none] } C none from ⟨k2' _ _ hoa, rfl, rfl, trivial⟩).type.andThen (PySem.W.looks_subIn KB hsub)
  have hsup' := hsup
  unfold PySem.W.ks_superIn at hsup'
  rw [hcl] at hsup'
  refine PySem.W.kxs_getMethod PySem.W.kxs_ValueError e2 (PySem.W.looks_opaque KB hth) (l₀ := .ref C :: bmC) (fun A Q E s k q => wpAny_bind ((PySem.W.looks_clsIn KB hcl) A _ E s k (wpAny_pure q))) rfl KB hsup' hI2 (PySem.W.ks_ne KA IA hcl) (by decide) ?_
  have up3 : ∀ b o, h2.get? b = some o → (h2.push (PySem.W.kxs_mw "ValueError.__init__" a)).get? b = some o := fun b o e => Heap.get?_push_of_some _ e
  have e3 : (h2.push (PySem.W.kxs_mw "ValueError.__init__" a)).get? h2.objs.size = some (PySem.W.kxs_mw "ValueError.__init__" a) := Heap.get?_push_at rfl rfl
  have I3 := I2.kept (t' := t + 1) up3
  generalize h2.push (PySem.W.kxs_mw "ValueError.__init__" a) = h3 at up3 e3 I3 ⊢
  have e3C := up3 _ _ (k2' _ _ hCo)
  have e3a := up3 _ _ (k2' _ _ hoa)
  refine PySem.W.kxs_callWith (i := "ValueError.__init__") (x := a) (by rfl) (Calls.evalArgs_plain (Calls.spliced_cons (Calls.Constant_str (k := j) (pos := p3) (Calls.spliced_nil ⟨e3, ?_⟩))))
  refine wpAny_call (codeAny_of_tree ?_)
  show wpAny _ _ (callAny (.ref h2.objs.size) ⟨[.str txt (t + 1)], []⟩) _ _ _
  simp only [callAny]
  refine wpAny_bind (wpAny_load e3 ?_)
  simp only [PySem.W.kxs_mw, show (Value.type "method-wrapper" == Value.type "method" || Value.type "method-wrapper" == Value.type "builtin_function_or_method" || Value.type "method-wrapper" == Value.type "method-wrapper") = true by decide, if_true]
  refine PySem.W.KFB.if_so (by decide) ?_
  refine wpAny_bind (PySem.W.check_bound_init PySem.F.excBase_ValueError.toExcCallFacts e3C e3a rfl ?_)
  refine wpAny_bind (wpAny_pure (wpAny_pure ?_))
  refine ⟨plainId_quiet PySem.F.excBase_ValueError.init.plain _, codeAny_builtin PySem.F.excBase_ValueError.initEntry ?_⟩
  refine PySem.W.exc_init_tree (cls := .ref C) (t0 := t1) (dv := none) (c2 := .none) (c3 := .none) (b4 := .bool false) e3a (by show 1 ≤ sizeLine; decide) fun h4 k4 e4 e5 => ?_
  have J := (I3.tok (t := t + 1 + 1)).write (t' := t + 1 + 1) (h' := h4) (x := a) (e := a) (o := exo a C none) (by rw [ha]; exact True.intro) (.inl rfl) k4 ⟨_, e4⟩ (exo_ok e4)
  have eu : upd H a (exo a C none) = H := by
    funext b
    by_cases hb : b = a
    · rw [hb, upd_same, ha]
    · rw [upd_ne hb]
  rw [eu] at J
  show PySem.wpAt _ _ _ _ _ _ _
  refine PySem.wpAt_of_wpAny ?_
  have st2 := pss_one (ps_ost (X := ncx CX P w K mg base ["self", f, "__class__"] F fI A outer s H E) (f := f) (p' := p7) (pos := p9) (o := .Name "self" p6) (e := .Name f p8) (pv 0 rfl (.inl kE)) (pv 1 rfl (.inl (S.par f (List.mem_cons_of_mem _ List.mem_cons_self))) hfd hfc) (hsw2 _))
  refine wpAny_mono (st2.run [] _ _ H { nx := fun _ H' => Q .non H', rt := fun _ _ => False, bk := fun _ _ => False, ct := fun _ _ => False } J ⟨_, rfl, _, rfl, a, C, rfl, T, hno, .inl ⟨ha, fun dx hd1 hd2 => q dx hd1 hd2⟩⟩) (fun fl s' hs => ?_) fun e s' hs => hs
  cases fl with
  | ret u => obtain ⟨_, _, _, _, _, z⟩ := hs; exact False.elim z
  | next =>
    obtain ⟨σ', H', J', q'⟩ := hs
    exact ⟨.non, H', J'.os, J'.bare, J'.base, J'.hok, rfl, q'⟩
  | brk => obtain ⟨_, _, _, z⟩ := hs; exact False.elim z
  | cont => obtain ⟨_, _, _, z⟩ := hs; exact False.elim z
end
end B1

set_option maxRecDepth 100000
set_option maxHeartbeats 4000000
/-! setdefault of a dict with tuples as keys; a dict whose keys are None and ints -/
namespace B1
open PySem PySem.Spec PyProof.Rows L2
section
variable {X : Cx} {pins : List (Addr × Obj)} {σ : L2.St} {H : Hp} {s : Shared} {a b : Addr} {r : Value} {d : V} {k : List L2.Key} {A : Around} {E : Value → Shared → Prop}
theorem d_setdT {kvs : List (List L2.Key × V)} {Q : Value → Shared → Prop} (hu : A.units + 1 < cLine) (I : L2.Inv X pins σ H s) (e : H a = some (.dT kvs)) (eb : H b = some (.tup (k.map kV))) (rd : RelV d r) (hl : kvs.length < sizeLine)
    (h1 : ∀ v, valV kvs k = some v → ∀ (w' : Value) (s' : Shared), L2.Inv X pins σ H s' → RelV v w' → Q w' s') (h2 : valV kvs k = none → ∀ (w' : Value) (s' : Shared), L2.Inv X pins σ (upd H a (.dT (putK kvs k d))) s' → RelV d w' → Q w' s') :
    wpAny (model X.prog X.w) A (call (.builtin "dict.setdefault") [.ref a, .ref b, r]) Q E s := by
  obtain ⟨z, hd, xs, rel, dd⟩ := dt_of I.hok e
  have hz : xs.length ≤ sizeLine := by rw [← Paired.length rel]; exact z
  refine call_setdefault_heap (hsz := hz) (tupleKind_room_in1 hu) (key_of I.hok eb) hd dd (fun p hp => ?_) (fun hn h' dd' hs => ?_)
  · have q := rel.val k
    rw [hp] at q
    cases q0 : valV kvs k with
    | none => rw [q0] at q; exact (show False from q).elim
    | some v0 => rw [q0] at q; exact h1 v0 q0 _ _ (I.tok _) q
  · have q := rel.val k
    rw [hn] at q
    cases q0 : valV kvs k with
    | some v0 => rw [q0] at q; exact (show False from q).elim
    | none =>
      have hl2 : (putK kvs k d).length ≤ sizeLine := by have := length_putK kvs k d; omega
      obtain ⟨q, es, ep, hq, g2, g3, g4, _, g5⟩ := dd'
      refine h2 q0 _ _ (d_write I (by rw [e]; exact True.intro) hs ⟨q, hq⟩ ⟨hl2, hd, _, (rel.put k eb rd).keeps fun c ys ec => ?_, q, es, ep, hq, g2, g3, g4, g5⟩) rd
      rw [upd_ne (ne_of ec e (fun z => nomatch z))]
      exact ec
end
/-- d.setdefault(y, z), y a tuple -/
def tDSetdT (td ty tx : TE) : TE := fun σ H Q => td σ H fun x H1 => ∃ a, x = .ref a ∧ IsD H1 a ∧ ty σ H1 fun y H2 => tx σ H2 fun z H3 => ∃ (kvs : List (List L2.Key × V)) (k : List L2.Key) (b : Addr), H3 a = some (.dT kvs) ∧ y = .ref b ∧ H3 b = some (.tup (k.map kV)) ∧ kvs.length < sizeLine ∧
  (∀ v, valV kvs k = some v → Q v H3) ∧ (valV kvs k = none → Q z (upd H3 a (.dT (putK kvs k z))))
section
variable {X : Cx} {o e f : Expr} {td ty tx : TE} {apos cpos : Pos}
theorem pe_dsetdT (hu : X.A.units + 1 < cLine) (ho : PE X o td) (he : PE X e ty) (hf : PE X f tx) (m : M2 X o "setdefault" apos e f cpos) : PE X (.Call (.Attribute o "setdefault" apos) [e, f] [] cpos) (tDSetdT td ty tx) := by
  refine ⟨fun pins s σ H Q I h => ?_⟩
  refine wpAny_Call_method m.base m.few m.line PySem.F.plainAttrs_dict PySem.F.slot_dict_setdefault PySem.F.type_dict_setdefault (thn (ho.run pins s σ H _ I h) fun u s1 ⟨x, H1, I1, rx, a, ex, d, q1⟩ => ?_)
  subst ex
  obtain rfl : u = Value.ref a := rx
  obtain ⟨t1, t2, _⟩ := isD_at I1 d
  refine ⟨t1, t2, ?_⟩
  rw [m.trees]
  refine Calls.callWith_builtin rfl (Calls.evalArgs_plain (Calls.spliced_cons (thn (he.run pins s1 σ H1 _ I1 q1) fun iv s2 ⟨y, H2, I2, ry, q2⟩ =>
    Calls.spliced_cons (thn (hf.run pins s2 σ H2 _ I2 q2) fun fv s3 ⟨z, H3, I3, rz, kvs, k, b, ea, ey, eb, hl, q3, q4⟩ => Calls.spliced_nil ?_))))
  subst ey
  cases ry
  exact d_setdT hu I3 ea eb rz hl (fun v hv w' s4 I4 rw' => ⟨v, _, I4, rw', q3 v hv⟩) fun hn w' s4 I4 rw' => ⟨z, _, I4, rw', q4 hn⟩
end
/-! ### keys None and ints, values that are objects -/
def oV : Option Int → V
  | none => .non
  | some i => .int i
def lfOf : Option Int → Leaf
  | none => .none
  | some i => .num i
theorem lf_inj : ∀ {a b : Option Int}, lfOf a = lfOf b → a = b
  | none, none, _ => rfl
  | some _, some _, h => by injection h with h; rw [h]
  | none, some _, h => nomatch h
  | some _, none, h => nomatch h
/-- the dict at D, at most n entries, φ what it holds -/
def LeafD (P : Program) (w : World) (D : Addr) (φ : Option Int → Option Addr) (n : Nat) : HO := .ext fun h => (D == sysModules) = false ∧ ∃ vs : List (Leaf × Value), vs.length ≤ n ∧ h.DictOf (leafKind P w) D vs ∧ ∀ k, valueAt vs (lfOf k) = (φ k).map Value.ref
theorem dictOf_at {P : Program} {w : World} {h h' : Heap} {D : Addr} {vs : List (Leaf × Value)} (x : h.DictOf (leafKind P w) D vs) (k : ∀ o, h.get? D = some o → h'.get? D = some o) : h'.DictOf (leafKind P w) D vs := by
  obtain ⟨o, es, ep, ho, r⟩ := x
  exact ⟨o, es, ep, k o ho, r⟩
theorem leafD_new {P : Program} {w : World} {H : Hp} {h : Heap} {D : Addr} {φ : Option Int → Option Addr} {n : Nat} {vs : List (Leaf × Value)} (hd : (D == sysModules) = false) (hl : vs.length ≤ n) (x : h.DictOf (leafKind P w) D vs) (e : ∀ k, valueAt vs (lfOf k) = (φ k).map Value.ref) : ObjOk P w H h D (LeafD P w D φ n) := by
  have ⟨o, _, _, ho, _⟩ := x
  exact ⟨⟨hd, vs, hl, x, e⟩, ⟨o, ho⟩, fun h1 h2 ⟨a, vs, b, c, d⟩ k => ⟨a, vs, b, dictOf_at c k, d⟩⟩
theorem oV_is {P : Program} {w : World} {k : Option Int} {u : Value} (r : RelV (oV k) u) : (leafKind P w).is (lfOf k) u = true := by
  cases k with
  | none => cases r; rfl
  | some i => obtain ⟨t, rfl⟩ := r; exact decide_eq_true rfl
theorem leaf_stored {vs : List (Leaf × Value)} {φ : Option Int → Option Addr} {k : Option Int} {q : Addr} (e : ∀ k, valueAt vs (lfOf k) = (φ k).map Value.ref) (j : Option Int) : valueAt (stored vs (lfOf k) (.ref q)) (lfOf j) = ((fun j => if j = k then some q else φ j) j).map Value.ref := by
  rw [valueAt_stored]
  by_cases h : j = k
  · subst h; rw [if_pos rfl]; simp
  · rw [if_neg (fun z => h (lf_inj z)), e]; simp [h]
theorem stored_len (vs : List (Leaf × Value)) (k : Leaf) (v : Value) : (stored vs k v).length ≤ vs.length + 1 := by
  unfold stored
  split <;> simp
def tDNewL (P : Program) (w : World) : TE := fun _ H Q => ∀ p, H p = none → Q (.ref p) (upd H p (LeafD P w p (fun _ => none) 0))
def tDSetdL (P : Program) (w : World) (td ty tx : TE) : TE := fun σ H Q => td σ H fun x H1 => ∃ a φ0 n0, x = .ref a ∧ H1 a = some (LeafD P w a φ0 n0) ∧ ty σ H1 fun y H2 => tx σ H2 fun z H3 => ∃ (φ : Option Int → Option Addr) (n : Nat) (k : Option Int) (q : Addr), H3 a = some (LeafD P w a φ n) ∧ y = oV k ∧ z = .ref q ∧ n < 1000 ∧
  (∀ b, φ k = some b → Q (.ref b) H3) ∧ (φ k = none → Q (.ref q) (upd H3 a (LeafD P w a (fun j => if j = k then some q else φ j) (n + 1))))
def tDGetL (P : Program) (w : World) (td ty tx : TE) : TE := fun σ H Q => td σ H fun x H1 => ∃ a φ0 n0, x = .ref a ∧ H1 a = some (LeafD P w a φ0 n0) ∧ ty σ H1 fun y H2 => tx σ H2 fun z H3 => ∃ (φ : Option Int → Option Addr) (n : Nat) (k : Option Int), H3 a = some (LeafD P w a φ n) ∧ y = oV k ∧
  Q (((φ k).map V.ref).getD z) H3
section
variable {X : Cx} {o e f : Expr} {td ty tx : TE} {pos apos cpos : Pos}
theorem pe_dnewL : PE X (.Dict [] [] pos) (tDNewL X.prog X.w) := ⟨fun pins s σ H Q I h =>
  wpAny_Dict_empty ⟨.ref s.heap.objs.size, _, I.laid (a := s.heap.objs.size) (o := LeafD X.prog X.w s.heap.objs.size (fun _ => none) 0) (t' := s.toks) (fun _ _ q => Heap.get?_push_of_some _ q) (Nat.le_refl _) (leafD_new (beq_eq_false_iff_ne.mpr (Ne.symm (Nat.ne_of_lt I.big))) (Nat.le_refl _) (Heap.DictOf.new s.heap) (fun _ => rfl)), rfl, h _ (I.hok.fresh (Nat.le_refl _))⟩⟩
theorem leafD_at {pins : List (Addr × Obj)} {σ : L2.St} {H : Hp} {s : Shared} {a : Addr} {φ : Option Int → Option Addr} {n : Nat} (I : L2.Inv X pins σ H s) (ea : H a = some (LeafD X.prog X.w a φ n)) : (a == sysModules) = false ∧ ∃ vs : List (Leaf × Value), vs.length ≤ n ∧ s.heap.DictOf (leafKind X.prog X.w) a vs ∧ ∀ k, valueAt vs (lfOf k) = (φ k).map Value.ref := (I.hok a _ ea).1
theorem leafD_ty {pins : List (Addr × Obj)} {σ : L2.St} {H : Hp} {s : Shared} {a : Addr} {φ : Option Int → Option Addr} {n : Nat} (I : L2.Inv X pins σ H s) (ea : H a = some (LeafD X.prog X.w a φ n)) : s.TypeIs (.ref a) "dict" ∧ ∀ b, Value.ref a = .ref b → ∃ ob, s.heap.get? b = some ob ∧ ob.dict = none := by
  obtain ⟨_, vs, _, dd, _⟩ := leafD_at I ea
  refine ⟨dd.typeIs, fun b q => ?_⟩
  cases q
  obtain ⟨ob, _, _, h1, h2, _⟩ := dd
  exact ⟨ob, h1, h2.2.1⟩
theorem pe_dsetdL (ho : PE X o td) (he : PE X e ty) (hf : PE X f tx) (m : M2 X o "setdefault" apos e f cpos) : PE X (.Call (.Attribute o "setdefault" apos) [e, f] [] cpos) (tDSetdL X.prog X.w td ty tx) := by
  refine ⟨fun pins s σ H Q I h => ?_⟩
  refine wpAny_Call_method m.base m.few m.line PySem.F.plainAttrs_dict PySem.F.slot_dict_setdefault PySem.F.type_dict_setdefault (thn (ho.run pins s σ H _ I h) fun u s1 ⟨x, H1, I1, rx, a, φ0, n0, ex, d, q1⟩ => ?_)
  subst ex
  obtain rfl : u = Value.ref a := rx
  obtain ⟨t1, t2⟩ := leafD_ty I1 d
  refine ⟨t1, t2, ?_⟩
  rw [m.trees]
  refine Calls.callWith_builtin rfl (Calls.evalArgs_plain (Calls.spliced_cons (thn (he.run pins s1 σ H1 _ I1 q1) fun iv s2 ⟨y, H2, I2, ry, q2⟩ =>
    Calls.spliced_cons (thn (hf.run pins s2 σ H2 _ I2 q2) fun fv s3 ⟨z, H3, I3, rz, φ, n, k, q, ea, ey, ez, hn, q3, q4⟩ => Calls.spliced_nil ?_))))
  subst ey ez
  cases rz
  obtain ⟨hd, vs, hl, dd, ev⟩ := leafD_at I3 ea
  refine call_meetsIn PySem.F.slot_dict_setdefault dd.typeIs PySem.F.entry_dict_setdefault (PySem.F.args_dict_setdefault_3 _ _ _) (kt_meets_setdefault (leafKind X.prog X.w) a (oV_is ry) hd _) ⟨vs, dd, Nat.le_trans hl (Nat.le_trans (Nat.le_of_lt hn) (by decide)), fun v hv => ?_, fun hv h' dd' hs => ?_⟩
  · rw [ev] at hv
    obtain ⟨b, hb, rfl⟩ := Option.map_eq_some_iff.mp hv
    exact ⟨.ref b, H3, I3.tok _, rfl, q3 b hb⟩
  · rw [ev] at hv
    have hk : φ k = none := by
      cases z : φ k with
      | none => rfl
      | some b => rw [z] at hv; cases hv
    have he : ∃ q, h'.get? a = some q := let ⟨q, _, _, hq, _⟩ := dd'; ⟨q, hq⟩
    exact ⟨.ref q, _, d_write (t' := s3.toks + 1) I3 (by rw [ea]; exact True.intro) hs he (leafD_new hd (Nat.le_trans (stored_len _ _ _) (Nat.succ_le_succ hl)) dd' (leaf_stored ev)), rfl, q4 hk⟩
theorem pe_dgetL (ho : PE X o td) (he : PE X e ty) (hf : PE X f tx) (m : M2 X o "get" apos e f cpos) : PE X (.Call (.Attribute o "get" apos) [e, f] [] cpos) (tDGetL X.prog X.w td ty tx) := by
  refine ⟨fun pins s σ H Q I h => ?_⟩
  refine wpAny_Call_method m.base m.few m.line PySem.F.plainAttrs_dict PySem.F.slot_dict_get PySem.F.type_dict_get (thn (ho.run pins s σ H _ I h) fun u s1 ⟨x, H1, I1, rx, a, φ0, n0, ex, d, q1⟩ => ?_)
  subst ex
  obtain rfl : u = Value.ref a := rx
  obtain ⟨t1, t2⟩ := leafD_ty I1 d
  refine ⟨t1, t2, ?_⟩
  rw [m.trees]
  refine Calls.callWith_builtin rfl (Calls.evalArgs_plain (Calls.spliced_cons (thn (he.run pins s1 σ H1 _ I1 q1) fun iv s2 ⟨y, H2, I2, ry, q2⟩ =>
    Calls.spliced_cons (thn (hf.run pins s2 σ H2 _ I2 q2) fun fv s3 ⟨z, H3, I3, rz, φ, n, k, ea, ey, q3⟩ => Calls.spliced_nil ?_))))
  subst ey
  obtain ⟨hd, vs, hl, dd, ev⟩ := leafD_at I3 ea
  refine call_meetsIn PySem.F.slot_dict_get dd.typeIs PySem.F.entry_dict_get (PySem.F.args_dict_get_3 _ _ _) (meets_dict_get_default (leafKind X.prog X.w) a (oV_is ry) hd fv) ⟨_, dd.mapOf, ⟨_, H3, I3.tok _, ?_, q3⟩⟩
  show RelV _ ((valueAt vs (lfOf k)).getD fv)
  rw [ev]
  cases φ k with
  | none => exact rz
  | some b => exact rfl
end
end B1

set_option maxRecDepth 100000
set_option maxHeartbeats 4000000
/-! data that stand in the heap, displays of data -/
namespace B1
open PySem PySem.Spec PyProof.Rows L2
/-- all but the dicts is as it was -/
def Kept (H H' : Hp) : Prop := ∀ b o, H b = some o → (∀ kvs, o ≠ .dK kvs) → H' b = some o
theorem Kept.refl (H : Hp) : Kept H H := fun _ _ h _ => h
theorem Kept.trans {H H1 H2 : Hp} (a : Kept H H1) (b : Kept H1 H2) : Kept H H2 := fun c o h n => b c o (a c o h n) n
theorem Kept.of {H H' : Hp} (h : Same H H') : Kept H H' := fun c o e _ => h c o e
theorem Kept.sqL {K : PySem.W.Frag} {H H' : Hp} {a : Addr} {xs : List V} (e : Kept H H') (h : SqL K H a xs) : SqL K H' a xs := by
  rcases h with (h | ⟨o, h⟩) | h
  · exact .inl (.inl (e _ _ h fun _ q => nomatch q))
  · exact .inl (.inr ⟨o, e _ _ h fun _ q => nomatch q⟩)
  · exact .inr h
theorem Kept.sqT {K : PySem.W.Frag} {H H' : Hp} {a : Addr} {xs : List V} (e : Kept H H') (h : SqT K H a xs) : SqT K H' a xs := by
  rcases h with (h | ⟨o, h⟩) | h
  · exact .inl (.inl (e _ _ h fun _ q => nomatch q))
  · exact .inl (.inr ⟨o, e _ _ h fun _ q => nomatch q⟩)
  · exact .inr h
section
variable {K : PySem.W.Frag} {H H' : Hp}
mutual
theorem dp_kept (e : Kept H H') : ∀ (d : PyData) (v : V), Dp K H v d → Dp K H' v d
  | .none, _, h => by cases h; exact .non
  | .bool b, _, h => by cases h; exact .bl b
  | .int i, _, h => by cases h; exact .int i
  | .str x, _, h => by cases h; exact .str x
  | .list ds, _, h => by
    cases h with
    | lst hs ha => exact .lst (e.sqL hs) (dps_kept e ds _ ha)
  | .tuple ds, _, h => by
    cases h with
    | tup hs ha => exact .tup (e.sqT hs) (dps_kept e ds _ ha)
  | .dict _, _, h => by cases h
theorem dps_kept (e : Kept H H') : ∀ (ds : List PyData) (vs : List V), DpAll K H vs ds → DpAll K H' vs ds
  | [], _, h => by cases h; exact .nil
  | d :: ds, _, h => by
    cases h with
    | cons h1 h2 => exact .cons (dp_kept e d _ h1) (dps_kept e ds _ h2)
end
theorem Kept.dp {v : V} {d : PyData} (e : Kept H H') (h : Dp K H v d) : Dp K H' v d := dp_kept e d v h
theorem Kept.dps {vs : List V} {ds : List PyData} (e : Kept H H') (h : DpAll K H vs ds) : DpAll K H' vs ds := dps_kept e ds vs h
theorem same_dp {v : V} {d : PyData} (e : Same H H') (h : Dp K H v d) : Dp K H' v d := (Kept.of e).dp h
theorem same_dps {vs : List V} {ds : List PyData} (e : Same H H') (h : DpAll K H vs ds) : DpAll K H' vs ds := (Kept.of e).dps h
theorem Dp.tupD {v : V} {ds : List PyData} (h : Dp K H v (.tuple ds)) : ∃ a xs, v = .ref a ∧ SqT K H a xs ∧ DpAll K H xs ds := by
  cases h with
  | tup hs ha => exact ⟨_, _, rfl, hs, ha⟩
theorem Dp.lstD {v : V} {ds : List PyData} (h : Dp K H v (.list ds)) : ∃ a xs, v = .ref a ∧ SqL K H a xs ∧ DpAll K H xs ds := by
  cases h with
  | lst hs ha => exact ⟨_, _, rfl, hs, ha⟩
theorem dps_len : ∀ {vs : List V} {ds : List PyData}, DpAll K H vs ds → vs.length = ds.length
  | _, _, .nil => rfl
  | _, _, .cons _ t => by rw [List.length_cons, List.length_cons, dps_len t]
theorem dps_get : ∀ {vs : List V} {ds : List PyData} {i : Nat} {d : PyData}, DpAll K H vs ds → ds[i]? = some d → ∃ v, vs[i]? = some v ∧ Dp K H v d
  | _, _, _, _, .nil, e => by simp at e
  | _, _, 0, _, .cons h _, e => by cases e; exact ⟨_, rfl, h⟩
  | _, _, i + 1, d, .cons _ t, e => by
    obtain ⟨v, h1, h2⟩ := dps_get (i := i) (d := d) t (by simpa using e)
    exact ⟨v, by simpa using h1, h2⟩
theorem dps_getV : ∀ {vs : List V} {ds : List PyData} {i : Nat} {v : V}, DpAll K H vs ds → vs[i]? = some v → ∃ d, ds[i]? = some d ∧ Dp K H v d
  | _, _, _, _, .nil, e => by simp at e
  | _, _, 0, _, .cons h _, e => by cases e; exact ⟨_, rfl, h⟩
  | _, _, i + 1, d, .cons _ t, e => by
    obtain ⟨v, h1, h2⟩ := dps_getV (i := i) t (by simpa using e)
    exact ⟨v, by simpa using h1, h2⟩
theorem dps_append : ∀ {vs : List V} {ds : List PyData} {us : List V} {es : List PyData}, DpAll K H vs ds → DpAll K H us es → DpAll K H (vs ++ us) (ds ++ es)
  | _, _, _, _, .nil, h => h
  | _, _, _, _, .cons a b, h => .cons a (dps_append b h)
theorem dps_take : ∀ {vs : List V} {ds : List PyData} (n : Nat), DpAll K H vs ds → DpAll K H (vs.take n) (ds.take n)
  | _, _, 0, _ => .nil
  | _, _, _ + 1, .nil => .nil
  | _, _, n + 1, .cons a b => .cons a (dps_take n b)
theorem dps_drop : ∀ {vs : List V} {ds : List PyData} (n : Nat), DpAll K H vs ds → DpAll K H (vs.drop n) (ds.drop n)
  | _, _, 0, h => h
  | _, _, _ + 1, .nil => .nil
  | _, _, n + 1, .cons a b => dps_drop n b
end
theorem same_new {H : Hp} {p : Addr} (h : H p = none) (o : HO) : Same H (upd H p o) := fun b u q => by
  rw [upd_ne (ne_of_none q h)]; exact q
/-- a list or tuple of the program's own that nobody else knows may change -/
theorem kept_over {H0 H : Hp} {p : Addr} {o : HO} (k : Kept H0 H) (h : H0 p = none) : Kept H0 (upd H p o) := fun b u e n => by
  rw [upd_ne (ne_of_none e h)]; exact k b u e n
theorem same_over {H0 H : Hp} {p : Addr} {o : HO} (k : Same H0 H) (h : H0 p = none) : Same H0 (upd H p o) := fun b u e => by
  rw [upd_ne (ne_of_none e h)]; exact k b u e

/-! ### displays -/
def tDat (K : PySem.W.Frag) (used : List Nat) (δ : (Nat → PyData) → PyData) : TE := fun σ H Q => ∃ ρ : Nat → PyData, (∀ i ∈ used, ∃ v, σ[i]? = some (some v) ∧ Dp K H v (ρ i)) ∧ ∀ v H', Same H H' → Dp K H' v (δ ρ) → Q v H'
def tDatA (K : PySem.W.Frag) (used : List Nat) (δ : (Nat → PyData) → List PyData) : TA := fun σ H Q => ∃ ρ : Nat → PyData, (∀ i ∈ used, ∃ v, σ[i]? = some (some v) ∧ Dp K H v (ρ i)) ∧ ∀ vs H', Same H H' → DpAll K H' vs (δ ρ) → Q vs H'
section
variable {X : Cx} {e : Expr} {es : List Expr} {pos : Pos} {used used' : List Nat}
theorem pe_less {t t' : TE} (h : PE X e t) (k : ∀ σ H Q, t' σ H Q → t σ H Q) : PE X e t' := ⟨fun pins s σ H Q I q => h.run pins s σ H Q I (k σ H Q q)⟩
theorem pa_less {t t' : TA} (h : PA X es t) (k : ∀ σ H Q, t' σ H Q → t σ H Q) : PA X es t' := ⟨fun pos pins s σ H Q I q => h.run pos pins s σ H Q I (k σ H Q q)⟩
theorem de_str {x : Str} {j : Nat} : PE X (.Constant (.str x) j pos) (tDat X.K [] fun _ => .str x) := pe_less pe_str fun σ H Q ⟨ρ, _, k⟩ => k _ H (Same.refl H) (.str x)
theorem de_int {x : Int} {j : Nat} : PE X (.Constant (.int x) j pos) (tDat X.K [] fun _ => .int x) := pe_less pe_int fun σ H Q ⟨ρ, _, k⟩ => k _ H (Same.refl H) (.int x)
theorem de_bl {x : Bool} {j : Nat} : PE X (.Constant (.bool x) j pos) (tDat X.K [] fun _ => .bool x) := pe_less pe_bl fun σ H Q ⟨ρ, _, k⟩ => k _ H (Same.refl H) (.bl x)
theorem de_non {j : Nat} : PE X (.Constant .none j pos) (tDat X.K [] fun _ => .none) := pe_less pe_non fun σ H Q ⟨ρ, _, k⟩ => k _ H (Same.refl H) .non
theorem de_neg {x : Int} {j : Nat} {p : Pos} : PE X (.UnaryOp .USub (.Constant (.int x) j p) pos) (tDat X.K [] fun _ => .int (-x)) := pe_less (pe_un un_neg pe_int) fun σ H Q ⟨ρ, _, k⟩ => ⟨x, rfl, k _ H (Same.refl H) (.int _)⟩
theorem de_name (i : Nat) {x : Str} (h : PE X (.Name x pos) (tVar i)) : PE X (.Name x pos) (tDat X.K [i] fun ρ => ρ i) := pe_less h fun σ H Q ⟨ρ, u, k⟩ => by
  obtain ⟨v, e, d⟩ := u i (List.mem_singleton.mpr rfl)
  exact ⟨v, e, k v H (Same.refl H) d⟩
theorem das_nil : PA X [] (tDatA X.K [] fun _ => []) := pa_less pa_nil fun σ H Q ⟨ρ, _, k⟩ => k [] H (Same.refl H) .nil
theorem das_cons {δ : (Nat → PyData) → PyData} {δs : (Nat → PyData) → List PyData} (h : PE X e (tDat X.K used δ)) (r : PA X es (tDatA X.K used' δs)) (hs : starEach (e :: es) X.env = (false, eval e X.env) :: starEach es X.env := by rfl) :
    PA X (e :: es) (tDatA X.K (used ++ used') fun ρ => δ ρ :: δs ρ) := pa_less (pa_cons h r hs) fun σ H Q ⟨ρ, u, k⟩ => by
  refine ⟨ρ, fun i hi => u i (List.mem_append_left _ hi), fun v H1 s1 d1 => ⟨ρ, fun i hi => ?_, fun vs H2 s2 d2 => k (v :: vs) H2 (s1.trans s2) (.cons (same_dp s2 d1) d2)⟩⟩
  obtain ⟨v, e, d⟩ := u i (List.mem_append_right _ hi)
  exact ⟨v, e, same_dp s1 d⟩
theorem de_tup {x1 : Nat} {δs : (Nat → PyData) → List PyData} (r : PA X es (tDatA X.K used δs)) (hl : es.length ≤ 1000) (hz : ∀ ρ, (δs ρ).length = es.length := by intro _; rfl) : PE X (.Tuple es x1 pos) (tDat X.K used fun ρ => .tuple (δs ρ)) := pe_less (pe_tup r) fun σ H Q ⟨ρ, u, k⟩ => by
  refine ⟨ρ, u, fun vs H1 s1 d1 => ⟨?_, fun p hp => ?_⟩⟩
  · rw [dps_len d1, hz]; exact Nat.le_of_lt (small1000 hl)
  · have s2 := same_new hp (.tup vs)
    exact k _ _ (s1.trans s2) (.tup (SqT.of upd_same) (same_dps s2 d1))
theorem de_lst {δs : (Nat → PyData) → List PyData} (r : PA X es (tDatA X.K used δs)) (hl : es.length ≤ 1000) (hz : ∀ ρ, (δs ρ).length = es.length := by intro _; rfl) : PE X (.List es pos) (tDat X.K used fun ρ => .list (δs ρ)) := pe_less (pe_lst r) fun σ H Q ⟨ρ, u, k⟩ => by
  refine ⟨ρ, u, fun vs H1 s1 d1 => ⟨?_, fun p hp => ?_⟩⟩
  · rw [dps_len d1, hz]; exact Nat.le_of_lt (small1000 hl)
  · have s2 := same_new hp (.lst vs)
    exact k _ _ (s1.trans s2) (.lst (SqL.of upd_same) (same_dps s2 d1))
end
theorem use0 {F : Nat → Prop} : ∀ i ∈ ([] : List Nat), F i := fun _ h => nomatch h
theorem use1 {F : Nat → Prop} {a : Nat} (ha : F a) : ∀ i ∈ [a], F i := fun i h => by rw [List.mem_singleton.mp h]; exact ha
theorem use2 {F : Nat → Prop} {a b : Nat} (ha : F a) (hb : F b) : ∀ i ∈ [a, b], F i := fun i h => by
  rcases List.mem_cons.mp h with rfl | h
  · exact ha
  · exact use1 hb i h
theorem use3 {F : Nat → Prop} {a b c : Nat} (ha : F a) (hb : F b) (hc : F c) : ∀ i ∈ [a, b, c], F i := fun i h => by
  rcases List.mem_cons.mp h with rfl | h
  · exact ha
  · exact use2 hb hc i h
end B1

set_option maxRecDepth 100000
set_option maxHeartbeats 4000000
namespace B1
open PySem PySem.Spec PyProof.Rows L2
def between (lo hi : Nat) (x : Str) : Bool := x.cps.toList.all fun c => decide (lo ≤ c) && decide (c ≤ hi)
def isName : PyData → Bool
  | .str x => decide (1 ≤ x.length) && decide (x.length ≤ 12) && between 97 122 x
  | _ => false
/-! ### the text -/
/-! ### the names of the built-ins are still theirs -/
structure Bl (mg : Str → Option Value) : Prop where
  «all» : mg "all" = none
  isi : mg "isinstance" = none
  str : mg "str" = none
  len : mg "len" = none
  tuple : mg "tuple" = none
  list : mg "list" = none
  sorted : mg "sorted" = none
  range : mg "range" = none
theorem bt_all : bootBuiltins "all" = some (.builtin "all") := by decide +kernel
theorem bt_isi : bootBuiltins "isinstance" = some (.builtin "isinstance") := by decide +kernel
theorem bt_str : bootBuiltins "str" = some (.type "str") := by decide +kernel
theorem bt_len : bootBuiltins "len" = some (.builtin "len") := by decide +kernel
theorem bt_bool : bootBuiltins "bool" = some (.type "bool") := by decide +kernel
theorem bt_int : bootBuiltins "int" = some (.type "int") := by decide +kernel
theorem bt_tuple : bootBuiltins "tuple" = some (.type "tuple") := by decide +kernel
theorem bt_list : bootBuiltins "list" = some (.type "list") := by decide +kernel
theorem bt_sorted : bootBuiltins "sorted" = some (.builtin "sorted") := by decide +kernel
theorem bt_set : bootBuiltins "set" = some (.type "set") := by decide +kernel
theorem bt_min : bootBuiltins "min" = some (.builtin "min") := by decide +kernel
/-! ### isinstance of data -/
def tyN : PyData → String
  | .none => "NoneType"
  | .bool _ => "bool"
  | .int _ => "int"
  | .str _ => "str"
  | .list _ => "list"
  | .tuple _ => "tuple"
  | .dict _ => "dict"
theorem tyX_of {K : PySem.W.Frag} {H : Hp} {v : V} {d : PyData} (h : Dp K H v d) : TyX K H v (.type (tyN d)) := by
  cases h with
  | non => exact .base .non
  | bl b => exact .base (.bl b)
  | int i => exact .base (.int i)
  | str x => exact .base (.str x)
  | lst hs _ =>
    rcases hs with (h | ⟨o, h⟩) | ⟨o, its, n, hk, hc, _⟩
    · exact .base (.lst h)
    · exact .base (.frz h)
    · exact .kList hk hc
  | tup hs _ =>
    rcases hs with (h | ⟨o, h⟩) | ⟨o, its, n, hk, hc, _⟩
    · exact .base (.tup h)
    · exact .fTuple h
    · exact .kTuple hk hc
def isS : PyData → Bool
  | .str _ => true
  | _ => false
def isT : PyData → Bool
  | .tuple _ => true
  | _ => false
def isB : PyData → Bool
  | .bool _ => true
  | _ => false
def isI : PyData → Bool
  | .bool _ => true
  | .int _ => true
  | _ => false
theorem kit_S (d : PyData) : kitB (tyN d) "str" = some (isS d) := by cases d <;> simp only [tyN, isS] <;> decide +kernel
theorem kit_T (d : PyData) : kitB (tyN d) "tuple" = some (isT d) := by cases d <;> simp only [tyN, isT] <;> decide +kernel
theorem kit_B (d : PyData) : kitB (tyN d) "bool" = some (isB d) := by cases d <;> simp only [tyN, isB] <;> decide +kernel
theorem kit_I (d : PyData) : kitB (tyN d) "int" = some (isI d) := by cases d <;> simp only [tyN, isI] <;> decide +kernel
def rIsD (K : PySem.W.Frag) (T : String) (f : PyData → Bool) : List V → Hp → VK → Prop := fun xs H Q => ∃ (x : V) (d : PyData), xs = [x, .ty T] ∧ Dp K H x d ∧ Q (.bl (f d)) H
section
variable {X : Cx} {e : Expr} {te : TE} {p p2 pos : Pos} {x : Str} {T : String} {f : PyData → Bool}
theorem cr_isD (hk : ∀ d, kitB (tyN d) T = some (f d)) : CallR X (.builtin "isinstance") (rIsD X.K T f) := by
  intro pins s σ H xs us Q I r h
  obtain ⟨v, d, ex, hd, q⟩ := h
  exact call_isi pins s σ H xs us Q I r ⟨v, .ty T, _, .type T, f d, ex, .ty T, tyX_of hd, kit_ty (hk d), q⟩
theorem pe_isD (hk : ∀ d, kitB (tyN d) T = some (f d)) (hg : Gl X "isinstance") (hm : X.mg "isinstance" = none) (hgT : Gl X x) (hmT : X.mg x = none) (hv : bootBuiltins x = some (.type T)) (he : PE X e te)
    (hs : starEach [e, .Name x p2] X.env = (false, eval e X.env) :: starEach [.Name x p2] X.env := by rfl) (hs2 : starEach [.Name x p2] X.env = (false, eval (.Name x p2) X.env) :: starEach [] X.env := by rfl) (hpl : (backTo pos (starEach [.Name x p2] X.env)).any (·.1) = false := by rfl)
    (hn : x ≠ "__name__" := by decide) (hd : (x == ("__debug__" : Str)) = false := by decide) :
    PE X (.Call (.Name "isinstance" p) [e, .Name x p2] [] pos) (tCB (rIsD X.K T f) (tCons te (tCons (tC (.ty T)) tNil))) :=
  pe_callB (cr_isD hk) hg hm bt_isi (pa_cons he (pa_cons (pe_bltn (v := .ty T) hgT hmT hv rfl hn hd) pa_nil hs2) hs) (he := hs) (hpl := hpl)
end
/-! ### all_between -/
abbrev sBtw : Stmt := top 4
abbrev sName : Stmt := top 5
theorem scBtw : FnScope ["text", "low", "high", "sign"] ["text", "low", "high"] (defScope sBtw) := ⟨rfl, rfl, rfl, by decide +kernel, rfl, by decide +kernel, by decide +kernel⟩
theorem scName : FnScope ["thing"] ["thing"] (defScope sName) := ⟨rfl, rfl, rfl, by decide +kernel, rfl, by decide +kernel, by decide +kernel⟩
/-- the sign is between the two -/
def btw (lo hi c : Nat) : Bool := decide (lo ≤ c) && decide (c ≤ hi)
theorem lt_one (a b : Nat) : decide ((⟨#[a]⟩ : Str).cps.toList < (⟨#[b]⟩ : Str).cps.toList) = decide (a < b) := by
  have : (⟨#[a]⟩ : Str).cps.toList < (⟨#[b]⟩ : Str).cps.toList ↔ a < b := by
    show [a] < [b] ↔ a < b
    simp [List.cons_lt_cons_iff]
  simp [this]
theorem le_one (a b : Nat) : (!decide ((⟨#[b]⟩ : Str).cps.toList < (⟨#[a]⟩ : Str).cps.toList)) = decide (a ≤ b) := by
  rw [lt_one]
  by_cases h : a ≤ b
  · rw [decide_eq_true h, decide_eq_false (by omega)]; rfl
  · rw [decide_eq_false h, decide_eq_true (by omega)]; rfl
theorem tyes {σ : L2.St} {H : Hp} {Q : Bool → Hp → Prop} (h : Q true H) : tYes σ H Q := h
theorem smallM {n : Nat} (h : n ≤ 1000000) : n < sizeLine := Nat.lt_of_le_of_lt h (by decide)
def spBtw : Sp := fun vs H Q _ => ∃ (x : Str) (lo hi : Nat), vs = [.str x, .str ⟨#[lo]⟩, .str ⟨#[hi]⟩] ∧ x.length ≤ 1000000 ∧ ∀ H', Same H H' → Q (.bl (between lo hi x)) H'
def spName (K : PySem.W.Frag) : Sp := fun vs H Q _ => ∃ (v : V) (d : PyData), vs = [v] ∧ Dp K H v d ∧ (∀ x, d = .str x → x.length ≤ 1000000) ∧ ∀ H', Same H H' → Q (.bl (isName d)) H'
theorem name_str (x : Str) : isName (.str x) = (decide (1 ≤ x.length) && decide (x.length ≤ 12) && between 97 122 x) := rfl
theorem bl_to {Q : VK} {H : Hp} {b b' : Bool} (h : Q (.bl b') H) (e : b = b') : Q (.bl b) H := e ▸ h
section
variable {P : Program} {w : World} {K : PySem.W.Frag} {mg : Str → Option Value} {base : Heap} {f g f2 : Addr} {fd gd fd2 : FuncData}
theorem ok_btw (F : Fun K "all_between" "all_between" sBtw f fd) (B : Bl mg) : FnOk P w K mg base CX0 1 f fd ["text", "low", "high"] spBtw := by
  refine F.ok scBtw (fun vs H Q E h => ?_) (fun cdv A outer s H vs Q E hr h => ?_)
  · obtain ⟨x, lo, hi, rfl, _⟩ := h
    rfl
  obtain ⟨x, lo, hi, rfl, hl, q⟩ := h
  refine ⟨_, pss_one (ps_ret (pe_callB (cr_all rfl) rfl B.all bt_all (pa_cons (pe_lc (own := [("sign", 3)]) (g := gName 3) (by rfl) scBtw.nd (pi_str (pv 0)) (blkOk_by (own := [("sign", 3)]) (N := ["text", "low", "high", "sign"]) (sc := defScope sBtw) (by decide +kernel))
    (fun _ _ _ _ _ => pg_name (i := 3) scBtw.nd rfl (Or.inl rfl)) (fun _ _ _ _ _ => pts_nil) (fun _ _ _ _ _ => pe_chain op_le_str op_le_str (pv 1) (pv 3) (pv 2))) pa_nil))), ?_⟩
  refine ⟨_, rfl, x, rfl, fun D nD => ?_⟩
  refine lc_it walk_str (fun i H' => Same H (upd H' D (.lst [])) ∧ H' D = some (.lst ((x.cps.toList.take i).map fun c => V.bl (btw lo hi c)))) ⟨?_, upd_same⟩ (fun _ _ _ _ => trivial) ?_ ?_
  · rw [upd_upd]; exact same_new nD _
  · rintro i v H1 H1' hi' ⟨sm, hD⟩ ⟨rfl, c, hc, rfl⟩
    have tk : x.cps.toList.take (i + 1) = x.cps.toList.take i ++ [c] := by
      rw [List.take_add_one, Array.getElem?_toList, hc]; rfl
    have sz : ((x.cps.toList.take i).map fun c => V.bl (btw lo hi c)).length < sizeLine := by
      rw [List.length_map, List.length_take, Array.length_toList]
      have : x.cps.size ≤ 1000000 := hl
      exact smallM (by omega)
    have fin : ∀ b, b = btw lo hi c → Same H (upd (upd H1' D (.lst (((x.cps.toList.take i).map fun c => V.bl (btw lo hi c)) ++ [V.bl b]))) D (.lst [])) ∧ (upd H1' D (.lst (((x.cps.toList.take i).map fun c => V.bl (btw lo hi c)) ++ [V.bl b]))) D = some (.lst ((x.cps.toList.take (i + 1)).map fun c => V.bl (btw lo hi c))) := fun b eb => by
      rw [upd_upd, upd_same, tk, List.map_append, eb]
      exact ⟨sm, rfl⟩
    refine ⟨rfl, tyes (iteT ?_)⟩
    refine ⟨_, rfl, _, rfl, _, _, rfl, rfl, _, rfl, ?_⟩
    rw [le_one]
    refine ite2 (fun e => ?_) (fun e => ?_)
    · refine ⟨_, rfl, _, _, rfl, rfl, _, hD, sz, ?_⟩
      rw [le_one]
      exact fin _ (by unfold btw; rw [e]; rfl)
    · exact ⟨_, hD, sz, fin _ (by unfold btw; rw [Bool.eq_false_iff.mpr e]; rfl)⟩
  · rintro H1 ⟨sm, hD⟩
    have e : (x.cps.toList.take x.cps.size).map (fun c => V.bl (btw lo hi c)) = (x.cps.toList.map (btw lo hi)).map V.bl := by
      rw [List.take_of_length_le (by rw [Array.length_toList]; exact Nat.le_refl _), List.map_map]; rfl
    rw [e] at hD
    refine ⟨D, _, rfl, SqL.of hD, ?_⟩
    have er : (x.cps.toList.map (btw lo hi)).all id = between lo hi x := by
      unfold between; rw [List.all_map]; rfl
    rw [er]
    refine q H1 fun b o e => ?_
    have := sm b o e
    rw [upd_ne (ne_of_none e nD)] at this
    exact this
theorem ok_name (F : Fun K "is_name" "is_name" sName f fd) (G : FnOk P w K mg base CX0 1 g gd ["text", "low", "high"] spBtw) (bG : Binds K gd ["text", "low", "high"] []) (kG : PySem.W.keepIn K (.ref g) = true) (mG : mg "all_between" = some (.ref g)) {t : Tok} (mN : mg "NAME_LETTERS" = some (.int 12 t)) (B : Bl mg) :
    FnOk P w K mg base CX0 2 f fd ["thing"] (spName K) := by
  refine F.ok scName (fun vs H Q E h => ?_) (fun cdv A outer s H vs Q E hr h => ?_)
  · obtain ⟨v, d, rfl, _⟩ := h
    rfl
  obtain ⟨v, d, rfl, hd, hl, q⟩ := h
  refine ⟨_, pss_one (ps_ret (pe_and (pe_isD kit_S rfl B.isi rfl B.str bt_str (pv 0)) (pe_and (pe_chain op_le op_le pe_int (pe_callB call_len_str rfl B.len bt_len (pa_cons (pv 0) pa_nil)) (pe_glob (v := .int 12) rfl mN ⟨_, rfl⟩)) (pe_one (pe_call G hr rfl mG kG bG .nil pass0 (pa_cons (pv 0) (pa_cons pe_str (pa_cons pe_str pa_nil)))))))), ?_⟩
  refine ⟨_, rfl, _, d, rfl, hd, _, rfl, ?_⟩
  cases d with
  | str x =>
    cases hd
    have hx := hl x rfl
    refine iteT ?_
    refine ⟨_, rfl, x, rfl, Nat.le_of_lt (smallM hx), _, _, rfl, rfl, _, rfl, ?_⟩
    refine ite2 (fun e => ?_) (fun e => ?_)
    · refine ⟨_, _, rfl, rfl, _, rfl, ?_⟩
      refine ite2 (fun e2 => ?_) (fun e2 => ?_)
      · refine ⟨_, rfl, x, 97, 122, rfl, hx, fun H' sm => ?_⟩
        have a1 := of_decide_eq_true e
        have a2 := of_decide_eq_true e2
        refine bl_to (q H' sm) ?_
        rw [name_str, decide_eq_true (show 1 ≤ x.length by omega), decide_eq_true (show x.length ≤ 12 by omega)]
        rfl
      · have a2 := of_decide_eq_false (Bool.eq_false_iff.mpr e2)
        refine bl_to (q H (Same.refl H)) ?_
        rw [name_str, decide_eq_false (show ¬ x.length ≤ 12 by omega), Bool.and_false]
        rfl
    · refine ⟨_, rfl, ?_⟩
      refine iteF ?_
      have a1 := of_decide_eq_false (Bool.eq_false_iff.mpr e)
      refine bl_to (q H (Same.refl H)) ?_
      rw [name_str, decide_eq_false (show ¬ 1 ≤ x.length by omega)]
      rfl
  | none => exact iteF (q H (Same.refl H))
  | bool b => exact iteF (q H (Same.refl H))
  | int i => exact iteF (q H (Same.refl H))
  | list xs => exact iteF (q H (Same.refl H))
  | tuple xs => exact iteF (q H (Same.refl H))
  | dict xs => exact iteF (q H (Same.refl H))
end
end B1

set_option maxRecDepth 100000
set_option maxHeartbeats 4000000
namespace B1
open PySem PySem.Spec PyProof.Rows L2
/-! ### parts of the heap -/
/-- what no owner of a part changes -/
def im : HO → Prop
  | .lst _ => False
  | .dK _ => False
  | .dT _ => False
  | .ins _ _ _ => False
  | .own _ => False
  | .set _ _ => False
  | _ => True
/-- a step of the owner of A: all else is kept, what it takes is new or unchangeable -/
structure Fp (A H A' H' : Hp) : Prop where
  sub : Same A' H'
  frame : ∀ b o, H b = some o → (A b = none ∨ im o) → H' b = some o
  dom : ∀ b o, A b = none → H b = some o → ¬ im o → A' b = none
theorem Fp.refl {A H : Hp} (s : Same A H) : Fp A H A H := ⟨s, fun _ _ h _ => h, fun _ _ h _ _ => h⟩
theorem Fp.trans {A H A1 H1 A2 H2 : Hp} (a : Fp A H A1 H1) (b : Fp A1 H1 A2 H2) : Fp A H A2 H2 := by
  refine ⟨b.sub, fun c o h k => ?_, fun c o n h i => ?_⟩
  · have h1 := a.frame c o h k
    refine b.frame c o h1 ?_
    rcases k with k | k
    · by_cases i : im o
      · exact .inr i
      · exact .inl (a.dom c o k h i)
    · exact .inr k
  · exact b.dom c o (a.dom c o n h i) (a.frame c o h (.inl n)) i
theorem Fp.same {A H H' : Hp} (s : Same A H) (e : Same H H') : Fp A H A H' := ⟨s.trans e, fun _ _ h _ => e _ _ h, fun _ _ h _ _ => h⟩
theorem sub_upd {A H : Hp} (s : Same A H) (a : Addr) (o : HO) : Same (upd A a o) (upd H a o) := fun b u e => by
  by_cases h : b = a
  · subst h; rw [upd_same] at e ⊢; exact e
  · rw [upd_ne h] at e ⊢; exact s _ _ e
theorem Fp.write {A H : Hp} {a : Addr} {o o' : HO} (s : Same A H) (h : A a = some o) (n : ¬ im o) : Fp A H (upd A a o') (upd H a o') := by
  refine ⟨sub_upd s a o', fun c u e k => ?_, fun c u k e i => ?_⟩
  · have : c ≠ a := fun z => by
      subst z
      rw [s _ _ h] at e
      cases e
      rcases k with k | k
      · rw [h] at k; cases k
      · exact n k
    rw [upd_ne this]; exact e
  · have : c ≠ a := fun z => by subst z; rw [h] at k; cases k
    rw [upd_ne this]; exact k
theorem Fp.alloc {A H : Hp} {p : Addr} {o : HO} (s : Same A H) (h : H p = none) : Fp A H (upd A p o) (upd H p o) := by
  refine ⟨sub_upd s p o, fun c u e _ => ?_, fun c u k e i => ?_⟩
  · rw [upd_ne (ne_of_none e h)]; exact e
  · rw [upd_ne (ne_of_none e h)]; exact k
theorem Fp.adopt {A H : Hp} {p : Addr} {o : HO} (s : Same A H) (h : H p = some o) (i : im o) : Fp A H (upd A p o) H := by
  refine ⟨fun c u e => ?_, fun c u e _ => e, fun c u k e n => ?_⟩
  · by_cases z : c = p
    · subst z; rw [upd_same] at e; cases e; exact h
    · rw [upd_ne z] at e; exact s _ _ e
  · have : c ≠ p := fun z => by subst z; rw [h] at e; cases e; exact n i
    rw [upd_ne this]; exact k
/-- two owners -/
def Dj (A B : Hp) : Prop := ∀ b o u, A b = some o → B b = some u → im o
theorem Dj.symm {A B H : Hp} (d : Dj A B) (sA : Same A H) (sB : Same B H) : Dj B A := fun b o u h1 h2 => by
  have e := (sB _ _ h1).symm.trans (sA _ _ h2)
  cases e
  exact d b _ _ h2 h1
theorem Fp.keep {A H A' H' B : Hp} (f : Fp A H A' H') (d : Dj A B) (sA : Same A H) (sB : Same B H) : Same B H' := fun b o e => by
  refine f.frame b o (sB _ _ e) ?_
  cases h : A b with
  | none => exact .inl rfl
  | some u =>
    have z := (sA _ _ h).symm.trans (sB _ _ e)
    cases z
    exact .inr (d b _ _ h e)
theorem Fp.dj {A H A' H' B : Hp} (f : Fp A H A' H') (d : Dj A B) (sA : Same A H) (sB : Same B H) : Dj A' B := fun b o u h1 h2 => by
  have e := (f.sub _ _ h1).symm.trans (f.keep d sA sB _ _ h2)
  cases e
  by_cases i : im o
  · exact i
  · exfalso
    have hn : A b = none := by
      cases h : A b with
      | none => rfl
      | some v =>
        have z := (sA _ _ h).symm.trans (sB _ _ h2)
        cases z
        exact absurd (d b _ _ h h2) i
    rw [f.dom b o hn (sB _ _ h2) i] at h1
    cases h1
/-- no table of code objects -/
def NoT (A : Hp) : Prop := ∀ b o, A b = some o → ∀ ps, o ≠ .tbl ps
theorem NoT.upd {A : Hp} (h : NoT A) {a : Addr} {o : HO} (n : ∀ ps, o ≠ .tbl ps) : NoT (upd A a o) := fun b u e => by
  by_cases z : b = a
  · subst z; rw [upd_same] at e; cases e; exact n
  · rw [upd_ne z] at e; exact h b u e
theorem NoT.ext {A H H' : Hp} (h : NoT A) (s : Same A H) (e : LamX.ExtN H H') : Same A H' := fun b o q => e b o (s _ _ q) (h b o q)
theorem Fp.tabs {A H A' H' : Hp} {T : List (Addr × Str)} (f : Fp A H A' H') (t : LamX.Tabs T H) : LamX.Tabs T H' := fun p hp => by
  obtain ⟨ps, h1, h2, h3⟩ := t p hp
  refine ⟨ps, f.frame _ _ h1 (.inr trivial), h2, fun pos cv hc => ?_⟩
  obtain ⟨c, e1, e2⟩ := h3 pos cv hc
  exact ⟨c, e1, f.frame _ _ e2 (.inr trivial)⟩
theorem same_sqT {K : PySem.W.Frag} {H H' : Hp} {a : Addr} {xs : List V} (e : Same H H') (h : SqT K H a xs) : SqT K H' a xs := by
  rcases h with (h | ⟨o, h⟩) | h
  · exact .inl (.inl (e _ _ h))
  · exact .inl (.inr ⟨o, e _ _ h⟩)
  · exact .inr h
theorem same_sqL {K : PySem.W.Frag} {H H' : Hp} {a : Addr} {xs : List V} (e : Same H H') (h : SqL K H a xs) : SqL K H' a xs := by
  rcases h with (h | ⟨o, h⟩) | h
  · exact .inl (.inl (e _ _ h))
  · exact .inl (.inr ⟨o, e _ _ h⟩)
  · exact .inr h
theorem Fp.sqT {K : PySem.W.Frag} {A H A' H' : Hp} {a : Addr} {xs : List V} (f : Fp A H A' H') (h : SqT K H a xs) : SqT K H' a xs := by
  rcases h with (h | ⟨o, h⟩) | h
  · exact .inl (.inl (f.frame _ _ h (.inr trivial)))
  · exact .inl (.inr ⟨o, f.frame _ _ h (.inr trivial)⟩)
  · exact .inr h
/-- a tuple is taken into a part -/
theorem Fp.adoptT {K : PySem.W.Frag} {A H : Hp} {a : Addr} {xs : List V} (s : Same A H) (h : SqT K H a xs) : ∃ A', Fp A H A' H ∧ Same A A' ∧ SqT K A' a xs ∧ (∀ b o, A' b = some o → A b = some o ∨ im o) ∧ (NoT A → NoT A') := by
  have go : ∀ o : HO, H a = some o → im o → (∀ ps, o ≠ .tbl ps) → (∀ A', A' a = some o → SqT K A' a xs) → ∃ A', Fp A H A' H ∧ Same A A' ∧ SqT K A' a xs ∧ (∀ b o, A' b = some o → A b = some o ∨ im o) ∧ (NoT A → NoT A') := fun o e i nt q => by
    refine ⟨upd A a o, .adopt s e i, fun b u hb => ?_, q _ upd_same, fun b u hb => ?_, fun n => n.upd nt⟩
    · by_cases z : b = a
      · subst z
        rw [upd_same]
        exact (e.symm.trans (s _ _ hb)) ▸ rfl
      · rw [upd_ne z]; exact hb
    · by_cases z : b = a
      · subst z; rw [upd_same] at hb; cases hb; exact .inr i
      · rw [upd_ne z] at hb; exact .inl hb
  rcases h with (h | ⟨o, h⟩) | h
  · exact go _ h trivial (fun _ z => nomatch z) fun A' e => .inl (.inl e)
  · exact go _ h trivial (fun _ z => nomatch z) fun A' e => .inl (.inr ⟨o, e⟩)
  · exact ⟨A, .refl s, Same.refl A, .inr h, fun _ _ e => .inl e, id⟩
/-! ### dicts as rows of keys and rows of values -/
section
variable {κ : Type} [DecidableEq κ]
theorem zip_val : ∀ {ks : List κ} {vs : List V} {i : Nat} {k : κ} {v : V}, ks.Nodup → ks[i]? = some k → vs[i]? = some v → valV (ks.zip vs) k = some v
  | [], _, _, _, _, _, h, _ => by simp at h
  | _ :: _, [], _, _, _, _, _, h => by simp at h
  | k0 :: ks, v0 :: vs, 0, k, v, nd, h1, h2 => by
    simp at h1 h2; subst h1 h2
    exact valV_pos rfl
  | k0 :: ks, v0 :: vs, i + 1, k, v, nd, h1, h2 => by
    have n := List.nodup_cons.mp nd
    have h1' : ks[i]? = some k := by simpa using h1
    rw [List.zip_cons_cons, valV_neg (fun e => n.1 (by rw [show k0 = k from e]; exact List.mem_of_getElem? h1'))]
    exact zip_val n.2 h1' (by simpa using h2)
theorem zip_none : ∀ {ks : List κ} {vs : List V} {k : κ}, k ∉ ks → valV (ks.zip vs) k = none
  | [], _, _, _ => by simp [valV]
  | _ :: _, [], _, _ => by simp [valV]
  | k0 :: ks, v0 :: vs, k, h => by
    rw [List.zip_cons_cons, valV_neg (fun e => h (by rw [show k0 = k from e]; exact List.mem_cons_self))]
    exact zip_none fun z => h (List.mem_cons_of_mem _ z)
theorem zip_put {ks : List κ} {vs : List V} {k : κ} {v : V} (h : k ∉ ks) (hl : ks.length = vs.length) : putK (ks.zip vs) k v = (ks ++ [k]).zip (vs ++ [v]) := by
  rw [putK_new v (zip_none h), List.zip_append hl]
  rfl
theorem zip_fst : ∀ {ks : List κ} {vs : List V}, ks.length = vs.length → (ks.zip vs).map (·.1) = ks
  | [], [], _ => rfl
  | k :: ks, v :: vs, h => by rw [List.zip_cons_cons, List.map_cons, zip_fst (by simpa using h)]
  | [], _ :: _, h => by simp at h
  | _ :: _, [], h => by simp at h
theorem zip_len {ks : List κ} {vs : List V} (h : ks.length = vs.length) : (ks.zip vs).length = ks.length := by
  rw [List.length_zip, h, Nat.min_self]
end
def ik (n : Nat) : List L2.Key := (List.range n).map fun i => .inl ((i : Nat) : Int)
def sk (ns : List Str) : List L2.Key := ns.map .inr
def iV (n : Nat) : List V := (List.range n).map fun i => .int ((i : Nat) : Int)
theorem ik_len (n : Nat) : (ik n).length = n := by simp [ik]
theorem iV_len (n : Nat) : (iV n).length = n := by simp [iV]
theorem nd_map {α β : Type} {f : α → β} (hf : ∀ a b, f a = f b → a = b) : ∀ {l : List α}, l.Nodup → (l.map f).Nodup
  | [], _ => List.nodup_nil
  | x :: l, h => by
    have n := List.nodup_cons.mp h
    refine List.nodup_cons.mpr ⟨fun z => ?_, nd_map hf n.2⟩
    obtain ⟨y, h1, h2⟩ := List.mem_map.mp z
    exact n.1 (hf _ _ h2 ▸ h1)
theorem ik_nd (n : Nat) : (ik n).Nodup := nd_map (fun a b h => by injection h with h; exact Int.ofNat.inj h) List.nodup_range
theorem ik_get {n i : Nat} (h : i < n) : (ik n)[i]? = some (.inl (i : Int)) := by
  simp [ik, List.getElem?_map, List.getElem?_range h]
theorem iV_get {n i : Nat} (h : i < n) : (iV n)[i]? = some (.int (i : Int)) := by
  simp [iV, List.getElem?_map, List.getElem?_range h]
theorem ik_succ (n : Nat) : ik (n + 1) = ik n ++ [.inl (n : Int)] := by simp [ik, List.range_succ]
theorem iV_succ (n : Nat) : iV (n + 1) = iV n ++ [.int (n : Int)] := by simp [iV, List.range_succ]
theorem ik_not (n : Nat) : (.inl (n : Int) : L2.Key) ∉ ik n := fun h => by
  obtain ⟨i, h1, h2⟩ := List.mem_map.mp h
  injection h2 with h2
  have := List.mem_range.mp h1
  have : i = n := Int.ofNat.inj h2
  omega
theorem sk_nd {ns : List Str} (h : ns.Nodup) : (sk ns).Nodup := nd_map (fun a b e => by injection e) h
theorem sk_get {ns : List Str} {i : Nat} {x : Str} (h : ns[i]? = some x) : (sk ns)[i]? = some (.inr x) := by simp [sk, List.getElem?_map, h]
theorem sk_not {ns : List Str} {x : Str} (h : x ∉ ns) : (.inr x : L2.Key) ∉ sk ns := fun z => by
  obtain ⟨y, h1, h2⟩ := List.mem_map.mp z
  injection h2 with h2
  exact h (h2 ▸ h1)
/-! ### kinds -/
structure Kd where
  name : Str
  elder : Option Nat
  own : List Str
  loose : List Str
def Kd.weak (k : Kd) : List Str := k.own.filter fun x => decide (x ∈ k.loose)
def oN (o : Option Nat) : V := oV (o.map fun n => ((n : Nat) : Int))
/-- the line of a kind, as numbers -/
inductive IsLine (M : List Kd) : Option Nat → List Nat → Prop
  | nil : IsLine M none []
  | cons {i : Nat} {k : Kd} {r : List Nat} : M[i]? = some k → IsLine M k.elder r → IsLine M (some i) (i :: r)
structure Wf (M : List Kd) : Prop where
  first : ∃ k r, M = k :: r ∧ k.elder = none
  up : ∀ (i : Nat) (k : Kd), M[i]? = some k → ∀ e, k.elder = some e → e < i
  names : (M.map (·.name)).Nodup
  few : M.length ≤ 40
theorem IsLine.ex {M : List Kd} (w : Wf M) : ∀ (n i : Nat), i ≤ n → i < M.length → ∃ l, IsLine M (some i) l ∧ l.length ≤ i + 1
  | n, i, hn, hi => by
    have hk : M[i]? = some M[i] := List.getElem?_eq_getElem hi
    cases he : (M[i]).elder with
    | none => exact ⟨[i], .cons hk (he ▸ .nil), by simp⟩
    | some e =>
      have lt := w.up i _ hk e he
      match n with
      | 0 => omega
      | n + 1 =>
        obtain ⟨l, h1, h2⟩ := IsLine.ex w n e (by omega) (by omega)
        exact ⟨i :: l, .cons hk (he ▸ h1), by simp; omega⟩
theorem IsLine.fn {M : List Kd} : ∀ {o : Option Nat} {l l' : List Nat}, IsLine M o l → IsLine M o l' → l = l'
  | _, _, _, .nil, .nil => rfl
  | _, _, _, .cons h t, .cons h' t' => by
    have e := h.symm.trans h'
    cases e
    rw [IsLine.fn t t']
theorem IsLine.mono {M : List Kd} {k : Kd} : ∀ {o : Option Nat} {l : List Nat}, IsLine M o l → IsLine (M ++ [k]) o l
  | _, _, .nil => .nil
  | _, _, .cons h t => .cons (by rw [List.getElem?_append_left (List.getElem?_eq_some_iff.mp h).1]; exact h) t.mono
/-- a kind's row -/
def kF (k : Kd) (o g y : Addr) : List (Str × V) := [("name", .str k.name), ("elder", oN k.elder), ("own", .ref o), ("weak", .ref g), ("ways", .ref y)]
def KdAt (K : PySem.W.Frag) (CK : Addr) (A : Hp) (a : Addr) (k : Kd) : Prop := ∃ (dk o g y : Addr) (kvs : List (L2.Key × V)), A a = some (.ins CK dk (kF k o g y)) ∧ SqT K A o (k.own.map V.str) ∧ SqT K A g (k.weak.map V.str) ∧ A y = some (.dK kvs) ∧ kvs = []
theorem KdAt.same {K : PySem.W.Frag} {CK : Addr} {A A' : Hp} {a : Addr} {k : Kd} (h : KdAt K CK A a k) (e : Same A A') : KdAt K CK A' a k := by
  obtain ⟨dk, o, g, y, kvs, h1, h2, h3, h4⟩ := h
  exact ⟨dk, o, g, y, kvs, e _ _ h1, same_sqT e h2, same_sqT e h3, e _ _ h4.1, h4.2⟩
structure SA where
  ds : Addr
  kr : Addr
  kn : Addr
  tr : Addr
  hr : Addr
  rr : Addr
  nn : Addr
  tb : Addr
def sF (a : SA) (ch : Addr) : List (Str × V) := [("kind_rows", .ref a.kr), ("kind_numbers", .ref a.kn), ("thing_rows", .ref a.tr), ("held_rows", .ref a.hr), ("run_rows", .ref a.rr), ("next_numbers", .ref a.nn), ("tables", .ref a.tb), ("changes", .ref ch)]
def tbK : List L2.Key := sk ["kind", "kind name", "thing", "held", "run", "next"]
def tbV (a : SA) : List V := [.ref a.kr, .ref a.kn, .ref a.tr, .ref a.hr, .ref a.rr, .ref a.nn]
def nnK : List L2.Key := sk ["kind", "thing", "run"]
def nnV (n : Nat) : List V := [.int (n : Int), .int 0, .int 0]
structure StAt (K : PySem.W.Frag) (CS CK : Addr) (A : Hp) (s : Addr) (a : SA) (ch : Addr) (ks : List Addr) (M : List Kd) : Prop where
  st : A s = some (.ins CS a.ds (sF a ch))
  kr : A a.kr = some (.dK ((ik M.length).zip (ks.map V.ref)))
  kn : A a.kn = some (.dK ((sk (M.map (·.name))).zip (iV M.length)))
  nn : A a.nn = some (.dK (nnK.zip (nnV M.length)))
  tb : A a.tb = some (.dK (tbK.zip (tbV a)))
  ch : ∃ cs, A ch = some (.dT cs) ∧ cs.length ≤ 3 * M.length
  len : ks.length = M.length
  rows : ∀ (i : Nat) (b : Addr) (k : Kd), ks[i]? = some b → M[i]? = some k → KdAt K CK A b k
  wf : Wf M
theorem StAt.same {K : PySem.W.Frag} {CS CK : Addr} {A A' : Hp} {s : Addr} {a : SA} {ch : Addr} {ks : List Addr} {M : List Kd} (h : StAt K CS CK A s a ch ks M) (e : Same A A') : StAt K CS CK A' s a ch ks M := by
  obtain ⟨cs, h1, h2⟩ := h.ch
  exact ⟨e _ _ h.st, e _ _ h.kr, e _ _ h.kn, e _ _ h.nn, e _ _ h.tb, ⟨cs, e _ _ h1, h2⟩, h.len, fun i b k p q => (h.rows i b k p q).same e, h.wf⟩
/-- a store -/
def Sto (K : PySem.W.Frag) (CS CK : Addr) (A : Hp) (s : Addr) (M : List Kd) : Prop := NoT A ∧ ∃ a ch ks, StAt K CS CK A s a ch ks M
section
variable {K : PySem.W.Frag} {CS CK : Addr} {A H : Hp} {s : Addr} {a : SA} {ch : Addr} {ks : List Addr} {M : List Kd}
theorem StAt.row (h : StAt K CS CK A s a ch ks M) {i : Nat} (hi : i < M.length) : ∃ b k, ks[i]? = some b ∧ M[i]? = some k ∧ KdAt K CK A b k ∧ valV ((ik M.length).zip (ks.map V.ref)) (.inl (i : Int)) = some (.ref b) := by
  have hi' : i < ks.length := by rw [h.len]; exact hi
  have e1 := List.getElem?_eq_getElem hi'
  have e2 := List.getElem?_eq_getElem hi
  exact ⟨_, _, e1, e2, h.rows i _ _ e1 e2, zip_val (ik_nd _) (ik_get hi) (by rw [List.getElem?_map, e1]; rfl)⟩
theorem StAt.num (h : StAt K CS CK A s a ch ks M) {i : Nat} {k : Kd} (hk : M[i]? = some k) : valV ((sk (M.map (·.name))).zip (iV M.length)) (.inr k.name) = some (.int (i : Int)) := by
  have hi := (List.getElem?_eq_some_iff.mp hk).1
  exact zip_val (sk_nd h.wf.names) (sk_get (by rw [List.getElem?_map, hk]; rfl)) (iV_get hi)
theorem kn_none {M : List Kd} {x : Str} (h : x ∉ M.map (·.name)) : valV ((sk (M.map (·.name))).zip (iV M.length)) (.inr x) = none := zip_none (sk_not h)
end
end B1

set_option maxRecDepth 100000
set_option maxHeartbeats 4000000
namespace B1
open PySem PySem.Spec PyProof.Rows L2
/-! ### an error of the program's own is raised -/
structure XErr (P : Program) (w : World) (K : PySem.W.Frag) (mg : Str → Option Value) (base : Heap) (x f : Str) (C : Addr) : Prop where
  T : OexC K C
  at_ : mg x = some (.ref C)
  ex : ∃ (fI : Addr) (fd : FuncData), PySem.W.findIn K (.ref C) "__init__" = some (some (.ref fI)) ∧ PySem.W.typeIn K (.ref fI) = some (.type "function") ∧ FnOk P w K mg base CX0 1 fI fd ["self", f] (spSup C f) ∧ Binds K fd ["self", f] []
def tErr (C : Addr) (f : Str) (W : WX) (te : TE) : TS := fun _ σ H => tMkO C (spSup C f) [] (tCons te tNil) σ H (fun cls d H' => W cls d σ H')
theorem ps_err {X : Cx} {W : WX} {x f : Str} {C : Addr} {e : Expr} {te : TE} {p pos p2 : Pos} (R : XErr X.prog X.w X.K X.mg X.base x f C) (hr : Room 2 X.A) (hc : X.calm = true) (hg : Gl X x) (tk : Takes X W) (he : PE X e te)
    (hdb : (x == ("__debug__" : Str)) = false := by decide) (hs : starEach [e] X.env = (false, eval e X.env) :: starEach [] X.env := by rfl) : PS X (.Raise (some (.Call (.Name x p) [e] [] pos)) none p2) (tErr C f W te) := by
  obtain ⟨fI, fd, h1, h2, h3, h4⟩ := R.ex
  exact ps_raise hc tk (pmk_oex R.T h1 h2 h3 hr h4 .nil pass0 hg R.at_ (pa_cons he pa_nil hs) hdb hs)
theorem mkO_go {C : Addr} {f : Str} {v : V} {H1 : Hp} {Q : XK} (h : ∀ d, H1 d = none → Q (.ref C) (some d) (upd H1 d (.xd [(f, v)]))) :
    [v].length ≤ 1000 ∧ ∀ a, H1 a = none → spSup C f (.ref a :: ([v] ++ [])) (upd H1 a (exo a C none)) (fun v H2 => v = .non ∧ ∃ (d : Addr) (fs : List (Str × V)), H2 a = some (exo a C (some d)) ∧ H2 d = some (exd d fs) ∧ H1 d = none ∧ Q (.ref C) (some d) (upd (del H2 a) d (.xd fs))) (fun _ _ _ => False) := by
  refine ⟨(by show 1 ≤ 1000; decide), fun a ha => ⟨a, v, rfl, upd_same, fun dx hd hne => ⟨rfl, dx, [(f, v)], upd_same, ?_, ?_, ?_⟩⟩⟩
  · rw [upd_ne hne, upd_same]
  · rw [upd_ne hne] at hd; exact hd
  · rw [upd_ne hne] at hd
    have e : upd (del (upd (upd (upd H1 a (exo a C none)) dx (exd dx [(f, v)])) a (exo a C (some dx))) a) dx (.xd [(f, v)]) = upd H1 dx (.xd [(f, v)]) := by
      funext b
      by_cases hb : b = dx
      · subst hb; rw [upd_same, upd_same]
      · rw [upd_ne hb, upd_ne hb]
        by_cases hba : b = a
        · subst hba; rw [del_same, ha]
        · rw [del_ne hba, upd_ne hba, upd_ne hb, upd_ne hba]
    rw [e]
    exact h dx hd
/-! ### what is said of the classes -/
structure Tx (K : PySem.W.Frag) (mg : Str → Option Value) (CH CS CK : Addr) : Prop where
  B : Bl mg
  cS : Cls K CS
  cK : Cls K CK
  cH : Cls K CH
  aS : ∀ f ∈ (["kind_rows", "kind_numbers", "thing_rows", "held_rows", "run_rows", "next_numbers", "tables", "changes"] : List Str), NoAttr K CS f
  aK : ∀ f ∈ (["name", "elder", "own", "weak", "ways"] : List Str), NoAttr K CK f
  aH : ∀ f ∈ (["store", "past", "future"] : List Str), NoAttr K CH f
  mS : mg "Store" = some (.ref CS)
  mK : mg "Kind" = some (.ref CK)
  mH : mg "Hall" = some (.ref CH)
/-! ### list.extend of a tuple -/
theorem ext_tup (l : Addr) (items : Array Value) (n : Nat) (b : Addr) (items2 : Array Value) (n2 : Nat) (dd : Option Addr) (sl : Array (Option Value)) (hs0 : ¬(!items.isEmpty && Builtin.List.listTooLong (items.size + items2.size)) = true) (hs1 : items.size ≤ sizeLine) (hs2 : items.size + items2.size ≤ sizeLine + 1) :
    Meets (Builtin.«list.extend» ⟨[.ref l, .ref b], []⟩) (fun _ R s => s.heap.get? l = some { cls := .type "list", dict := none, data := .seq items n, slots := #[] } ∧ s.heap.get? b = some { cls := .type "tuple", dict := dd, data := .seq items2 n2, slots := sl } ∧ R (.ok (.ret Value.none)) { s with heap := s.heap.update l (Obj.mapSeq fun x => x ++ items2), toks := s.toks }) :=
  .of_wp fun prog w A R s h => by
    obtain ⟨hp, g, d, tk, os⟩ := s; obtain ⟨hl, hb, h⟩ := h; have f1 := AutoSeq1.idx_int; have f2 := AutoSeq1.sub_tuple_tuple; have f3 := AutoSeq1.sub_list_list; have f4 := AutoSeq1.sub_tuple_list; have f5 := AutoSeq1.sub_list_tuple
    have hz' : (items ++ items2).size ≤ sizeLine + 1 := by rw [Array.size_append]; exact hs2
    wp_walk using (wpAny_updateSeq hl rfl (hz := hs1) (_hz' := hz')), wpAny_loadPart' hl, wpAny_loadPart' hb; exact ⟨_, rfl, h⟩
def rExtendT (K : PySem.W.Frag) : V → List V → Hp → VK → Prop := fun x vs H Q => ∃ l b xs zs, x = .ref l ∧ vs = [.ref b] ∧ H l = some (.lst xs) ∧ SqT K H b zs ∧ xs.length + zs.length ≤ sizeLine ∧ Q .non (upd H l (.lst (xs ++ zs)))
theorem mt_extendT {X : Cx} : MtM X "list.extend" (rExtendT X.K) := by
  intro pins s σ H x vs v us Q I rx rv h
  obtain ⟨l, b, xs, zs, rfl, rfl, hH, hB, hz, q⟩ := h
  cases rx
  obtain ⟨u, rfl, ru⟩ := rv.one
  cases ru
  obtain ⟨z, its, n, r, hl, e⟩ := I.lstM hH
  obtain ⟨its2, r2, ⟨⟨oc, od, odt, osl⟩, e2, hc, n2, hd⟩, z2⟩ := I.tuple hB
  simp only at hc hd
  subst hc hd
  have l2 := r2.length
  have hsz : its.toArray.size + its2.toArray.size ≤ sizeLine := by rw [List.size_toArray, List.size_toArray]; omega
  have hlong : ¬ (!its.toArray.isEmpty && Builtin.List.listTooLong (its.toArray.size + its2.toArray.size)) = true := by
    rw [notLongL hsz, Bool.and_false]
    exact Bool.false_ne_true
  refine call_meets F.slot_list_extend ⟨_, e, rfl⟩ F.entry_list_extend (F.args_list_extend_2 _ _)
    (ext_tup l its.toArray n b its2.toArray n2 od osl hlong (by rw [List.size_toArray]; omega) (by omega)) ⟨e, e2, ?_⟩
  refine ⟨.non, _, I.lset (its' := its ++ its2) hH e (by simp) (r.append r2) ?_, rfl, q⟩
  rw [List.length_append]
  omega
abbrev nI (i : Nat) : V := .int ((i : Nat) : Int)
/-! ### kind_number, kind_names, line_numbers -/
abbrev sKN : Stmt := top 72
abbrev sKNs : Stmt := top 74
abbrev sLN : Stmt := top 75
theorem scKN : FnScope ["store", "name"] ["store", "name"] (defScope sKN) := ⟨rfl, rfl, rfl, by decide +kernel, rfl, by decide +kernel, by decide +kernel⟩
theorem scKNs : FnScope ["store", "numbers", "number"] ["store", "numbers"] (defScope sKNs) := ⟨rfl, rfl, rfl, by decide +kernel, rfl, by decide +kernel, by decide +kernel⟩
theorem scLN : FnScope ["store", "number", "numbers"] ["store", "number"] (defScope sLN) := ⟨rfl, rfl, rfl, by decide +kernel, rfl, by decide +kernel, by decide +kernel⟩
def spKN (K : PySem.W.Frag) (CS CK CN : Addr) : Sp := fun vs H Q E => ∃ (A : Hp) (s : Addr) (M : List Kd) (x : Str), vs = [.ref s, .str x] ∧ Sto K CS CK A s M ∧ Same A H ∧
  (∀ (i : Nat) (k : Kd), M[i]? = some k → k.name = x → Q (nI i) H) ∧ (x ∉ M.map (·.name) → ∀ d, H d = none → E (.ref CN) (some d) (upd H d (.xd [("name", .str x)])))
def spKNs (K : PySem.W.Frag) (CS CK : Addr) : Sp := fun vs H Q _ => ∃ (A : Hp) (s l : Addr) (M : List Kd) (ns : List Nat), vs = [.ref s, .ref l] ∧ Sto K CS CK A s M ∧ Same A H ∧ H l = some (.lst (ns.map nI)) ∧ (∀ i : Nat, i ∈ ns → i < M.length) ∧ ns.length ≤ 1000 ∧
  ∀ p H', Same H H' → H' p = some (.tup ((ns.filterMap fun (i : Nat) => M[i]?).map fun k => V.str k.name)) → Q (.ref p) H'
def spLN (K : PySem.W.Frag) (CS CK : Addr) : Sp := fun vs H Q _ => ∃ (A : Hp) (s : Addr) (M : List Kd) (o : Option Nat) (l : List Nat), vs = [.ref s, oN o] ∧ Sto K CS CK A s M ∧ Same A H ∧ IsLine M o l ∧ l.length ≤ 1000 ∧
  ∀ p H', Same H H' → H' p = some (.lst (l.map nI)) → Q (.ref p) H'
theorem isLine_lt {M : List Kd} : ∀ {o : Option Nat} {l : List Nat}, IsLine M o l → ∀ i ∈ l, i < M.length
  | _, _, .nil, i, h => nomatch h
  | _, _, .cons h t, i, hi => by
    rcases List.mem_cons.mp hi with rfl | hi
    · exact (List.getElem?_eq_some_iff.mp h).1
    · exact isLine_lt t i hi
section
variable {P : Program} {w : World} {K : PySem.W.Frag} {mg : Str → Option Value} {base : Heap} {f : Addr} {fd : FuncData} {CH CS CK CN : Addr}
theorem dg {H : Hp} {a : Addr} {kvs : List (L2.Key × V)} {k : L2.Key} {o : Option V} (h : H a = some (.dK kvs)) (e : valV kvs k = o) : DGet H a (kV k) o := e ▸ DGet.k h
theorem ok_kn (F : Fun K "kind_number" "kind_number" sKN f fd) (T : Tx K mg CH CS CK) (R : XErr P w K mg base "NoKind" "name" CN) : FnOk P w K mg base (L2.CX P w) 3 f fd ["store", "name"] (spKN K CS CK CN) := by
  refine F.okX scKN (fun vs H Q E h => ?_) (fun cdv A0 outer s0 H vs Q E hr h => ?_)
  · obtain ⟨A, s, M, x, rfl, _⟩ := h
    rfl
  obtain ⟨A, s, M, x, rfl, ⟨nt, a, ch, ks, S⟩, sm, q1, q2⟩ := h
  have hu := hu_of hr
  have B := T.B
  refine ⟨_, (pss_cons (ps_if (PW.pt (pw_or (pt_not (pt_val (pe_isD kit_S rfl B.isi rfl B.str bt_str (pv 1)))) (pw_or1 (pt_cmp (pc_dnotin hu (pv 1) (pe_fld (pv 0) rfl)))))) (pss_one (ps_err R hr rfl rfl (takes_of rfl rfl rfl rfl) (pv 1))) pss_nil) (pss_one (ps_ret (pe_dget hu (pe_fld (pv 0) rfl) (pv 1) (fun _ _ => rfl))))), ?_⟩
  have fl := fun (f : Str) (hf : f ∈ (["kind_rows", "kind_numbers", "thing_rows", "held_rows", "run_rows", "next_numbers", "tables", "changes"] : List Str)) => T.aS f hf
  refine ⟨_, rfl, _, .str x, rfl, .str x, _, rfl, iteF ?_⟩
  by_cases hx : x ∈ M.map (·.name)
  · obtain ⟨k, hk, hkx⟩ := List.mem_map.mp hx
    obtain ⟨i, hi⟩ := List.mem_iff_getElem?.mp hk
    have hv := S.num hi
    rw [hkx] at hv
    refine ⟨_, rfl, _, rfl, s, CS, a.ds, _, _, rfl, sm _ _ S.st, T.cS, fl _ (by decide +kernel), rfl, a.kn, _, rfl, dg (k := .inr x) (sm _ _ S.kn) hv, _, rfl, iteF ?_⟩
    exact ⟨_, rfl, s, CS, a.ds, _, _, rfl, sm _ _ S.st, T.cS, fl _ (by decide +kernel), rfl, _, rfl, a.kn, _, rfl, dg (k := .inr x) (sm _ _ S.kn) hv, q1 i k hi hkx⟩
  · refine ⟨_, rfl, _, rfl, s, CS, a.ds, _, _, rfl, sm _ _ S.st, T.cS, fl _ (by decide +kernel), rfl, a.kn, _, rfl, dg (k := .inr x) (sm _ _ S.kn) (kn_none hx), _, rfl, iteT ?_⟩
    exact ⟨_, rfl, mkO_go fun d hd => q2 hx d hd⟩
theorem ok_ln (F : Fun K "line_numbers" "line_numbers" sLN f fd) (T : Tx K mg CH CS CK) : FnOk P w K mg base CX0 1 f fd ["store", "number"] (spLN K CS CK) := by
  refine F.ok scLN (fun vs H Q E h => ?_) (fun cdv A0 outer s0 H vs Q E hr h => ?_)
  · obtain ⟨A, s, M, o, l, rfl, _⟩ := h
    rfl
  obtain ⟨A, s, M, o, l, rfl, ⟨nt, a, ch, ks, S⟩, sm, hL, hl, q⟩ := h
  have hu := hu_of hr
  refine ⟨_, (pss_cons (ps_set (i := 2) scLN.nd rfl (.inl rfl) (pe_lst pa_nil)) (pss_cons (ps_while PassesOwn.never (pt_cmp (pc_notN (pv 1))) (pss_cons (ps_expr (pe_bm PySem.F.plainAttrs_list PySem.F.slot_list_append PySem.F.type_list_append mt_append (pv 2) (pa_cons (pv 1) pa_nil))) (pss_one (ps_set (i := 1) scLN.nd rfl (.inl rfl) (pe_fld (pe_dget hu (pe_fld (pv 0) rfl) (pv 1) (fun _ _ => rfl)) rfl))))) (pss_one (ps_ret (pv 2))))), ?_⟩
  refine ⟨(by show 0 ≤ sizeLine; decide), fun p np => ?_⟩
  refine ⟨fun m σ H' => ∃ (o' : Option Nat) (pre rest : List Nat), σ = [some (.ref s), some (oN o'), some (.ref p)] ∧ H' = upd H p (.lst (pre.map nI)) ∧ l = pre ++ rest ∧ IsLine M o' rest ∧ m = rest.length, ⟨_, o, [], l, rfl, rfl, rfl, hL, rfl⟩, ?_⟩
  rintro m σ H' ⟨o', pre, rest, rfl, rfl, el, hr', rfl⟩
  have sp := same_new np (.lst (pre.map nI))
  refine ⟨_, rfl, _, rfl, ?_⟩
  cases hr' with
  | nil =>
    refine iteF ⟨_, rfl, q p _ sp ?_⟩
    rw [upd_same, el, List.append_nil]
  | @cons i k r hk ht =>
    refine iteT ⟨_, fun σ' H' h => h, ?_⟩
    have hi := (List.getElem?_eq_some_iff.mp hk).1
    obtain ⟨b, k', hb, hk', ⟨dk, oa, ga, ya, kvs, hK, _⟩, hv⟩ := S.row hi
    cases hk.symm.trans hk'
    have hlen : (pre.map nI).length < sizeLine := by
      rw [List.length_map]
      have : l.length = pre.length + (r.length + 1) := by rw [el, List.length_append, List.length_cons]
      exact smallM (by omega)
    refine ⟨_, rfl, .inl ⟨rfl, _, SqL.of upd_same⟩, _, rfl, p, _, _, rfl, rfl, upd_same, hlen, ?_⟩
    rw [upd_upd]
    have sp2 := same_new np (.lst ((pre.map nI) ++ [V.int (i : Int)]))
    refine ⟨_, rfl, s, CS, a.ds, _, _, rfl, sp2 _ _ (sm _ _ S.st), T.cS, T.aS _ (by decide +kernel), rfl, _, rfl, a.kr, _, rfl, dg (k := .inl (i : Int)) (sp2 _ _ (sm _ _ S.kr)) hv, b, CK, dk, _, _, rfl, sp2 _ _ (sm _ _ hK), T.cK, T.aK _ (by decide +kernel), rfl, ?_⟩
    exact ⟨r.length, Nat.lt_succ_self _, k.elder, pre ++ [i], r, rfl, by rw [List.map_append]; rfl, by rw [el, List.append_assoc]; rfl, ht, rfl⟩
end
end B1

set_option maxRecDepth 100000
set_option maxHeartbeats 4000000
namespace B1
open PySem PySem.Spec PyProof.Rows L2
abbrev sHB : Stmt := top 76
abbrev sHN : Stmt := top 77
abbrev sLF : Stmt := top 79
abbrev sLW : Stmt := top 80
theorem scHB : FnScope ["store", "families", "number"] ["store"] (defScope sHB) := ⟨rfl, rfl, rfl, by decide +kernel, rfl, by decide +kernel, by decide +kernel⟩
theorem scHN : FnScope ["store", "number"] ["store", "number"] (defScope sHN) := ⟨rfl, rfl, rfl, by decide +kernel, rfl, by decide +kernel, by decide +kernel⟩
theorem scLF : FnScope ["store", "number", "fields", "kind"] ["store", "number"] (defScope sLF) := ⟨rfl, rfl, rfl, by decide +kernel, rfl, by decide +kernel, by decide +kernel⟩
theorem scLW : FnScope ["store", "number", "fields", "kind"] ["store", "number"] (defScope sLW) := ⟨rfl, rfl, rfl, by decide +kernel, rfl, by decide +kernel, by decide +kernel⟩
def sel (M : List Kd) (g : Kd → List Str) (l : List Nat) : List Str := (l.filterMap fun (i : Nat) => M[i]?).flatMap g
theorem sel_snoc {M : List Kd} {g : Kd → List Str} {l : List Nat} {i : Nat} {k : Kd} (h : M[i]? = some k) : sel M g (l ++ [i]) = sel M g l ++ g k := by
  simp [sel, List.filterMap_append, h]
theorem sel_take {M : List Kd} {g : Kd → List Str} (l : List Nat) (n : Nat) : (sel M g (l.take n)).length ≤ (sel M g l).length := by
  conv => rhs; rw [← List.take_append_drop n l]
  simp only [sel, List.filterMap_append, List.flatMap_append, List.length_append]
  omega
/-- the kinds of the elder o, below i -/
def hs (M : List Kd) (i : Nat) (o : Option Nat) : List Nat := (List.range i).filter fun (j : Nat) => decide ((M[j]?).map (·.elder) = some o)
theorem hs_succ {M : List Kd} {i : Nat} {k : Kd} (h : M[i]? = some k) (o : Option Nat) : hs M (i + 1) o = if k.elder = o then hs M i o ++ [i] else hs M i o := by
  unfold hs
  rw [List.range_succ, List.filter_append]
  by_cases e : k.elder = o
  · rw [if_pos e]; simp [h, e]
  · rw [if_neg e]; simp [h, e]
def up (o : Option Nat) : Option Int := o.map fun n => ((n : Nat) : Int)
theorem up_inj : ∀ {a b : Option Nat}, up a = up b → a = b
  | none, none, _ => rfl
  | some _, some _, h => by injection h with h; rw [Int.ofNat.inj h]
  | none, some _, h => nomatch h
  | some _, none, h => nomatch h
/-- the families at D -/
structure Fam (P : Program) (w : World) (M : List Kd) (H H' : Hp) (D : Addr) (φ : Option Int → Option Addr) (n i : Nat) : Prop where
  at_ : H' D = some (LeafD P w D φ n)
  nD : H D = none
  few : n ≤ i
  sm : Same H H'
  no : ∀ o : Option Nat, φ (up o) = none → hs M i o = []
  yes : ∀ (o : Option Nat) (q : Addr), φ (up o) = some q → H' q = some (.lst ((hs M i o).map nI)) ∧ H q = none
  inj : ∀ (o o' : Option Nat) (q : Addr), φ (up o) = some q → φ (up o') = some q → o = o'
def spKNs' : Nat := 0
def spHB (P : Program) (w : World) (K : PySem.W.Frag) (CS CK : Addr) : Sp := fun vs H Q _ => ∃ (A : Hp) (s : Addr) (M : List Kd), vs = [.ref s] ∧ Sto K CS CK A s M ∧ Same A H ∧
  ∀ D φ n H1 H', Same H H1 → Fam P w M H1 H' D φ n M.length → Q (.ref D) H'
def spHN (K : PySem.W.Frag) (CS CK : Addr) : Sp := fun vs H Q _ => ∃ (A : Hp) (s : Addr) (M : List Kd) (n : Nat), vs = [.ref s, nI n] ∧ Sto K CS CK A s M ∧ Same A H ∧
  ∀ p H', Same H H' → H' p = some (.lst ((hs M M.length (some n)).map nI)) → Q (.ref p) H'
def spLS (K : PySem.W.Frag) (CS CK : Addr) (g : Kd → List Str) : Sp := fun vs H Q _ => ∃ (A : Hp) (s : Addr) (M : List Kd) (o : Option Nat) (l : List Nat), vs = [.ref s, oN o] ∧ Sto K CS CK A s M ∧ Same A H ∧ IsLine M o l ∧ l.length ≤ 1000 ∧ (sel M g l.reverse).length ≤ 100000 ∧
  ∀ p H', Same H H' → H p = none → H' p = some (.lst ((sel M g l.reverse).map V.str)) → Q (.ref p) H'
theorem HBid : ((Str.ofString "heirs_by_elder") != ("super" : Str)) = true := by decide
theorem sorted_eq : ∀ {l m : List Int}, l.Perm m → l.Pairwise (· ≤ ·) → m.Pairwise (· ≤ ·) → l = m
  | [], m, p, _, _ => by rw [List.Perm.eq_nil p.symm]
  | x :: l, [], p, _, _ => by have := p.length_eq; simp at this
  | x :: l, y :: m, p, hl, hm => by
    have e : x = y := by
      have hx : x ∈ y :: m := p.subset List.mem_cons_self
      have hy : y ∈ x :: l := p.symm.subset List.mem_cons_self
      have a1 := List.pairwise_cons.mp hl
      have a2 := List.pairwise_cons.mp hm
      rcases List.mem_cons.mp hx with h | h
      · exact h
      · rcases List.mem_cons.mp hy with h' | h'
        · exact h'.symm
        · exact Int.le_antisymm (a1.1 y h') (a2.1 x h)
    subst e
    rw [sorted_eq (List.Perm.cons_inv p) (List.pairwise_cons.mp hl).2 (List.pairwise_cons.mp hm).2]
def rI (n : Nat) : List Int := (List.range n).map fun (i : Nat) => ((i : Nat) : Int)
theorem rI_sorted (n : Nat) : (rI n).Pairwise (· ≤ ·) := by
  unfold rI
  rw [List.pairwise_map]
  exact (List.pairwise_lt_range (n := n)).imp fun h => by omega
theorem rI_V (n : Nat) : (rI n).map V.int = (List.range n).map nI := by unfold rI; rw [List.map_map]; rfl
theorem ik_rI (n : Nat) : ik n = (rI n).map Sum.inl := by unfold rI ik; rw [List.map_map]; rfl
theorem pe_fldK {X : Cx} {K : PySem.W.Frag} {e : Expr} {ta : TE} {f : Str} {pos : Pos} (hK : X.K = K) (ha : PE X e ta) (hb : attributeBase e f X.env (eval e X.env) = eval e X.env) : PE X (.Attribute e f pos) (tFld K ta f) := hK ▸ pe_fld ha hb
section
variable {P : Program} {w : World} {K : PySem.W.Frag} {mg : Str → Option Value} {base : Heap} {f fL fHB : Addr} {fd dL dHB : FuncData} {CH CS CK CN : Addr}
theorem ok_kns (F : Fun K "kind_names" "kind_names" sKNs f fd) (T : Tx K mg CH CS CK) : FnOk P w K mg base CX0 1 f fd ["store", "numbers"] (spKNs K CS CK) := by
  refine F.ok scKNs (fun vs H Q E h => ?_) (fun cdv A0 outer s0 H vs Q E hr h => ?_)
  · obtain ⟨A, s, l, M, ns, rfl, _⟩ := h
    rfl
  obtain ⟨A, s, l, M, ns, rfl, ⟨nt, a, ch, ks, S⟩, sm, hl, hlt, h1000, q⟩ := h
  have hu := hu_of hr
  have B := T.B
  refine ⟨_, (pss_one (ps_ret (pe_callTy call_tuple_of rfl B.tuple bt_tuple (pa_cons (pe_lc (own := [("number", 2)]) (g := (gName 2)) (by rfl) scKNs.nd (pi_list (pv 1)) (blkOk_by (own := [("number", 2)]) (N := ["store", "numbers", "number"]) (sc := defScope sKNs) (by decide +kernel)) (fun _ _ _ _ _ => (pg_name (i := 2) scKNs.nd rfl (Or.inl rfl))) (fun _ _ _ _ _ => pts_nil) (fun _ _ _ _ _ => (pe_fldK (K := K) rfl (pe_dget hu (pe_fldK (K := K) rfl (pv 0) rfl) (pv 2) (fun _ _ => rfl)) rfl))) pa_nil)))), ?_⟩
  refine ⟨_, rfl, l, rfl, ⟨_, SqL.of hl⟩, fun D nD => ?_⟩
  refine lc_list (xs := ns.map nI) (fun i H' => Same H (upd H' D (.lst [])) ∧ H' D = some (.lst (((ns.take i).filterMap fun (i : Nat) => M[i]?).map fun k => V.str k.name))) ⟨by rw [upd_upd]; exact same_new nD _, upd_same⟩ (fun i H' _ h => ?_) ?_ ?_
  · have := h.1 _ _ hl
    rw [upd_ne (ne_of_none hl nD)] at this
    exact SqL.of this
  · rintro i x H1 hx ⟨s1, hD⟩
    rw [List.getElem?_map] at hx
    obtain ⟨j, hj, rfl⟩ := Option.map_eq_some_iff.mp hx
    obtain ⟨b, k, hb, hk, ⟨dk, oa, ga, ya, kvs, hK, _⟩, hv⟩ := S.row (hlt j (List.mem_of_getElem? hj))
    have up1 : Same H H1 := fun b o e => by
      have := s1 b o e
      rw [upd_ne (ne_of_none e nD)] at this
      exact this
    have up2 := sm.trans up1
    refine ⟨rfl, tyes (iteT ?_)⟩
    refine ⟨_, rfl, s, CS, a.ds, _, _, rfl, up2 _ _ S.st, T.cS, T.aS _ (by decide +kernel), rfl, _, rfl, a.kr, _, rfl, dg (k := .inl (j : Int)) (up2 _ _ S.kr) hv, b, CK, dk, _, _, rfl, up2 _ _ hK, T.cK, T.aK _ (by decide +kernel), rfl, _, hD, ?_, ?_, ?_⟩
    · rw [List.length_map]
      exact smallM (Nat.le_trans (List.length_filterMap_le _ _) (Nat.le_trans (List.length_take_le' _ _) (by omega)))
    · rw [upd_upd]; exact s1
    · rw [upd_same, List.take_add_one, hj, List.filterMap_append]
      simp [hk]
  · rintro H1 ⟨s1, hD⟩
    have up1 : Same H H1 := fun b o e => by
      have := s1 b o e
      rw [upd_ne (ne_of_none e nD)] at this
      exact this
    rw [List.take_of_length_le (by rw [List.length_map]; exact Nat.le_refl _)] at hD
    exact ⟨D, _, rfl, .inl ⟨SqL.of hD, fun p np => q p _ (up1.trans (same_new np _)) upd_same⟩⟩
theorem ok_hb (F : Fun K "heirs_by_elder" "heirs_by_elder" sHB f fd) (T : Tx K mg CH CS CK) : FnOk P w K mg base CX0 1 f fd ["store"] (spHB P w K CS CK) := by
  refine F.ok scHB (fun vs H Q E h => ?_) (fun cdv A0 outer s0 H vs Q E hr h => ?_)
  · obtain ⟨A, s, M, rfl, _⟩ := h
    rfl
  obtain ⟨A, s, M, rfl, ⟨nt, a, ch, ks, S⟩, sm, q⟩ := h
  have hu := hu_of hr
  have B := T.B
  refine ⟨_, (pss_cons (ps_set (i := 1) scHB.nd rfl (.inl rfl) pe_dnewL) (pss_cons (ps_for PassesOwn.never rfl (pi_list (pe_callB (call_sortedDI rfl) rfl B.sorted bt_sorted (pa_cons (pe_fld (pv 0) rfl) pa_nil))) (pg_name (i := 2) scHB.nd rfl (.inl rfl)) (pss_one (ps_expr (pe_bm PySem.F.plainAttrs_list PySem.F.slot_list_append PySem.F.type_list_append mt_append (pe_dsetdL (pv 1) (pe_fld (pe_dget hu (pe_fld (pv 0) rfl) (pv 2) (fun _ _ => rfl)) rfl) (pe_lst pa_nil) ⟨rfl, rfl, rfl, rfl⟩) (pa_cons (pv 2) pa_nil))))) (pss_one (ps_ret (pv 1))))), ?_⟩
  refine fun D nD => ⟨_, rfl, s, CS, a.ds, _, _, rfl, (same_new nD _) _ _ (sm _ _ S.st), T.cS, T.aS _ (by decide +kernel), rfl, a.kr, _, rI M.length, rfl, .inl ((same_new nD _) _ _ (sm _ _ S.kr)), ?_, ?_, fun ys p hp hsrt np => ?_⟩
  · rw [zip_fst (by rw [ik_len, List.length_map, S.len]), ik_rI]
  · have := S.wf.few
    unfold rI; rw [List.length_map, List.length_range]; omega
  have ey := sorted_eq hp hsrt (rI_sorted _)
  subst ey
  rw [rI_V]
  have np' : H p = none := by
    rw [upd_ne (fun z => by rw [z, upd_same] at np; cases np)] at np; exact np
  have nDp : D ≠ p := fun z => by rw [← z, upd_same] at np; cases np
  -- the ground: H with the sorted list
  have smP := same_new np' (.lst ((List.range M.length).map nI))
  have eG : upd (upd H D (LeafD P w D (fun _ => none) 0)) p (.lst ((List.range M.length).map nI)) = upd (upd H p (.lst ((List.range M.length).map nI))) D (LeafD P w D (fun _ => none) 0) := by
    funext b
    unfold upd
    by_cases h1 : b = p
    · subst h1; rw [if_pos rfl, if_neg nDp.symm, if_pos rfl]
    · rw [if_neg h1]
      by_cases h2 : b = D
      · rw [if_pos h2, if_pos h2]
      · rw [if_neg h2, if_neg h2, if_neg h1]
  show ∃ a, _
  refine ⟨p, rfl, ⟨_, SqL.of upd_same⟩, ?_⟩
  have nD1 : (upd H p (.lst ((List.range M.length).map nI))) D = none := by rw [upd_ne nDp]; exact nD
  have hp1 : (upd H p (.lst ((List.range M.length).map nI))) p = some (.lst ((List.range M.length).map nI)) := upd_same
  have st : Fam P w M (upd H p (.lst ((List.range M.length).map nI))) (upd (upd H D (LeafD P w D (fun _ => none) 0)) p (.lst ((List.range M.length).map nI))) D (fun _ => none) 0 0 := ⟨by rw [upd_ne nDp]; exact upd_same, nD1, Nat.le_refl _, by rw [eG]; exact same_new nD1 _, fun o _ => rfl, fun o q h => (nomatch h), fun o o' q h => (nomatch h)⟩
  generalize upd H p (.lst ((List.range M.length).map nI)) = H1 at smP nD1 hp1 st
  refine for_list (xs := (List.range M.length).map nI) (fun i σ H' => ∃ φ n y, σ = [some (.ref s), some (.ref D), y] ∧ Fam P w M H1 H' D φ n i) ⟨_, _, _, rfl, st⟩ (fun i σ H' _ ⟨φ, n, y, e, Fm⟩ => SqL.of (Fm.sm _ _ hp1)) ?_ ?_
  · rintro i x σ H' hx ⟨φ, n, y, rfl, Fm⟩
    rw [List.getElem?_map] at hx
    obtain ⟨j, hj, rfl⟩ := Option.map_eq_some_iff.mp hx
    have hi : i < M.length := by
      have := (List.getElem?_eq_some_iff.mp hj).1
      rwa [List.length_range] at this
    rw [List.getElem?_range hi] at hj
    cases hj
    obtain ⟨b, k, hb, hk, ⟨dk, oa, ga, ya, kvs, hK, _⟩, hv⟩ := S.row hi
    have u2 : Same A H' := (sm.trans smP).trans Fm.sm
    have few := S.wf.few
    refine ⟨_, rfl, D, φ, n, rfl, Fm.at_, _, rfl, s, CS, a.ds, _, _, rfl, u2 _ _ S.st, T.cS, T.aS _ (by decide +kernel), rfl, _, rfl, a.kr, _, rfl, dg (k := .inl (i : Int)) (u2 _ _ S.kr) hv, b, CK, dk, _, _, rfl, u2 _ _ hK, T.cK, T.aK _ (by decide +kernel), rfl, (by show 0 ≤ sizeLine; decide), fun q nq => ?_⟩
    have nqD : D ≠ q := fun z => by rw [← z, Fm.at_] at nq; cases nq
    have sq := same_new nq (.lst [])
    have nq1 : H1 q = none := Fm.sm.free nq
    refine ⟨φ, n, up k.elder, q, by rw [upd_ne nqD]; exact Fm.at_, rfl, rfl, by have := Fm.few; omega, fun b hb' => ?_, fun hn => ?_⟩
    · -- a further heir
      obtain ⟨y1, y2⟩ := Fm.yes k.elder b hb'
      have hlb : ((hs M i k.elder).map nI).length < sizeLine := by
        rw [List.length_map]
        have h1 := List.length_filter_le (fun (j : Nat) => decide ((M[j]?).map (·.elder) = some k.elder)) (List.range i)
        rw [List.length_range] at h1
        exact smallM (by unfold hs; omega)
      refine ⟨.inl ⟨rfl, _, SqL.of (sq _ _ y1)⟩, _, rfl, b, _, _, rfl, rfl, sq _ _ y1, hlb, φ, n, _, rfl, ?_⟩
      have hbq : b ≠ q := fun z => by rw [← z, y1] at nq; cases nq
      have hbD : D ≠ b := fun z => by rw [← z, Fm.at_] at y1; cases y1
      refine ⟨by rw [upd_ne hbD, upd_ne nqD]; exact Fm.at_, Fm.nD, Nat.le_succ_of_le Fm.few, ?_, fun o ho => ?_, fun o q' ho => ?_, Fm.inj⟩
      · exact fun c u e => by rw [upd_ne (ne_of_none e y2)]; exact sq _ _ (Fm.sm _ _ e)
      · rw [hs_succ hk, if_neg (fun e => by rw [e, ho] at hb'; cases hb')]; exact Fm.no o ho
      · obtain ⟨z1, z2⟩ := Fm.yes o q' ho
        refine ⟨?_, z2⟩
        by_cases e : k.elder = o
        · subst e
          have : q' = b := by rw [hb'] at ho; exact (Option.some.inj ho).symm
          subst this
          rw [upd_same, hs_succ hk, if_pos rfl, List.map_append]; rfl
        · have : q' ≠ b := fun z => e (Fm.inj _ _ b hb' (z ▸ ho))
          rw [upd_ne this, hs_succ hk, if_neg e]
          exact sq _ _ z1
    · -- the first heir
      have e0 := Fm.no k.elder hn
      have hq2 : (upd (upd H' q (.lst [])) D (LeafD P w D (fun j => if j = up k.elder then some q else φ j) (n + 1))) q = some (.lst []) := by rw [upd_ne nqD.symm, upd_same]
      refine ⟨.inl ⟨rfl, _, SqL.of hq2⟩, _, rfl, q, _, _, rfl, rfl, hq2, (by show 0 < sizeLine; decide), (fun j => if j = up k.elder then some q else φ j), n + 1, _, rfl, ?_⟩
      refine ⟨by rw [upd_ne nqD, upd_same]; rfl, Fm.nD, Nat.succ_le_succ Fm.few, ?_, fun o ho => ?_, fun o q' ho => ?_, fun o o' q' h1 h2 => ?_⟩
      · exact fun c u e => by rw [upd_ne (ne_of_none e nq1), upd_ne (ne_of_none e Fm.nD)]; exact sq _ _ (Fm.sm _ _ e)
      · by_cases e : up o = up k.elder
        · simp only [e, if_true] at ho; cases ho
        · simp only [e, if_false] at ho
          rw [hs_succ hk, if_neg (fun z => e (by rw [z]))]; exact Fm.no o ho
      · by_cases e : up o = up k.elder
        · simp only [e, if_true] at ho
          cases ho
          cases up_inj e
          refine ⟨?_, nq1⟩
          rw [upd_same, hs_succ hk, if_pos rfl, e0]; rfl
        · simp only [e, if_false] at ho
          obtain ⟨z1, z2⟩ := Fm.yes o q' ho
          have n1 : q' ≠ q := fun z => by rw [z, nq] at z1; cases z1
          have n2 : q' ≠ D := fun z => by rw [z, Fm.at_] at z1; cases z1
          refine ⟨?_, z2⟩
          rw [upd_ne n1, upd_ne n2, upd_ne n1, hs_succ hk, if_neg (fun z => e (by rw [z]))]
          exact z1
      · have key : ∀ o'' : Option Nat, (if up o'' = up k.elder then some q else φ (up o'')) = some q' → (up o'' = up k.elder ∧ q' = q) ∨ (up o'' ≠ up k.elder ∧ φ (up o'') = some q' ∧ q' ≠ q) := fun o'' h => by
          by_cases e : up o'' = up k.elder
          · rw [if_pos e] at h; exact .inl ⟨e, (Option.some.inj h).symm⟩
          · rw [if_neg e] at h
            exact .inr ⟨e, h, fun z => by have := (Fm.yes o'' q' h).1; rw [z, nq] at this; cases this⟩
        rcases key o h1 with ⟨a1, a2⟩ | ⟨a1, a2, a3⟩ <;> rcases key o' h2 with ⟨b1, b2⟩ | ⟨b1, b2, b3⟩
        · exact up_inj (a1.trans b1.symm)
        · exact absurd a2 b3
        · exact absurd b2 a3
        · exact Fm.inj o o' q' a2 b2
  · rintro σ H' ⟨φ, n, y, rfl, Fm⟩
    rw [List.length_map, List.length_range] at Fm
    exact ⟨_, rfl, q D φ n H1 H' smP Fm⟩
theorem ok_hn (F : Fun K "heir_numbers" "heir_numbers" sHN f fd) (T : Tx K mg CH CS CK) (G : FnOk P w K mg base CX0 1 fHB dHB ["store"] (spHB P w K CS CK)) (bG : Binds K dHB ["store"] []) (kG : PySem.W.keepIn K (.ref fHB) = true) (mG : mg "heirs_by_elder" = some (.ref fHB)) :
    FnOk P w K mg base CX0 2 f fd ["store", "number"] (spHN K CS CK) := by
  refine F.ok scHN (fun vs H Q E h => ?_) (fun cdv A0 outer s0 H vs Q E hr h => ?_)
  · obtain ⟨A, s, M, n, rfl, _⟩ := h
    rfl
  obtain ⟨A, s, M, n, rfl, S, sm, q⟩ := h
  have hu := hu_of hr
  refine ⟨_, (pss_one (ps_ret (pe_dgetL (pe_call G hr rfl mG kG bG .nil pass0 (pa_cons (pv 0) pa_nil)) (pv 1) (pe_lst pa_nil) ⟨rfl, rfl, rfl, rfl⟩))), ?_⟩
  refine ⟨_, rfl, A, s, M, rfl, S, sm, fun D φ m H1 H' sH Fm => ⟨D, φ, m, rfl, Fm.at_, _, rfl, (by show 0 ≤ sizeLine; decide), fun p np => ⟨φ, m, up (some n), ?_, rfl, ?_⟩⟩⟩
  · rw [upd_ne (fun z => by rw [← z, Fm.at_] at np; cases np)]; exact Fm.at_
  · cases hφ : φ (up (some n)) with
    | none => exact q p _ ((sH.trans Fm.sm).trans (same_new np _)) (by rw [upd_same, Fm.no _ hφ]; rfl)
    | some b => exact q b _ ((sH.trans Fm.sm).trans (same_new np _)) ((same_new np _) _ _ (Fm.yes _ b hφ).1)
theorem ok_ls {g : Kd → List Str} {nm : Str} {st : Stmt} (F : Fun K nm nm st f fd) (sc : FnScope ["store", "number", "fields", "kind"] ["store", "number"] (defScope st)) (T : Tx K mg CH CS CK) (G : FnOk P w K mg base CX0 1 fL dL ["store", "number"] (spLN K CS CK))
    {att : Str} (hat : NoAttr K CK att) (hg : ∀ A b k, KdAt K CK A b k → ∃ dk fs o, A b = some (.ins CK dk fs) ∧ fs.lookup att = some (.ref o) ∧ SqT K A o ((g k).map V.str))
    (hb : ∀ (cdv : Value) (A0 : Around) (outer : List Env) (s0 : Shared) (H : Hp) (E : XK), Room 1 (A0.deeper (envOfC nm (defScope st) s0.heap.objs.size f cdv)) → PSs (cxOf CX0 P w K mg base ["store", "number", "fields", "kind"] nm (defScope st) f cdv A0 outer s0 H E).nox (defBody st)
      (tSeq (tAsg (tLst tNil) (gName 2)) (tSeq (tFor (iList K (tRevL K (tCall (spLN K CS CK) [] C8.E0 (tCons (tVar 0) (tCons (tVar 1) tNil))))) (gName 3) (tDrop (tBM K "list" (rExtendT K) (tVar 2) (tCons (tFld K (tDGet (tFld K (tVar 0) "kind_rows") (tVar 3)) att) tNil)))) (tRet (tVar 2))))) :
    FnOk P w K mg base CX0 2 f fd ["store", "number"] (spLS K CS CK g) := by
  refine F.ok sc (fun vs H Q E h => ?_) (fun cdv A0 outer s0 H vs Q E hr h => ?_)
  · obtain ⟨A, s, M, o, l, rfl, _⟩ := h
    rfl
  obtain ⟨A, s, M, o, l, rfl, ⟨nt, a, ch, ks, S⟩, sm, hL, hl, hz, q⟩ := h
  refine ⟨_, hb cdv A0 outer s0 H E hr, ?_⟩
  refine ⟨(by show 0 ≤ sizeLine; decide), fun p np => ⟨_, rfl, _, rfl, A, s, M, o, l, rfl, ⟨nt, a, ch, ks, S⟩, sm.trans (same_new np _), hL, hl, fun b H1 s1 hb1 => ⟨b, _, rfl, SqL.of hb1, fun c nc => ?_⟩⟩⟩
  have s2 : Same H (upd H1 c (.lst (l.map nI).reverse)) := ((same_new np (.lst [])).trans s1).trans (same_new nc _)
  have hp2 : (upd H1 c (.lst (l.map nI).reverse)) p = some (.lst []) := (same_new nc _) _ _ (s1 _ _ upd_same)
  have hc2 : (upd H1 c (.lst (l.map nI).reverse)) c = some (.lst (l.map nI).reverse) := upd_same
  have npc : p ≠ c := fun z => by rw [← z, s1 _ _ upd_same] at nc; cases nc
  refine ⟨c, rfl, ⟨_, SqL.of hc2⟩, ?_⟩
  generalize upd H1 c (.lst (l.map nI).reverse) = H2 at s2 hp2 hc2 ⊢
  rw [← List.map_reverse] at hc2
  refine for_list (xs := l.reverse.map nI) (fun i σ H' => ∃ y, σ = [some (.ref s), some (oN o), some (.ref p), y] ∧ H' = upd H2 p (.lst ((sel M g (l.reverse.take i)).map V.str))) ⟨_, rfl, ?_⟩ (fun i σ H' _ ⟨y, _, e⟩ => ?_) ?_ ?_
  · funext b
    by_cases hbp : b = p
    · subst hbp; rw [upd_same, hp2]; rfl
    · rw [upd_ne hbp]
  · subst e
    exact SqL.of (by rw [upd_ne npc.symm]; exact hc2)
  · rintro i x σ H' hx ⟨y, rfl, rfl⟩
    rw [List.getElem?_map] at hx
    obtain ⟨j, hj, rfl⟩ := Option.map_eq_some_iff.mp hx
    have hjl : j < M.length := isLine_lt hL j (List.mem_reverse.mp (List.mem_of_getElem? hj))
    obtain ⟨b, k, hb', hk, hK, hv⟩ := S.row hjl
    have nA : A p = none := by
      cases e : A p with
      | none => rfl
      | some u => rw [sm _ _ e] at np; cases np
    have u2 : Same A (upd H2 p (.lst ((sel M g (l.reverse.take i)).map V.str))) := fun c' u e => by rw [upd_ne (ne_of_none e nA)]; exact s2 _ _ (sm _ _ e)
    obtain ⟨dk, fs, oa, h1, h2, h3⟩ := hg _ b k (hK.same u2)
    have e2 : sel M g (l.reverse.take (i + 1)) = sel M g (l.reverse.take i) ++ g k := by rw [List.take_add_one, hj]; exact sel_snoc hk
    have hlen : ((sel M g (l.reverse.take i)).map V.str).length + ((g k).map V.str).length ≤ sizeLine := by
      have := sel_take (M := M) (g := g) l.reverse (i + 1)
      rw [e2, List.length_append] at this
      rw [List.length_map, List.length_map]
      exact Nat.le_of_lt (smallM (by omega))
    refine ⟨_, rfl, .inl ⟨rfl, _, SqL.of upd_same⟩, _, rfl, s, CS, a.ds, _, _, rfl, u2 _ _ S.st, T.cS, T.aS _ (by decide +kernel), rfl, _, rfl, a.kr, _, rfl, dg (k := .inl (j : Int)) (u2 _ _ S.kr) hv, b, CK, dk, fs, _, rfl, h1, T.cK, hat, h2, p, oa, _, _, rfl, rfl, upd_same, h3, hlen, _, rfl, ?_⟩
    rw [upd_upd, e2, List.map_append]
  · rintro σ H' ⟨y, rfl, rfl⟩
    rw [List.length_map, List.take_of_length_le (by simp)]
    exact ⟨_, rfl, q p _ (fun b u e => by rw [upd_ne (ne_of_none e np)]; exact s2 _ _ e) np upd_same⟩
theorem ok_lf (F : Fun K "line_fields" "line_fields" sLF f fd) (T : Tx K mg CH CS CK) (G : FnOk P w K mg base CX0 1 fL dL ["store", "number"] (spLN K CS CK)) (bG : Binds K dL ["store", "number"] []) (kG : PySem.W.keepIn K (.ref fL) = true) (mG : mg "line_numbers" = some (.ref fL)) :
    FnOk P w K mg base CX0 2 f fd ["store", "number"] (spLS K CS CK (·.own)) := by
  refine ok_ls F scLF T G (att := "own") (T.aK _ (by decide +kernel)) (fun A b k ⟨dk, o, g, y, kvs, h1, h2, h3, h4⟩ => ⟨dk, _, o, h1, rfl, h2⟩) fun cdv A0 outer s0 H E hr => ?_
  have hu := hu_of hr
  exact (pss_cons (ps_set (i := 2) scLF.nd rfl (.inl rfl) (pe_lst pa_nil)) (pss_cons (ps_for PassesOwn.never rfl (pi_list (pe_revL (pe_call G hr rfl mG kG bG .nil pass0 (pa_cons (pv 0) (pa_cons (pv 1) pa_nil))))) (pg_name (i := 3) scLF.nd rfl (.inl rfl)) (pss_one (ps_expr (pe_bm PySem.F.plainAttrs_list PySem.F.slot_list_extend PySem.F.type_list_extend mt_extendT (pv 2) (pa_cons (pe_fld (pe_dget hu (pe_fld (pv 0) rfl) (pv 3) (fun _ _ => rfl)) rfl) pa_nil))))) (pss_one (ps_ret (pv 2)))))
theorem ok_lw (F : Fun K "line_weak" "line_weak" sLW f fd) (T : Tx K mg CH CS CK) (G : FnOk P w K mg base CX0 1 fL dL ["store", "number"] (spLN K CS CK)) (bG : Binds K dL ["store", "number"] []) (kG : PySem.W.keepIn K (.ref fL) = true) (mG : mg "line_numbers" = some (.ref fL)) :
    FnOk P w K mg base CX0 2 f fd ["store", "number"] (spLS K CS CK Kd.weak) := by
  refine ok_ls F scLW T G (att := "weak") (T.aK _ (by decide +kernel)) (fun A b k ⟨dk, o, g, y, kvs, h1, h2, h3, h4⟩ => ⟨dk, _, g, h1, rfl, h3⟩) fun cdv A0 outer s0 H E hr => ?_
  have hu := hu_of hr
  exact (pss_cons (ps_set (i := 2) scLW.nd rfl (.inl rfl) (pe_lst pa_nil)) (pss_cons (ps_for PassesOwn.never rfl (pi_list (pe_revL (pe_call G hr rfl mG kG bG .nil pass0 (pa_cons (pv 0) (pa_cons (pv 1) pa_nil))))) (pg_name (i := 3) scLW.nd rfl (.inl rfl)) (pss_one (ps_expr (pe_bm PySem.F.plainAttrs_list PySem.F.slot_list_extend PySem.F.type_list_extend mt_extendT (pv 2) (pa_cons (pe_fld (pe_dget hu (pe_fld (pv 0) rfl) (pv 3) (fun _ _ => rfl)) rfl) pa_nil))))) (pss_one (ps_ret (pv 2)))))
end
end B1

set_option maxRecDepth 100000
set_option maxHeartbeats 4000000
namespace B1
open PySem PySem.Spec PyProof.Rows L2
abbrev sKI : Stmt := cm 85 0
abbrev sLR : Stmt := top 86
abbrev sSI : Stmt := cm 87 0
abbrev sSW : Stmt := cm 87 1
abbrev sSN : Stmt := cm 87 2
abbrev sST : Stmt := cm 87 3
theorem scKI : FnScope ["self", "name", "elder", "own", "weak", "ways"] ["self", "name", "elder", "own", "weak", "ways"] (defScope sKI) := ⟨rfl, rfl, rfl, by decide +kernel, rfl, by decide +kernel, by decide +kernel⟩
theorem scLR : FnScope ["rows", "key", "row"] ["rows", "key", "row"] (defScope sLR) := ⟨rfl, rfl, rfl, by decide +kernel, rfl, by decide +kernel, by decide +kernel⟩
theorem scSI : FnScope ["self"] ["self"] (defScope sSI) := ⟨rfl, rfl, rfl, by decide +kernel, rfl, by decide +kernel, by decide +kernel⟩
theorem scSW : FnScope ["self", "table", "key", "row", "rows"] ["self", "table", "key", "row"] (defScope sSW) := ⟨rfl, rfl, rfl, by decide +kernel, rfl, by decide +kernel, by decide +kernel⟩
theorem scSN : FnScope ["self", "table", "number"] ["self", "table"] (defScope sSN) := ⟨rfl, rfl, rfl, by decide +kernel, rfl, by decide +kernel, by decide +kernel⟩
theorem scST : FnScope ["self", "changes"] ["self"] (defScope sST) := ⟨rfl, rfl, rfl, by decide +kernel, rfl, by decide +kernel, by decide +kernel⟩
theorem upd_id {H : Hp} {a : Addr} {o : HO} (h : H a = some o) : upd H a o = H := by
  funext b
  by_cases e : b = a
  · subst e; rw [upd_same, h]
  · rw [upd_ne e]
def spKI (CK : Addr) : Sp := fun vs H Q _ => ∃ (x dx : Addr) (v1 v2 v3 v4 v5 : V), vs = [.ref x, v1, v2, v3, v4, v5] ∧ H x = some (.ins CK dx []) ∧ Q .non (upd H x (.ins CK dx [("name", v1), ("elder", v2), ("own", v3), ("weak", v4), ("ways", v5)]))
def spLR : Sp := fun vs H Q _ => ∃ (r : Addr) (k : L2.Key) (v : V) (kvs : List (L2.Key × V)), vs = [.ref r, kV k, v] ∧ v ≠ .non ∧ H r = some (.dK kvs) ∧ kvs.length < sizeLine ∧ Q .non (upd H r (.dK (putK kvs k v)))
def spSW (CS : Addr) : Sp := fun vs H Q _ => ∃ (s ds ch r : Addr) (a : SA) (t : Str) (k : L2.Key) (v : V) (kvs : List (L2.Key × V)) (cs : List (List L2.Key × V)), vs = [.ref s, .str t, kV k, v] ∧ v ≠ .non ∧ H s = some (.ins CS ds (sF a ch)) ∧ H a.tb = some (.dK (tbK.zip (tbV a))) ∧ valV (tbK.zip (tbV a)) (.inr t) = some (.ref r) ∧
  H r = some (.dK kvs) ∧ kvs.length ≤ 1000 ∧ H ch = some (.dT cs) ∧ cs.length ≤ 1000 ∧ ∀ (q : Addr) (cs' : List (List L2.Key × V)), H q = none → cs'.length ≤ cs.length + 1 → Q .non (upd (upd (upd H q (.tup [.str t, kV k])) ch (.dT cs')) r (.dK (putK kvs k v)))
def spSN (CS : Addr) : Sp := fun vs H Q _ => ∃ (s ds ch : Addr) (a : SA) (n : Nat) (cs : List (List L2.Key × V)), vs = [.ref s, .str "kind"] ∧ H s = some (.ins CS ds (sF a ch)) ∧ H a.tb = some (.dK (tbK.zip (tbV a))) ∧ H a.nn = some (.dK (nnK.zip (nnV n))) ∧ H ch = some (.dT cs) ∧ cs.length ≤ 1000 ∧
  ∀ (q : Addr) (cs' : List (List L2.Key × V)), H q = none → cs'.length ≤ cs.length + 1 → Q (nI n) (upd (upd (upd H q (.tup [.str "next", .str "kind"])) ch (.dT cs')) a.nn (.dK (nnK.zip (nnV (n + 1)))))
def spST (CS : Addr) : Sp := fun vs H Q _ => ∃ (s ds ch : Addr) (a : SA), vs = [.ref s] ∧ H s = some (.ins CS ds (sF a ch)) ∧ ∀ c, H c = none → Q (.ref ch) (upd (upd H c (.dT [])) s (.ins CS ds (sF a c)))
theorem tb_kind (a : SA) : valV (tbK.zip (tbV a)) (.inr "kind") = some (.ref a.kr) := by rfl
theorem tb_name (a : SA) : valV (tbK.zip (tbV a)) (.inr "kind name") = some (.ref a.kn) := by rfl
theorem tb_next (a : SA) : valV (tbK.zip (tbV a)) (.inr "next") = some (.ref a.nn) := by rfl
theorem nn_kind (n : Nat) : valV (nnK.zip (nnV n)) (.inr "kind") = some (nI n) := by rfl
theorem nn_put (n : Nat) : putK (nnK.zip (nnV n)) (.inr "kind") (.int ((n : Int) + 1)) = nnK.zip (nnV (n + 1)) := by rfl
theorem sF_put (a : SA) (ch c : Addr) : putF "changes" (.ref c) (sF a ch) = sF a c := by rfl
section
variable {P : Program} {w : World} {K : PySem.W.Frag} {mg : Str → Option Value} {base : Heap} {f fL fW fK : Addr} {fd dL dW dK : FuncData} {CH CS CK CN : Addr}
theorem ok_ki (F : Fun K "__init__" "Kind.__init__" sKI f fd) (T : Tx K mg CH CS CK) : FnOk P w K mg base CX0 1 f fd ["self", "name", "elder", "own", "weak", "ways"] (spKI CK) := by
  refine F.ok scKI (fun vs H Q E h => ?_) (fun cdv A0 outer s0 H vs Q E hr h => ?_)
  · obtain ⟨x, dx, v1, v2, v3, v4, v5, rfl, _⟩ := h
    rfl
  obtain ⟨x, dx, v1, v2, v3, v4, v5, rfl, hx, q⟩ := h
  refine ⟨_, (pss_cons (ps_fld (pv 0) (pv 1) rfl) (pss_cons (ps_fld (pv 0) (pv 2) rfl) (pss_cons (ps_fld (pv 0) (pv 3) rfl) (pss_cons (ps_fld (pv 0) (pv 4) rfl) (pss_one (ps_fld (pv 0) (pv 5) rfl)))))), ?_⟩
  refine ⟨_, rfl, _, rfl, x, CK, dx, _, rfl, hx, T.cK, T.aK _ (by decide +kernel), (by decide), ?_⟩
  refine ⟨_, rfl, _, rfl, x, CK, dx, _, rfl, upd_same, T.cK, T.aK _ (by decide +kernel), (by show 1 < 1000; decide), ?_⟩
  rw [upd_upd]
  refine ⟨_, rfl, _, rfl, x, CK, dx, _, rfl, upd_same, T.cK, T.aK _ (by decide +kernel), (by show 2 < 1000; decide), ?_⟩
  rw [upd_upd]
  refine ⟨_, rfl, _, rfl, x, CK, dx, _, rfl, upd_same, T.cK, T.aK _ (by decide +kernel), (by show 3 < 1000; decide), ?_⟩
  rw [upd_upd]
  refine ⟨_, rfl, _, rfl, x, CK, dx, _, rfl, upd_same, T.cK, T.aK _ (by decide +kernel), (by show 4 < 1000; decide), ?_⟩
  rw [upd_upd]
  exact q
theorem ok_lr (F : Fun K "lay_row" "lay_row" sLR f fd) : FnOk P w K mg base CX0 1 f fd ["rows", "key", "row"] spLR := by
  refine F.ok scLR (fun vs H Q E h => ?_) (fun cdv A0 outer s0 H vs Q E hr h => ?_)
  · obtain ⟨r, k, v, kvs, rfl, _⟩ := h
    rfl
  obtain ⟨r, k, v, kvs, rfl, hv, hr', hl, q⟩ := h
  have hu := hu_of hr
  refine ⟨_, (pss_one (ps_if (pt_cmp (pc_notN (pv 2))) (pss_one (ps_dput hu (pv 0) (pv 1) (pv 2) rfl)) pss_never)), ?_⟩
  refine ⟨_, rfl, _, rfl, ?_⟩
  rw [decide_eq_false hv]
  exact iteT ⟨_, rfl, _, rfl, _, rfl, r, _, rfl, DPut.k hr' hl, q⟩
theorem ok_sw (F : Fun K "write" "Store.write" sSW f fd) (T : Tx K mg CH CS CK) (G : FnOk P w K mg base CX0 1 fL dL ["rows", "key", "row"] spLR) (bG : Binds K dL ["rows", "key", "row"] []) (kG : PySem.W.keepIn K (.ref fL) = true) (mG : mg "lay_row" = some (.ref fL)) :
    FnOk P w K mg base CX0 2 f fd ["self", "table", "key", "row"] (spSW CS) := by
  refine F.ok scSW (fun vs H Q E h => ?_) (fun cdv A0 outer s0 H vs Q E hr h => ?_)
  · obtain ⟨s, ds, ch, r, a, t, k, v, kvs, cs, rfl, _⟩ := h
    rfl
  obtain ⟨s, ds, ch, r, a, t, k, v, kvs, cs, rfl, hv, hs, htb, ht, hr', hl, hch, hcl, q⟩ := h
  have hu := hu_of hr
  refine ⟨_, (pss_cons (ps_set (i := 4) scSW.nd rfl (.inl rfl) (pe_dget hu (pe_fld (pv 0) rfl) (pv 1) (fun _ _ => rfl))) (pss_cons (ps_expr (pe_dsetdT hu (pe_fld (pv 0) rfl) (pe_tup (pa_cons (pv 1) (pa_cons (pv 2) pa_nil))) (pe_dget1 hu (pv 4) (pv 2) ⟨rfl, rfl, rfl, rfl⟩) ⟨rfl, rfl, rfl, rfl⟩)) (pss_one (ps_expr (pe_call G hr rfl mG kG bG .nil pass0 (pa_cons (pv 4) (pa_cons (pv 2) (pa_cons (pv 3) pa_nil)))))))), ?_⟩
  refine ⟨_, rfl, s, CS, ds, _, _, rfl, hs, T.cS, T.aS _ (by decide +kernel), rfl, _, rfl, a.tb, _, rfl, dg (k := .inr t) htb ht, ?_⟩
  refine ⟨_, rfl, s, CS, ds, _, _, rfl, hs, T.cS, T.aS _ (by decide +kernel), rfl, ch, rfl, .inr ⟨cs, .inl hch⟩, _, rfl, _, rfl, (by show 2 ≤ sizeLine; decide), fun p np => ?_⟩
  have sp := same_new np (.tup [.str t, kV k])
  refine ⟨_, rfl, r, rfl, .inl ⟨kvs, .inl (sp _ _ hr')⟩, _, rfl, _, dg (k := k) (sp _ _ hr') rfl, cs, [.inr t, k], p, sp _ _ hch, rfl, upd_same, smallM (by omega), fun v0 hv0 => ?_, fun hn => ?_⟩
  · refine ⟨_, rfl, _, rfl, _, rfl, r, k, v, kvs, rfl, hv, sp _ _ hr', smallM (by omega), ?_⟩
    have := q p cs np (Nat.le_succ _)
    rw [upd_id (H := upd H p (.tup [.str t, kV k])) (sp _ _ hch)] at this
    exact this
  · have ncr : r ≠ ch := ne_of hr' hch (fun z => nomatch z)
    exact ⟨_, rfl, _, rfl, _, rfl, r, k, v, kvs, rfl, hv, by rw [upd_ne ncr]; exact sp _ _ hr', smallM (by omega), q p _ np (length_putK _ _ _)⟩
theorem ok_sn (F : Fun K "new_number" "Store.new_number" sSN f fd) (T : Tx K mg CH CS CK) (mW : Meth K CS "write" fW) (G : FnOk P w K mg base CX0 2 fW dW ["self", "table", "key", "row"] (spSW CS)) (bG : Binds K dW ["self", "table", "key", "row"] []) :
    FnOk P w K mg base CX0 3 f fd ["self", "table"] (spSN CS) := by
  refine F.ok scSN (fun vs H Q E h => ?_) (fun cdv A0 outer s0 H vs Q E hr h => ?_)
  · obtain ⟨s, ds, ch, a, n, cs, rfl, _⟩ := h
    rfl
  obtain ⟨s, ds, ch, a, n, cs, rfl, hs, htb, hnn, hch, hcl, q⟩ := h
  have hu := hu_of hr
  refine ⟨_, (pss_cons (ps_set (i := 2) scSN.nd rfl (.inl rfl) (pe_dget hu (pe_fld (pv 0) rfl) (pv 1) (fun _ _ => rfl))) (pss_cons (ps_expr (pe_meth (pv 0) T.cS mW G hr bG .nil pass0 (pa_cons pe_str (pa_cons (pv 1) (pa_cons (pe_op op_add (pv 2) pe_int) pa_nil))))) (pss_one (ps_ret (pv 2))))), ?_⟩
  refine ⟨_, rfl, s, CS, ds, _, _, rfl, hs, T.cS, T.aS _ (by decide +kernel), rfl, _, rfl, a.nn, _, rfl, dg (k := .inr "kind") hnn (nn_kind n), ?_⟩
  refine ⟨_, rfl, s, ds, _, rfl, hs, by rfl, _, rfl, _, rfl, _, _, rfl, rfl, s, ds, ch, a.nn, a, "next", .inr "kind", _, _, cs, rfl, (fun z => nomatch z), hs, htb, tb_next a, hnn, (by show 3 ≤ 1000; decide), hch, hcl, fun p cs' np hl => ?_⟩
  rw [nn_put]
  exact ⟨_, rfl, q p cs' np hl⟩
theorem ok_st (F : Fun K "take_changes" "Store.take_changes" sST f fd) (T : Tx K mg CH CS CK) : FnOk P w K mg base CX0 1 f fd ["self"] (spST CS) := by
  refine F.ok scST (fun vs H Q E h => ?_) (fun cdv A0 outer s0 H vs Q E hr h => ?_)
  · obtain ⟨s, ds, ch, a, rfl, _⟩ := h
    rfl
  obtain ⟨s, ds, ch, a, rfl, hs, q⟩ := h
  refine ⟨_, (pss_cons (ps_set (i := 1) scST.nd rfl (.inl rfl) (pe_fld (pv 0) rfl)) (pss_cons (ps_fld (pv 0) pe_dnewT rfl) (pss_one (ps_ret (pv 1))))), ?_⟩
  refine ⟨_, rfl, s, CS, ds, _, _, rfl, hs, T.cS, T.aS _ (by decide +kernel), rfl, fun c nc => ⟨_, rfl, s, CS, ds, _, rfl, (same_new nc _) _ _ hs, T.cS, T.aS _ (by decide +kernel), (by show 8 < 1000; decide), ?_⟩⟩
  rw [sF_put]
  exact ⟨_, rfl, q c nc⟩
theorem nd_inj {α : Type} : ∀ {l : List α} {i j : Nat} {x : α}, l.Nodup → l[i]? = some x → l[j]? = some x → i = j
  | [], _, _, _, _, h, _ => by simp at h
  | y :: l, 0, 0, _, _, _, _ => rfl
  | y :: l, 0, j + 1, x, nd, h1, h2 => by
    simp at h1 h2; subst h1
    exact absurd (List.mem_of_getElem? h2) (List.nodup_cons.mp nd).1
  | y :: l, i + 1, 0, x, nd, h1, h2 => by
    simp at h1 h2; subst h2
    exact absurd (List.mem_of_getElem? h1) (List.nodup_cons.mp nd).1
  | y :: l, i + 1, j + 1, x, nd, h1, h2 => by
    rw [nd_inj (List.nodup_cons.mp nd).2 (show l[i]? = some x by simpa using h1) (show l[j]? = some x by simpa using h2)]
theorem List.set_getElem?_self' {α : Type} : ∀ {l : List α} {i : Nat} {x : α}, l[i]? = some x → l.set i x = l
  | [], _, _, h => by simp at h
  | y :: l, 0, x, h => by simp at h; subst h; rfl
  | y :: l, i + 1, x, h => by
    show y :: l.set i x = _
    rw [List.set_getElem?_self' (show l[i]? = some x by simpa using h)]
/-- the part of H at L -/
def only (L : List Addr) (H : Hp) : Hp := fun b => if b ∈ L then H b else none
theorem only_in {L : List Addr} {H : Hp} {b : Addr} (h : b ∈ L) : only L H b = H b := if_pos h
theorem only_sub {L : List Addr} {H : Hp} : Same (only L H) H := fun b o e => by
  unfold only at e
  split at e
  · exact e
  · cases e
theorem only_mem {L : List Addr} {H : Hp} {b : Addr} {o : HO} (e : only L H b = some o) : b ∈ L ∧ H b = some o := by
  unfold only at e
  split at e
  · rename_i h; exact ⟨h, e⟩
  · cases e
/-- what is built from H0, s being there -/
structure Bd (H0 H : Hp) (s : Addr) (l : List (Addr × HO)) : Prop where
  nd : (l.map (·.1)).Nodup
  at_ : ∀ p ∈ l, H p.1 = some p.2
  fresh : ∀ p ∈ l, p.1 = s ∨ H0 p.1 = none
  keep : ∀ b u, H0 b = some u → b ≠ s → H b = some u
theorem Bd.start {H : Hp} {s : Addr} {o : HO} (h : H s = some o) : Bd H H s [(s, o)] := ⟨List.nodup_cons.mpr ⟨by simp, List.nodup_nil⟩, fun p hp => by rw [List.mem_singleton.mp hp]; exact h, fun p hp => by rw [List.mem_singleton.mp hp]; exact .inl rfl, fun b u e _ => e⟩
theorem Bd.none {H : Hp} {s : Addr} : Bd H H s [] := ⟨List.nodup_nil, fun p hp => (nomatch hp), fun p hp => (nomatch hp), fun b u e _ => e⟩
theorem Bd.get {H0 H : Hp} {s : Addr} {l : List (Addr × HO)} (B : Bd H0 H s l) (i : Nat) {a : Addr} {o : HO} (hi : l[i]? = some (a, o) := by rfl) : H a = some o := B.at_ _ (List.mem_of_getElem? hi)
theorem Bd.new {H0 H : Hp} {s p : Addr} {l : List (Addr × HO)} (B : Bd H0 H s l) (n : H p = Option.none) (hs : H0 s ≠ Option.none → H s ≠ Option.none) (o : HO) : Bd H0 (upd H p o) s ((p, o) :: l) := by
  refine ⟨List.nodup_cons.mpr ⟨fun z => ?_, B.nd⟩, fun q hq => ?_, fun q hq => ?_, fun b u e ne => ?_⟩
  · obtain ⟨q, h1, h2⟩ := List.mem_map.mp z
    have := B.at_ q h1
    rw [h2, n] at this; cases this
  · rcases List.mem_cons.mp hq with rfl | hq
    · exact upd_same
    · rw [upd_ne (ne_of_none (B.at_ q hq) n)]; exact B.at_ q hq
  · rcases List.mem_cons.mp hq with rfl | hq
    · by_cases e : p = s
      · exact .inl e
      · right
        cases h : H0 p with
        | none => rfl
        | some u => rw [B.keep p u h e] at n; cases n
    · exact B.fresh q hq
  · rw [upd_ne (ne_of_none (B.keep b u e ne) n)]; exact B.keep b u e ne
theorem Bd.put {H0 H : Hp} {s a : Addr} {o : HO} {l : List (Addr × HO)} (B : Bd H0 H s l) (i : Nat) (o' : HO) (hi : l[i]? = some (a, o) := by rfl) : Bd H0 (upd H a o') s (l.set i (a, o')) := by
  have hl := (List.getElem?_eq_some_iff.mp hi).1
  have em : (l.set i (a, o')).map (·.1) = l.map (·.1) := by
    rw [List.map_set]
    have : (l.map (·.1))[i]? = some a := by rw [List.getElem?_map, hi]; rfl
    exact List.set_getElem?_self' this
  have other : ∀ q ∈ l.set i (a, o'), q = (a, o') ∨ (q ∈ l ∧ q.1 ≠ a) := fun q hq => by
    obtain ⟨j, hj⟩ := List.mem_iff_getElem?.mp hq
    rw [List.getElem?_set] at hj
    split at hj
    · rename_i e
      exact .inl (Option.some.inj hj).symm
    · rename_i e
      refine .inr ⟨List.mem_of_getElem? hj, fun z => e ?_⟩
      have h1 : (l.map (·.1))[i]? = some a := by rw [List.getElem?_map, hi]; rfl
      have h2 : (l.map (·.1))[j]? = some a := by rw [List.getElem?_map, hj, ← z]; rfl
      exact nd_inj B.nd h1 h2
  refine ⟨by rw [em]; exact B.nd, fun q hq => ?_, fun q hq => ?_, fun b u e ne => ?_⟩
  · rcases other q hq with rfl | ⟨h1, h2⟩
    · exact upd_same
    · rw [upd_ne h2]; exact B.at_ q h1
  · rcases other q hq with rfl | ⟨h1, h2⟩
    · exact B.fresh (a, o) (List.mem_of_getElem? hi)
    · exact B.fresh q h1
  · have : b ≠ a := fun z => by
      rcases B.fresh (a, o) (List.mem_of_getElem? hi) with h | h
      · exact ne (z.trans h)
      · rw [z] at e; rw [show H0 a = Option.none from h] at e; cases e
    rw [upd_ne this]; exact B.keep b u e ne
def isTbl : HO → Bool
  | .tbl _ => true
  | _ => false
theorem Bd.part {H0 H : Hp} {s : Addr} {l : List (Addr × HO)} (B : Bd H0 H s l) (i : Nat) {a : Addr} {o : HO} (hi : l[i]? = some (a, o) := by rfl) : only (l.map (·.1)) H a = some o := by
  rw [only_in (List.mem_map.mpr ⟨(a, o), List.mem_of_getElem? hi, rfl⟩)]
  exact B.get i hi
theorem Bd.noT {H0 H : Hp} {s : Addr} {l : List (Addr × HO)} (B : Bd H0 H s l) (h : (l.all fun p => !isTbl p.2) = true) : NoT (only (l.map (·.1)) H) := fun b o e ps z => by
  obtain ⟨h1, h2⟩ := only_mem e
  obtain ⟨p, hp, rfl⟩ := List.mem_map.mp h1
  have e2 := (B.at_ p hp).symm.trans h2
  have := List.all_eq_true.mp h p hp
  rw [Option.some.inj e2, z] at this
  cases this
theorem Bd.dom {H0 H : Hp} {s : Addr} {l : List (Addr × HO)} (B : Bd H0 H s l) (b : Addr) (h : only (l.map (·.1)) H b ≠ Option.none) : b = s ∨ H0 b = Option.none := by
  cases e : only (l.map (·.1)) H b with
  | none => exact absurd e h
  | some o =>
    obtain ⟨p, hp, rfl⟩ := List.mem_map.mp (only_mem e).1
    exact B.fresh p hp
def kd0 : Kd := ⟨"thing", none, [], []⟩
theorem wf0 : Wf [kd0] := by
  refine ⟨⟨kd0, [], rfl, rfl⟩, fun i k h e he => ?_, List.nodup_cons.mpr ⟨by simp, List.nodup_nil⟩, by decide⟩
  cases i with
  | zero => cases h; cases he
  | succ i => simp at h
/-- Store() -/
def spSI (K : PySem.W.Frag) (CS CK : Addr) : Sp := fun vs H Q _ => ∃ s ds : Addr, vs = [.ref s] ∧ H s = some (.ins CS ds []) ∧ ∀ (A' H' : Hp), Sto K CS CK A' s [kd0] → Same A' H' → (∀ b o, H b = some o → b ≠ s → H' b = some o) → (∀ b, A' b ≠ none → b = s ∨ H b = none) → Q .non H'
theorem ok_si (F : Fun K "__init__" "Store.__init__" sSI f fd) (T : Tx K mg CH CS CK) (M : Mk K CK fK) (G : FnOk P w K mg base CX0 1 fK dK ["self", "name", "elder", "own", "weak", "ways"] (spKI CK)) (bG : Binds K dK ["self", "name", "elder", "own", "weak", "ways"] []) :
    FnOk P w K mg base CX0 3 f fd ["self"] (spSI K CS CK) := by
  refine F.ok scSI (fun vs H Q E h => ?_) (fun cdv A0 outer s0 H vs Q E hr h => ?_)
  · obtain ⟨s, ds, rfl, _⟩ := h
    rfl
  obtain ⟨s, ds, rfl, hs, q⟩ := h
  have hu := hu_of hr
  refine ⟨_, (pss_cons (ps_fld (pv 0) (pe_disp (pps_cons pe_int (pe_make M G hr rfl T.mK bG .nil pass0 (pa_cons pe_str (pa_cons pe_non (pa_cons (pe_tup pa_nil) (pa_cons (pe_tup pa_nil) (pa_cons pe_dnewK pa_nil)))))) pps_nil) (by rfl) (by rfl) (fun z => by cases z) (by decide)) rfl) (pss_cons (ps_fld (pv 0) (pe_disp (pps_cons pe_str pe_int pps_nil) (by rfl) (by rfl) (fun z => by cases z) (by decide)) rfl) (pss_cons (ps_fld (pv 0) pe_dnewK rfl) (pss_cons (ps_fld (pv 0) pe_dnewK rfl) (pss_cons (ps_fld (pv 0) pe_dnewK rfl) (pss_cons (ps_fld (pv 0) (pe_disp (pps_cons pe_str pe_int (pps_cons pe_str pe_int (pps_cons pe_str pe_int pps_nil))) (by rfl) (by rfl) (fun z => by cases z) (by decide)) rfl) (pss_cons (ps_fld (pv 0) (pe_disp (pps_cons pe_str (pe_fld (pv 0) rfl) (pps_cons pe_str (pe_fld (pv 0) rfl) (pps_cons pe_str (pe_fld (pv 0) rfl) (pps_cons pe_str (pe_fld (pv 0) rfl) (pps_cons pe_str (pe_fld (pv 0) rfl) (pps_cons pe_str (pe_fld (pv 0) rfl) pps_nil)))))) (by rfl) (by rfl) (fun z => by cases z) (by decide)) rfl) (pss_one (ps_fld (pv 0) pe_dnewT rfl))))))))), ?_⟩
  have hsn : ∀ {H' : Hp} {o : HO}, H' s = some o → (H s ≠ none → H' s ≠ none) := fun {H' o} e _ z => by rw [e] at z; cases z
  have B0 := Bd.start hs
  refine fun kr nkr => ?_
  have B1 := B0.new nkr (hsn (B0.get 0)) (.dK [])
  refine ⟨(by show 0 ≤ sizeLine; decide), fun o no => ?_⟩
  have B2 := B1.new no (hsn (B1.get 1)) (.tup [])
  refine ⟨(by show 0 ≤ sizeLine; decide), fun g ng => ?_⟩
  have B3 := B2.new ng (hsn (B2.get 2)) (.tup [])
  refine fun y ny => ?_
  have B4 := B3.new ny (hsn (B3.get 3)) (.dK [])
  refine fun k0 dk nk ndk nkd => ?_
  have B5 := B4.new ndk (hsn (B4.get 4)) (.own k0)
  have nk' : (upd (upd (upd (upd (upd H kr (.dK [])) o (.tup [])) g (.tup [])) y (.dK [])) dk (.own k0)) k0 = none := by rw [upd_ne (Ne.symm nkd)]; exact nk
  have B6 := B5.new nk' (hsn (B5.get 5)) (.ins CK dk [])
  refine ⟨k0, dk, _, _, _, _, _, rfl, upd_same, rfl, ?_⟩
  have B7 := B6.put 0 (.ins CK dk [("name", .str "thing"), ("elder", .non), ("own", .ref o), ("weak", .ref g), ("ways", .ref y)])
  refine ⟨B7.get 5, [(.inl 0, .ref k0)], rfl, (by show 1 ≤ 15; decide), ?_⟩
  have B8 := B7.put 5 (.dK (mergeK [] [(.inl 0, .ref k0)]))
  refine ⟨_, rfl, s, CS, ds, _, rfl, B8.get 6, T.cS, T.aS _ (by decide +kernel), (by show 0 < 1000; decide), ?_⟩
  have B9 := B8.put 6 (.ins CS ds (putF "kind_rows" (.ref kr) []))
  -- kind_numbers
  refine fun kn nkn => ?_
  have C0 := B9.new nkn (hsn (B9.get 6)) (.dK [])
  refine ⟨C0.get 0, [(.inr "thing", .int 0)], rfl, (by show 1 ≤ 15; decide), ?_⟩
  have C1 := C0.put 0 (.dK (mergeK [] [(.inr "thing", .int 0)]))
  refine ⟨_, rfl, s, CS, ds, _, rfl, C1.get 7, T.cS, T.aS _ (by decide +kernel), (by show 1 < 1000; decide), ?_⟩
  have C2 := C1.put 7 (.ins CS ds (putF "kind_numbers" (.ref kn) (putF "kind_rows" (.ref kr) [])))
  refine fun tr ntr => ?_
  have C3 := C2.new ntr (hsn (C2.get 7)) (.dK [])
  refine ⟨_, rfl, s, CS, ds, _, rfl, C3.get 8, T.cS, T.aS _ (by decide +kernel), (by show 2 < 1000; decide), ?_⟩
  have C4 := C3.put 8 (.ins CS ds (putF "thing_rows" (.ref tr) (putF "kind_numbers" (.ref kn) (putF "kind_rows" (.ref kr) []))))
  refine fun hr' nhr => ?_
  have C5 := C4.new nhr (hsn (C4.get 8)) (.dK [])
  refine ⟨_, rfl, s, CS, ds, _, rfl, C5.get 9, T.cS, T.aS _ (by decide +kernel), (by show 3 < 1000; decide), ?_⟩
  have C6 := C5.put 9 (.ins CS ds (putF "held_rows" (.ref hr') (putF "thing_rows" (.ref tr) (putF "kind_numbers" (.ref kn) (putF "kind_rows" (.ref kr) [])))))
  refine fun rr nrr => ?_
  have C7 := C6.new nrr (hsn (C6.get 9)) (.dK [])
  refine ⟨_, rfl, s, CS, ds, _, rfl, C7.get 10, T.cS, T.aS _ (by decide +kernel), (by show 4 < 1000; decide), ?_⟩
  have C8 := C7.put 10 (.ins CS ds (putF "run_rows" (.ref rr) (putF "held_rows" (.ref hr') (putF "thing_rows" (.ref tr) (putF "kind_numbers" (.ref kn) (putF "kind_rows" (.ref kr) []))))))
  refine fun nn nnn => ?_
  have C9 := C8.new nnn (hsn (C8.get 10)) (.dK [])
  refine ⟨C9.get 0, [(.inr "kind", .int 1), (.inr "thing", .int 0), (.inr "run", .int 0)], rfl, (by show 3 ≤ 15; decide), ?_⟩
  have D0 := C9.put 0 (.dK (mergeK [] [(.inr "kind", .int 1), (.inr "thing", .int 0), (.inr "run", .int 0)]))
  refine ⟨_, rfl, s, CS, ds, _, rfl, D0.get 11, T.cS, T.aS _ (by decide +kernel), (by show 5 < 1000; decide), ?_⟩
  have D1 := D0.put 11 (.ins CS ds (putF "next_numbers" (.ref nn) (putF "run_rows" (.ref rr) (putF "held_rows" (.ref hr') (putF "thing_rows" (.ref tr) (putF "kind_numbers" (.ref kn) (putF "kind_rows" (.ref kr) [])))))))
  refine fun tb ntb => ?_
  have D2 := D1.new ntb (hsn (D1.get 11)) (.dK [])
  refine ⟨_, rfl, s, CS, ds, _, _, rfl, D2.get 12, T.cS, T.aS _ (by decide +kernel), rfl, ?_⟩
  refine ⟨_, rfl, s, CS, ds, _, _, rfl, D2.get 12, T.cS, T.aS _ (by decide +kernel), rfl, ?_⟩
  refine ⟨_, rfl, s, CS, ds, _, _, rfl, D2.get 12, T.cS, T.aS _ (by decide +kernel), rfl, ?_⟩
  refine ⟨_, rfl, s, CS, ds, _, _, rfl, D2.get 12, T.cS, T.aS _ (by decide +kernel), rfl, ?_⟩
  refine ⟨_, rfl, s, CS, ds, _, _, rfl, D2.get 12, T.cS, T.aS _ (by decide +kernel), rfl, ?_⟩
  refine ⟨_, rfl, s, CS, ds, _, _, rfl, D2.get 12, T.cS, T.aS _ (by decide +kernel), rfl, ?_⟩
  refine ⟨D2.get 0, [(.inr "kind", .ref kr), (.inr "kind name", .ref kn), (.inr "thing", .ref tr), (.inr "held", .ref hr'), (.inr "run", .ref rr), (.inr "next", .ref nn)], rfl, (by show 6 ≤ 15; decide), ?_⟩
  have D3 := D2.put 0 (.dK (mergeK [] [(.inr "kind", .ref kr), (.inr "kind name", .ref kn), (.inr "thing", .ref tr), (.inr "held", .ref hr'), (.inr "run", .ref rr), (.inr "next", .ref nn)]))
  refine ⟨_, rfl, s, CS, ds, _, rfl, D3.get 12, T.cS, T.aS _ (by decide +kernel), (by show 6 < 1000; decide), ?_⟩
  have D4 := D3.put 12 (.ins CS ds (putF "tables" (.ref tb) (putF "next_numbers" (.ref nn) (putF "run_rows" (.ref rr) (putF "held_rows" (.ref hr') (putF "thing_rows" (.ref tr) (putF "kind_numbers" (.ref kn) (putF "kind_rows" (.ref kr) []))))))))
  refine fun ch nch => ?_
  have D5 := D4.new nch (hsn (D4.get 12)) (.dT [])
  refine ⟨_, rfl, s, CS, ds, _, rfl, D5.get 13, T.cS, T.aS _ (by decide +kernel), (by show 7 < 1000; decide), ?_⟩
  have D6 := D5.put 13 (.ins CS ds (sF ⟨ds, kr, kn, tr, hr', rr, nn, tb⟩ ch))
  refine q _ _ ⟨D6.noT rfl, ⟨ds, kr, kn, tr, hr', rr, nn, tb⟩, ch, [k0], ⟨D6.part 13, D6.part 12, D6.part 6, D6.part 2, D6.part 1, ⟨[], D6.part 0, by decide⟩, rfl, fun i b k h1 h2 => ?_, wf0⟩⟩ only_sub D6.keep D6.dom
  cases i with
  | zero =>
    cases h1
    cases h2
    exact ⟨dk, o, g, y, [], D6.part 7, SqT.of (D6.part 11), SqT.of (D6.part 10), D6.part 9, rfl⟩
  | succ i => simp at h1
end
end B1

set_option maxRecDepth 100000
set_option maxHeartbeats 4000000
/-! tuples whose own object is known to have no dict: made, joined, asked how often -/
namespace B1
open PySem PySem.Spec PyProof.Rows L2
/-- a tuple without a dict -/
def TupD (H : Hp) (a : Addr) (xs : List V) : Prop := ∃ o : Obj, H a = some (.frz o (.tup xs)) ∧ o.dict = none
theorem TupD.sq {K : PySem.W.Frag} {H : Hp} {a : Addr} {xs : List V} (h : TupD H a xs) : SqT K H a xs := by
  obtain ⟨o, h1, _⟩ := h
  exact .inl (.inr ⟨o, h1⟩)
theorem TupD.same {H H' : Hp} {a : Addr} {xs : List V} (h : TupD H a xs) (e : Same H H') : TupD H' a xs := by
  obtain ⟨o, h1, h2⟩ := h
  exact ⟨o, e _ _ h1, h2⟩
def tTupF (t : TA) : TE := fun σ H Q => t σ H fun xs H1 => xs.length ≤ sizeLine ∧ ∀ p o, H1 p = none → o.dict = none → Q (.ref p) (upd H1 p (.frz o (.tup xs)))
def rCatF (K : PySem.W.Frag) : R2 := fun x y H Q => ∃ a b xs ys, x = .ref a ∧ y = .ref b ∧ SqT K H a xs ∧ SqT K H b ys ∧ xs.length + ys.length ≤ sizeLine ∧
  (xs = [] → Q (.ref b) H) ∧ (xs ≠ [] → ys = [] → Q (.ref a) H) ∧ (xs ≠ [] → ys ≠ [] → ∀ p o, H p = none → o.dict = none → Q (.ref p) (upd H p (.frz o (.tup (xs ++ ys)))))
def rCntT : V → List V → Hp → VK → Prop := fun x xs H Q => ∃ (a : Addr) (ys : List V) (y : V), x = .ref a ∧ xs = [y] ∧ TupD H a ys ∧ flatV y = true ∧ ys.all flatV = true ∧ Q (.int (ys.countP (fun z => eqV z y) : Nat)) H
def tCntT (to : TE) (t : TA) : TE := fun σ H Q => to σ H fun x H1 => (∃ a ys, x = .ref a ∧ TupD H1 a ys) ∧ t σ H1 fun xs H2 => rCntT x xs H2 Q
theorem count_vals {y : V} {uy : Value} : ∀ {ys : List V} {its : List Value}, Vals ys its → ys.all flatV = true → its.countP (eqU y) = ys.countP fun z => eqV z y
  | _, _, .nil, _ => rfl
  | _, _, .cons r t, h => by
    rw [List.all_cons, Bool.and_eq_true] at h
    rw [List.countP_cons, List.countP_cons, count_vals (uy := uy) t h.2, eqU_of r h.1]
section
variable {X : Cx} {es : List Expr} {o e : Expr} {to : TE} {t : TA} {pos apos cpos : Pos}
theorem pe_tupF {x1} (h : PA X es t) : PE X (.Tuple es x1 pos) (tTupF t) := by
  refine ⟨fun pins s σ H Q I hq => ?_⟩
  refine wpAny_Tuple_spliced (thn (h.run pos pins s σ H _ I hq) fun us s1 ⟨xs, H1, I1, r, z, q⟩ => ⟨by rw [← r.length]; exact z, ?_⟩)
  have hf : H1 s1.heap.objs.size = none := I1.hok.fresh (Nat.le_refl _)
  have e : (s1.heap.push { cls := .type "tuple", data := .seq us.toArray }).get? s1.heap.objs.size = some { cls := .type "tuple", data := .seq us.toArray } := Heap.get?_push_size _ rfl
  refine ⟨.ref s1.heap.objs.size, upd H1 s1.heap.objs.size (.frz { cls := .type "tuple", data := .seq us.toArray } (.tup xs)), I1.laid (t' := s1.toks) (fun b u e => Heap.get?_push_of_some _ e) (Nat.le_refl _) ?_, rfl, q _ _ hf rfl⟩
  exact ⟨e, z, us, r, ⟨_, e, rfl, _, rfl⟩⟩
theorem op_catF : OpR X (binaryOp .Add) (rCatF X.K) := by
  intro pins s σ H x y v u Q I rx ry h
  obtain ⟨a, b, xs, ys, rfl, rfl, ha, hb, hz, q0, q1, q2⟩ := h
  cases rx
  cases ry
  obtain ⟨its, r1, p1, _⟩ := I.tuple ha
  obtain ⟨its2, r2, p2, _⟩ := I.tuple hb
  by_cases hx : xs = []
  · subst hx
    cases r1
    exact cat_tup0 p1 p2 ⟨.ref b, H, I, rfl, q0 rfl⟩
  · refine HT.cat_tup p1 p2 (fun z => hx (r1.nil_iff.mp z)) (fun z => ⟨.ref a, H, I, rfl, q1 hx (r2.nil_iff.mp z)⟩) (fun z => ?_) (by rw [← r1.length, ← r2.length]; exact hz)
    obtain ⟨ob, e1, e2, n, e3⟩ := id (IsTup.new s.heap (its ++ its2).toArray)
    refine ⟨.ref s.heap.objs.size, _, I.laid (t' := s.toks) (o := .frz ob (.tup (xs ++ ys))) (fun b ob q => Heap.get?_push_of_some _ q) (Nat.le_refl _) ?_, rfl, q2 hx (fun w => z (r2.nil_iff.mpr w)) _ ob (I.hok.fresh (Nat.le_refl _)) ?_⟩
    · exact ⟨e1, by rw [List.length_append]; exact hz, _, r1.append r2, ⟨ob, e1, e2, n, e3⟩⟩
    · have e : ob = { cls := .type "tuple", data := .seq (its ++ its2).toArray } := Option.some.inj (e1.symm.trans (Heap.get?_push_size _ rfl))
      rw [e]
theorem pe_cntT (ho : PE X o to) (ha : PA X (e :: es) t)
    (hbase : attributeBase o "count" X.env (eval o X.env) = eval o X.env := by rfl)
    (hfew : ((backTo cpos (starEach (e :: es) X.env)).all (fun x => !x.1) && (backToKw cpos (keywordEach [] X.env)).all (fun x => x.1.isSome)
      && decide ((e :: es).length + ([] : List Keyword).length + (if ([] : List Keyword).isEmpty then 0 else 1) < 30)) = true := by rfl)
    (hline : (apos.endLine == cpos.line) = true := by rfl) (hs : starEach (e :: es) X.env = (false, eval e X.env) :: starEach es X.env := by rfl) (hplain : (backTo cpos (starEach es X.env)).any (·.1) = false := by rfl) :
    PE X (.Call (.Attribute o "count" apos) (e :: es) [] cpos) (tCntT to t) := by
  refine ⟨fun pins s σ H Q I h => ?_⟩
  refine wpAny_Call_method_late hbase hfew hline rfl (thn (ho.run pins s σ H _ I h) fun v s1 ⟨x, H1, I1, r1, ⟨a, ys, ex, ob, ha1, hd1⟩, q1⟩ => ?_)
  subst ex
  cases r1
  have ok := I1.hok a _ ha1
  obtain ⟨e1, z1, its1, rr1, ob1, e1', c1, n1, d1⟩ := ok
  have : ob1 = ob := Option.some.inj (e1'.symm.trans e1)
  subst this
  refine ⟨"tuple", "tuple.count", PySem.F.plainAttrs_tuple, PySem.F.slot_tuple_count, PySem.F.type_tuple_count, ⟨_, e1, c1⟩, fun b eb => by cases eb; exact ⟨_, e1, hd1⟩, ?_⟩
  have hA := ha.run cpos pins s1 σ H1 _ I1 q1
  rw [hs] at hA ⊢
  refine Calls.callWith_builtin (by show (false || (backTo cpos (starEach es X.env)).any (·.1)) = false; rw [hplain] <;> rfl) (Calls.evalArgs_plain ?_)
  refine thn hA fun us s2 ⟨vs, H2, I2, r2, a2, zs, y, ea, ev, ⟨ob2, h2, hd2⟩, fy, fys, q⟩ => ?_
  cases ea
  subst ev
  obtain ⟨uy, rfl, ry⟩ := r2.one
  obtain ⟨e2, z2, its, rv, ⟨cls, dd, data, sl⟩, e2', c2, n2, d2⟩ := I2.hok _ _ h2
  simp only at c2 d2
  subst c2 d2
  refine call_meets PySem.F.slot_tuple_count ⟨_, e2', rfl⟩ PySem.F.entry_tuple_count (PySem.F.args_tuple_count_2 _ _) (SeqAt.tuple_countAt a its.toArray n2 dd sl uy (eqU y)) ⟨e2', fun u' hu' => mem_eqAt ry fy rv fys u' (by simpa using hu'), ?_⟩
  refine ⟨.int (zs.countP (fun z => eqV z y) : Nat), H2, I2.tok _, ⟨s2.toks, ?_⟩, q⟩
  show Value.int ((its.toArray.toList.countP (eqU y) : Nat) : Int) s2.toks = _
  rw [← count_vals (uy := uy) rv fys]
end
end B1

set_option maxRecDepth 100000
set_option maxHeartbeats 4000000
namespace B1
open PySem PySem.Spec PyProof.Rows L2
/-! ### rows of texts -/
theorem strs_flat (xs : List Str) : (xs.map V.str).all flatV = true := by
  induction xs with
  | nil => rfl
  | cons x xs ih => rw [List.map_cons, List.all_cons, ih]; rfl
theorem strs_in (x : Str) (xs : List Str) : inV (.str x) (xs.map V.str) = decide (x ∈ xs) := by
  unfold inV
  induction xs with
  | nil => rfl
  | cons y xs ih =>
    rw [List.map_cons, List.any_cons, ih]
    show ((y == x) || decide (x ∈ xs)) = decide (x ∈ y :: xs)
    by_cases h : y = x
    · subst h; simp
    · have : (y == x) = false := by simpa using h
      rw [this, Bool.false_or]
      exact decide_eq_decide.mpr ⟨fun z => List.mem_cons_of_mem _ z, fun z => (List.mem_cons.mp z).resolve_left fun e => h e.symm⟩
theorem strs_count (x : Str) (xs : List Str) : (xs.map V.str).countP (fun z => eqV z (.str x)) = xs.count x := by
  rw [List.countP_map]
  rfl
/-- a part that grows from known places -/
structure Bw (H0 H : Hp) (W : List Addr) (l : List (Addr × HO)) : Prop where
  nd : (l.map (·.1)).Nodup
  at_ : ∀ p ∈ l, H p.1 = some p.2
  fresh : ∀ p ∈ l, p.1 ∈ W ∨ H0 p.1 = none
  keep : ∀ b u, H0 b = some u → b ∉ W → H b = some u
  there : ∀ b u, H0 b = some u → H b ≠ none
theorem Bw.get {H0 H : Hp} {W : List Addr} {l : List (Addr × HO)} (B : Bw H0 H W l) (i : Nat) {a : Addr} {o : HO} (hi : l[i]? = some (a, o) := by rfl) : H a = some o := B.at_ _ (List.mem_of_getElem? hi)
theorem Bw.new {H0 H : Hp} {W : List Addr} {p : Addr} {l : List (Addr × HO)} (B : Bw H0 H W l) (n : H p = none) (o : HO) : Bw H0 (upd H p o) W ((p, o) :: l) := by
  refine ⟨List.nodup_cons.mpr ⟨fun z => ?_, B.nd⟩, fun q hq => ?_, fun q hq => ?_, fun b u e ne => ?_, fun b u e z => ?_⟩
  · obtain ⟨q, h1, h2⟩ := List.mem_map.mp z
    have := B.at_ q h1
    rw [h2, n] at this; cases this
  · rcases List.mem_cons.mp hq with rfl | hq
    · exact upd_same
    · rw [upd_ne (ne_of_none (B.at_ q hq) n)]; exact B.at_ q hq
  · rcases List.mem_cons.mp hq with rfl | hq
    · right
      cases h : H0 p with
      | none => rfl
      | some u => exact absurd n (B.there p u h)
    · exact B.fresh q hq
  · rw [upd_ne (ne_of_none (B.keep b u e ne) n)]; exact B.keep b u e ne
  · by_cases h : b = p
    · rw [h, upd_same] at z; cases z
    · rw [upd_ne h] at z; exact B.there b u e z
theorem Bw.put {H0 H : Hp} {W : List Addr} {a : Addr} {o : HO} {l : List (Addr × HO)} (B : Bw H0 H W l) (i : Nat) (o' : HO) (hi : l[i]? = some (a, o) := by rfl) : Bw H0 (upd H a o') W (l.set i (a, o')) := by
  have em : (l.set i (a, o')).map (·.1) = l.map (·.1) := by
    rw [List.map_set]
    have : (l.map (·.1))[i]? = some a := by rw [List.getElem?_map, hi]; rfl
    exact List.set_getElem?_self' this
  have other : ∀ q ∈ l.set i (a, o'), q = (a, o') ∨ (q ∈ l ∧ q.1 ≠ a) := fun q hq => by
    obtain ⟨j, hj⟩ := List.mem_iff_getElem?.mp hq
    rw [List.getElem?_set] at hj
    split at hj
    · split at hj
      · exact .inl (Option.some.inj hj).symm
      · cases hj
    · rename_i e
      refine .inr ⟨List.mem_of_getElem? hj, fun z => e ?_⟩
      have h1 : (l.map (·.1))[i]? = some a := by rw [List.getElem?_map, hi]; rfl
      have h2 : (l.map (·.1))[j]? = some a := by rw [List.getElem?_map, hj, ← z]; rfl
      exact nd_inj B.nd h1 h2
  refine ⟨by rw [em]; exact B.nd, fun q hq => ?_, fun q hq => ?_, fun b u e ne => ?_, fun b u e z => ?_⟩
  · rcases other q hq with rfl | ⟨h1, h2⟩
    · exact upd_same
    · rw [upd_ne h2]; exact B.at_ q h1
  · rcases other q hq with rfl | ⟨h1, h2⟩
    · exact B.fresh (a, o) (List.mem_of_getElem? hi)
    · exact B.fresh q h1
  · have : b ≠ a := fun z => by
      rcases B.fresh (a, o) (List.mem_of_getElem? hi) with h | h
      · exact ne (z ▸ h)
      · rw [z] at e; rw [show H0 a = none from h] at e; cases e
    rw [upd_ne this]; exact B.keep b u e ne
  · by_cases h : b = a
    · rw [h, upd_same] at z; cases z
    · rw [upd_ne h] at z; exact B.there b u e z
theorem Fp.bulk {A H H' : Hp} (s : Same A H) (W N : List Addr) (hW : ∀ a ∈ W, ∃ o, A a = some o ∧ ¬ im o) (hN : ∀ a ∈ N, H a = none) (k : ∀ b o, H b = some o → b ∉ W → H' b = some o) : Fp A H (fun b => if b ∈ W ++ N then H' b else A b) H' := by
  have notW : ∀ b o, H b = some o → (A b = none ∨ im o) → b ∉ W := fun b o e c z => by
    obtain ⟨u, h1, h2⟩ := hW b z
    have := (s _ _ h1).symm.trans e
    cases this
    rcases c with c | c
    · rw [h1] at c; cases c
    · exact h2 c
  refine ⟨fun b o e => ?_, fun b o e c => k b o e (notW b o e c), fun b o n e i => ?_⟩
  · by_cases h : b ∈ W ++ N
    · simp only [h, if_true] at e; exact e
    · simp only [h, if_false] at e
      exact k b o (s _ _ e) fun z => h (List.mem_append_left _ z)
  · have : b ∉ W ++ N := fun z => by
      rcases List.mem_append.mp z with z | z
      · exact notW b o e (.inl n) z
      · rw [hN b z] at e; cases e
    simp only [this, if_false]
    exact n
/-! ### check_new_name, check_own_fields -/
abbrev sCN : Stmt := top 89
abbrev sCO : Stmt := top 90
theorem scCN : FnScope ["store", "name"] ["store", "name"] (defScope sCN) := ⟨rfl, rfl, rfl, by decide +kernel, rfl, by decide +kernel, by decide +kernel⟩
theorem scCO : FnScope ["fields", "weak", "others", "field"] ["fields", "weak", "others"] (defScope sCO) := ⟨rfl, rfl, rfl, by decide +kernel, rfl, by decide +kernel, by decide +kernel⟩
abbrev nmOk (x : Str) : Bool := isName (.str x)
def spCN (K : PySem.W.Frag) (CS CK CB CW : Addr) : Sp := fun vs H Q E => ∃ (A : Hp) (s : Addr) (M : List Kd) (x : Str), vs = [.ref s, .str x] ∧ Sto K CS CK A s M ∧ Same A H ∧ x.length ≤ 1000 ∧
  (nmOk x = false → ∀ d H1, Same H H1 → H1 d = none → E (.ref CB) (some d) (upd H1 d (.xd [("name", .str x)]))) ∧
  (nmOk x = true → x ∈ M.map (·.name) → ∀ d H1, Same H H1 → H1 d = none → E (.ref CW) (some d) (upd H1 d (.xd [("name", .str x)]))) ∧
  (nmOk x = true → x ∉ M.map (·.name) → ∀ H1, Same H H1 → Q .non H1)
/-- the first field that may not stand there -/
def badO (own others : List Str) (x : Str) : Bool := !nmOk x || decide (1 < own.count x) || decide (x ∈ others)
def badW (own : List Str) (x : Str) : Bool := !decide (x ∈ own)
def spCO (K : PySem.W.Frag) (CF : Addr) : Sp := fun vs H Q E => ∃ (f g p : Addr) (own loose others : List Str), vs = [.ref f, .ref g, .ref p] ∧ TupD H f (own.map V.str) ∧ SqT K H g (loose.map V.str) ∧ H p = some (.lst (others.map V.str)) ∧ (∀ x ∈ own, x.length ≤ 1000) ∧ own.length ≤ 1000 ∧
  (∀ y, own.find? (badO own others) = some y → ∀ d H1, Same H H1 → H1 d = none → E (.ref CF) (some d) (upd H1 d (.xd [("field", .str y)]))) ∧
  (own.find? (badO own others) = none → ∀ y, loose.find? (badW own) = some y → ∀ d H1, Same H H1 → H1 d = none → E (.ref CF) (some d) (upd H1 d (.xd [("field", .str y)]))) ∧
  (own.find? (badO own others) = none → loose.find? (badW own) = none → ∀ H1, Same H H1 → Q .non H1)
theorem find_at {α : Type} {p : α → Bool} : ∀ {l : List α} {i : Nat} {x : α}, (∀ y ∈ l.take i, p y = false) → l[i]? = some x → p x = true → l.find? p = some x
  | [], _, _, _, h, _ => by simp at h
  | y :: l, 0, x, _, h, hp => by simp at h; subst h; rw [List.find?_cons, hp]
  | y :: l, i + 1, x, hn, h, hp => by
    rw [List.find?_cons, hn y (by simp)]
    exact find_at (fun z hz => hn z (by rw [List.take_succ_cons]; exact List.mem_cons_of_mem _ hz)) (show l[i]? = some x by simpa using h) hp
theorem find_none {α : Type} {p : α → Bool} {l : List α} (h : ∀ y ∈ l.take l.length, p y = false) : l.find? p = none := by
  rw [List.take_length] at h
  exact List.find?_eq_none.mpr fun x hx => by rw [h x hx]; exact Bool.false_ne_true
theorem take_all {α : Type} {p : α → Bool} {l : List α} {i : Nat} {x : α} (h : ∀ y ∈ l.take i, p y = false) (hx : l[i]? = some x) (hp : p x = false) : ∀ y ∈ l.take (i + 1), p y = false := fun y hy => by
  rw [List.take_add_one, hx] at hy
  rcases List.mem_append.mp hy with hy | hy
  · exact h y hy
  · rw [List.mem_singleton.mp hy]; exact hp
section
variable {P : Program} {w : World} {K : PySem.W.Frag} {mg : Str → Option Value} {base : Heap} {f fN : Addr} {fd dN : FuncData} {CH CS CK CN CB CW CF : Addr}
theorem ok_cn (F : Fun K "check_new_name" "check_new_name" sCN f fd) (T : Tx K mg CH CS CK) (RB : XErr P w K mg base "BadName" "name" CB) (RW : XErr P w K mg base "Known" "name" CW)
    (G : FnOk P w K mg base CX0 2 fN dN ["thing"] (spName K)) (bG : Binds K dN ["thing"] []) (kG : PySem.W.keepIn K (.ref fN) = true) (mG : mg "is_name" = some (.ref fN)) : FnOk P w K mg base (L2.CX P w) 3 f fd ["store", "name"] (spCN K CS CK CB CW) := by
  refine F.okX scCN (fun vs H Q E h => ?_) (fun cdv A0 outer s0 H vs Q E hr h => ?_)
  · obtain ⟨A, s, M, x, rfl, _⟩ := h
    rfl
  obtain ⟨A, s, M, x, rfl, ⟨nt, a, ch, ks, S⟩, sm, hx, q1, q2, q3⟩ := h
  have hu := hu_of hr
  refine ⟨_, (pss_cons (ps_if (pt_not (pt_val (pe_call G hr rfl mG kG bG .nil pass0 (pa_cons (pv 1) pa_nil)))) (pss_one (ps_err RB hr rfl rfl (takes_of rfl rfl rfl rfl) (pv 1))) pss_nil) (pss_one (ps_if (pt_cmp (pc_din hu (pv 1) (pe_fld (pv 0) rfl))) (pss_one (ps_err RW hr rfl rfl (takes_of rfl rfl rfl rfl) (pv 1))) pss_nil))), ?_⟩
  refine ⟨_, rfl, _, .str x, rfl, .str x, (fun y e => by cases e; omega), fun H1 s1 => ⟨_, rfl, ?_⟩⟩
  refine ite2 (fun e => ?_) (fun e => ?_)
  · exact ⟨_, rfl, mkO_go fun d hd => q1 (by simpa using e) d H1 s1 hd⟩
  · have e' : nmOk x = true := by simpa using e
    by_cases hm : x ∈ M.map (·.name)
    · obtain ⟨k, hk, hkx⟩ := List.mem_map.mp hm
      obtain ⟨i, hi⟩ := List.mem_iff_getElem?.mp hk
      have hv := S.num hi
      rw [hkx] at hv
      refine ⟨_, rfl, _, rfl, s, CS, a.ds, _, _, rfl, s1 _ _ (sm _ _ S.st), T.cS, T.aS _ (by decide +kernel), rfl, a.kn, _, rfl, dg (k := .inr x) (s1 _ _ (sm _ _ S.kn)) hv, _, rfl, iteT ?_⟩
      exact ⟨_, rfl, mkO_go fun d hd => q2 e' hm d H1 s1 hd⟩
    · refine ⟨_, rfl, _, rfl, s, CS, a.ds, _, _, rfl, s1 _ _ (sm _ _ S.st), T.cS, T.aS _ (by decide +kernel), rfl, a.kn, _, rfl, dg (k := .inr x) (s1 _ _ (sm _ _ S.kn)) (kn_none hm), _, rfl, iteF ?_⟩
      exact q3 e' hm H1 s1
theorem ok_co (F : Fun K "check_own_fields" "check_own_fields" sCO f fd) (R : XErr P w K mg base "BadField" "field" CF)
    (G : FnOk P w K mg base CX0 2 fN dN ["thing"] (spName K)) (bG : Binds K dN ["thing"] []) (kG : PySem.W.keepIn K (.ref fN) = true) (mG : mg "is_name" = some (.ref fN)) : FnOk P w K mg base (L2.CX P w) 3 f fd ["fields", "weak", "others"] (spCO K CF) := by
  refine F.okX scCO (fun vs H Q E h => ?_) (fun cdv A0 outer s0 H vs Q E hr h => ?_)
  · obtain ⟨f, g, p, own, loose, others, rfl, _⟩ := h
    rfl
  obtain ⟨fa, ga, p, own, loose, others, rfl, hf, hg, hp, hlx, hlo, q1, q2, q3⟩ := h
  have hu := hu_of hr
  refine ⟨_, (pss_cons (ps_for (passes_of rfl) rfl (pi_tup (pv 0)) (pg_name (i := 3) scCO.nd rfl (.inl rfl)) (pss_one (ps_if (PW.pt (pw_or (pt_not (pt_val (pe_call G hr rfl mG kG bG .nil pass0 (pa_cons (pv 3) pa_nil)))) (pw_or (pt_cmpR op_gt (pe_cntT (pv 0) (pa_cons (pv 3) pa_nil)) pe_int (nomark _)) (pw_or1 (pt_cmpR op_in_seq (pv 3) (pv 2) rfl))))) (pss_one (ps_err R hr rfl rfl (takes_of rfl rfl rfl rfl) (pv 3))) pss_nil))) (pss_one (ps_for (passes_of rfl) rfl (pi_tup (pv 1)) (pg_name (i := 3) scCO.nd rfl (.inl rfl)) (pss_one (ps_if (pt_cmpR op_notIn_seq (pv 3) (pv 0) rfl) (pss_one (ps_err R hr rfl rfl (takes_of rfl rfl rfl rfl) (pv 3))) pss_nil))))), ?_⟩
  refine ⟨_, rfl, fa, rfl, ⟨_, hf.sq⟩, for_tup (xs := own.map V.str) (fun i σ H' => ∃ y, σ = [some (.ref fa), some (.ref ga), some (.ref p), y] ∧ Same H H' ∧ ∀ x ∈ own.take i, badO own others x = false) ⟨_, rfl, Same.refl H, by simp⟩ (fun i σ H' _ ⟨y, _, s1, _⟩ => (hf.same s1).sq) ?_ ?_⟩
  · rintro i v σ H1 hv ⟨y, rfl, s1, hn⟩
    rw [List.getElem?_map] at hv
    obtain ⟨x, hx, rfl⟩ := Option.map_eq_some_iff.mp hv
    have hxl := hlx x (List.mem_of_getElem? hx)
    refine ⟨_, rfl, _, .str x, rfl, .str x, (fun z e => by cases e; omega), fun H2 s2 => ⟨_, rfl, ?_⟩⟩
    have s12 := s1.trans s2
    have bad : badO own others x = true → ∀ d, H2 d = none → E (.ref CF) (some d) (upd H2 d (.xd [("field", .str x)])) := fun hb d hd => q1 x (find_at hn hx hb) d H2 s12 hd
    refine ite2 (fun e => ?_) (fun e => ?_)
    · refine iteT ⟨_, rfl, mkO_go (bad ?_)⟩
      have e' : nmOk x = false := by simpa using e
      unfold badO; rw [e']; rfl
    · have e' : nmOk x = true := by simpa using e
      refine ⟨_, rfl, ⟨fa, _, rfl, hf.same s12⟩, _, rfl, fa, _, _, rfl, rfl, hf.same s12, rfl, strs_flat _, _, _, rfl, rfl, _, rfl, ?_⟩
      rw [strs_count]
      refine ite2 (fun e2 => ?_) (fun e2 => ?_)
      · refine iteT ⟨_, rfl, mkO_go (bad ?_)⟩
        have : 1 < own.count x := by have := of_decide_eq_true e2; omega
        unfold badO; rw [e', decide_eq_true this]; rfl
      · have hc : ¬ 1 < own.count x := fun z => e2 (decide_eq_true (by omega))
        refine ⟨_, rfl, _, rfl, p, _, rfl, .inl (SqL.of (s12 _ _ hp)), rfl, strs_flat _, _, rfl, ?_⟩
        rw [if_neg Bool.false_ne_true, strs_in]
        refine ite2 (fun e3 => ?_) (fun e3 => ?_)
        · refine ⟨_, rfl, mkO_go (bad ?_)⟩
          unfold badO; rw [e3]; simp
        · refine ⟨_, rfl, s12, take_all hn hx ?_⟩
          unfold badO
          rw [e', decide_eq_false hc, Bool.eq_false_iff.mpr e3]; rfl
  · rintro σ H1 ⟨y, rfl, s1, hn⟩
    rw [List.length_map] at hn
    have fn := find_none hn
    refine ⟨_, rfl, ga, rfl, ⟨_, same_sqT s1 hg⟩, for_tup (xs := loose.map V.str) (fun i σ H' => ∃ y, σ = [some (.ref fa), some (.ref ga), some (.ref p), y] ∧ Same H H' ∧ ∀ x ∈ loose.take i, badW own x = false) ⟨_, rfl, s1, by simp⟩ (fun i σ H' _ ⟨y, _, s1, _⟩ => same_sqT s1 hg) ?_ ?_⟩
    · rintro i v σ H2 hv ⟨y, rfl, s2, hn2⟩
      rw [List.getElem?_map] at hv
      obtain ⟨x, hx, rfl⟩ := Option.map_eq_some_iff.mp hv
      refine ⟨_, rfl, _, rfl, fa, _, rfl, .inr (hf.same s2).sq, rfl, strs_flat _, _, rfl, ?_⟩
      rw [if_pos rfl, strs_in]
      refine ite2 (fun e3 => ?_) (fun e3 => ?_)
      · exact ⟨_, rfl, mkO_go fun d hd => q2 fn x (find_at hn2 hx e3) d H2 s2 hd⟩
      · exact ⟨_, rfl, s2, take_all hn2 hx (Bool.eq_false_iff.mpr e3)⟩
    · rintro σ H2 ⟨y, rfl, s2, hn2⟩
      rw [List.length_map] at hn2
      exact q3 fn (find_none hn2) H2 s2
end
end B1

set_option maxRecDepth 100000
set_option maxHeartbeats 4000000
namespace B1
open PySem PySem.Spec PyProof.Rows L2
abbrev sMK : Stmt := top 91
theorem scMK : FnScope ["store", "name", "elder", "fields", "weak", "above", "number", "own_weak", "field"] ["store", "name", "elder", "fields", "weak"] (defScope sMK) := ⟨rfl, rfl, rfl, by decide +kernel, rfl, by decide +kernel, by decide +kernel⟩
/-- a kind that is refused: how, and what its error has -/
inductive Bad (M : List Kd) (x e : Str) (own loose : List Str) : Nat → Str → Prop
  | name : nmOk x = false → Bad M x e own loose 0 x
  | known : nmOk x = true → x ∈ M.map (·.name) → Bad M x e own loose 1 x
  | kind : nmOk x = true → x ∉ M.map (·.name) → e ∉ M.map (·.name) → Bad M x e own loose 2 e
  | own {i : Nat} {k : Kd} {l : List Nat} {y : Str} : nmOk x = true → x ∉ M.map (·.name) → M[i]? = some k → k.name = e → IsLine M (some i) l → own.find? (badO own (sel M (·.own) l.reverse)) = some y → Bad M x e own loose 3 y
  | weak {i : Nat} {k : Kd} {l : List Nat} {y : Str} : nmOk x = true → x ∉ M.map (·.name) → M[i]? = some k → k.name = e → IsLine M (some i) l → own.find? (badO own (sel M (·.own) l.reverse)) = none → loose.find? (badW own) = some y → Bad M x e own loose 3 y
structure Good (M : List Kd) (x e : Str) (own loose : List Str) (i : Nat) : Prop where
  nm : nmOk x = true
  new : x ∉ M.map (·.name)
  up : ∃ k l, M[i]? = some k ∧ k.name = e ∧ IsLine M (some i) l ∧ own.find? (badO own (sel M (·.own) l.reverse)) = none
  weak : loose.find? (badW own) = none
theorem name_inj {M : List Kd} (w : Wf M) {i j : Nat} {k k' : Kd} (h1 : M[i]? = some k) (h2 : M[j]? = some k') (e : k.name = k'.name) : i = j :=
  nd_inj w.names (show (M.map (·.name))[i]? = some k.name by rw [List.getElem?_map, h1]; rfl) (show (M.map (·.name))[j]? = some k.name by rw [List.getElem?_map, h2, e]; rfl)
theorem Good.not {M : List Kd} {x e : Str} {own loose : List Str} {i c : Nat} {y : Str} (w : Wf M) (g : Good M x e own loose i) (b : Bad M x e own loose c y) : False := by
  obtain ⟨k, l, h1, h2, h3, h4⟩ := g.up
  cases b with
  | name h => rw [g.nm] at h; cases h
  | known _ h => exact g.new h
  | kind _ _ h => exact h (List.mem_map.mpr ⟨k, List.mem_of_getElem? h1, h2⟩)
  | own _ _ a1 a2 a3 a4 =>
    have := name_inj w h1 a1 (h2.trans a2.symm)
    subst this
    rw [IsLine.fn h3 a3, a4] at h4; cases h4
  | weak _ _ a1 a2 a3 a4 a5 => rw [g.weak] at a5; cases a5
theorem Bad.fn {M : List Kd} {x e : Str} {own loose : List Str} {c c' : Nat} {y y' : Str} (w : Wf M) (a : Bad M x e own loose c y) (b : Bad M x e own loose c' y') : c = c' ∧ y = y' := by
  cases a with
  | name h1 =>
    cases b with
    | name _ => exact ⟨rfl, rfl⟩
    | known h => rw [h1] at h; cases h
    | kind h => rw [h1] at h; cases h
    | own h => rw [h1] at h; cases h
    | weak h => rw [h1] at h; cases h
  | known h1 h2 =>
    cases b with
    | name h => rw [h1] at h; cases h
    | known _ _ => exact ⟨rfl, rfl⟩
    | kind _ h => exact absurd h2 h
    | own _ h => exact absurd h2 h
    | weak _ h => exact absurd h2 h
  | kind h1 h2 h3 =>
    cases b with
    | name h => rw [h1] at h; cases h
    | known _ h => exact absurd h h2
    | kind _ _ _ => exact ⟨rfl, rfl⟩
    | own _ _ a1 a2 => exact absurd (List.mem_map.mpr ⟨_, List.mem_of_getElem? a1, a2⟩) h3
    | weak _ _ a1 a2 => exact absurd (List.mem_map.mpr ⟨_, List.mem_of_getElem? a1, a2⟩) h3
  | own h1 h2 a1 a2 a3 a4 =>
    cases b with
    | name h => rw [h1] at h; cases h
    | known _ h => exact absurd h h2
    | kind _ _ h => exact absurd (List.mem_map.mpr ⟨_, List.mem_of_getElem? a1, a2⟩) h
    | own _ _ b1 b2 b3 b4 =>
      have := name_inj w a1 b1 (a2.trans b2.symm)
      subst this
      rw [IsLine.fn a3 b3, b4] at a4
      exact ⟨rfl, (Option.some.inj a4).symm⟩
    | weak _ _ b1 b2 b3 b4 b5 =>
      have := name_inj w a1 b1 (a2.trans b2.symm)
      subst this
      rw [IsLine.fn a3 b3, b4] at a4; cases a4
  | weak h1 h2 a1 a2 a3 a4 a5 =>
    cases b with
    | name h => rw [h1] at h; cases h
    | known _ h => exact absurd h h2
    | kind _ _ h => exact absurd (List.mem_map.mpr ⟨_, List.mem_of_getElem? a1, a2⟩) h
    | own _ _ b1 b2 b3 b4 =>
      have := name_inj w a1 b1 (a2.trans b2.symm)
      subst this
      rw [IsLine.fn b3 a3, a4] at b4; cases b4
    | weak _ _ b1 b2 b3 b4 b5 => rw [a5] at b5; exact ⟨rfl, Option.some.inj b5⟩
theorem bad_or {M : List Kd} (w : Wf M) (x e : Str) (own loose : List Str) : (∃ c y, Bad M x e own loose c y) ∨ ∃ i, Good M x e own loose i := by
  by_cases h1 : nmOk x = true
  · by_cases h2 : x ∈ M.map (·.name)
    · exact .inl ⟨_, _, .known h1 h2⟩
    · by_cases h3 : e ∈ M.map (·.name)
      · obtain ⟨k, hk, hke⟩ := List.mem_map.mp h3
        obtain ⟨i, hi⟩ := List.mem_iff_getElem?.mp hk
        obtain ⟨l, hl, _⟩ := IsLine.ex w i i (Nat.le_refl _) (List.getElem?_eq_some_iff.mp hi).1
        cases h4 : own.find? (badO own (sel M (·.own) l.reverse)) with
        | some y => exact .inl ⟨_, _, .own h1 h2 hi hke hl h4⟩
        | none =>
          cases h5 : loose.find? (badW own) with
          | some y => exact .inl ⟨_, _, .weak h1 h2 hi hke hl h4 h5⟩
          | none => exact .inr ⟨i, h1, h2, ⟨k, l, hi, hke, hl, h4⟩, h5⟩
      · exact .inl ⟨_, _, .kind h1 h2 h3⟩
  · exact .inl ⟨_, _, .name (by simpa using h1)⟩
/-- the errors: their classes, their fields -/
structure Cs where
  CB : Addr
  CW : Addr
  CN : Addr
  CF : Addr
def Cs.at (c : Cs) : Nat → Addr
  | 0 => c.CB
  | 1 => c.CW
  | 2 => c.CN
  | _ => c.CF
def fOf : Nat → Str
  | 3 => "field"
  | _ => "name"
def spMK (K : PySem.W.Frag) (CS CK : Addr) (c : Cs) : Sp := fun vs H Q E => ∃ (A : Hp) (s f g : Addr) (M : List Kd) (x e : Str) (own loose : List Str), vs = [.ref s, .str x, .str e, .ref f, .ref g] ∧ Sto K CS CK A s M ∧ Same A H ∧ TupD H f (own.map V.str) ∧ SqT K H g (loose.map V.str) ∧
  x.length ≤ 1000 ∧ (∀ y ∈ own, y.length ≤ 1000) ∧ own.length ≤ 1000 ∧ M.length < 40 ∧ (∀ i l, IsLine M (some i) l → (sel M (·.own) l.reverse).length ≤ 100000) ∧
  (∀ n y, Bad M x e own loose n y → ∀ d H1, Same H H1 → H1 d = none → E (.ref (c.at n)) (some d) (upd H1 d (.xd [(fOf n, .str y)]))) ∧
  (∀ i, Good M x e own loose i → ∀ A' H', Fp A H A' H' → Sto K CS CK A' s (M ++ [⟨x, some i, own, loose⟩]) → Q .non H')
theorem nd_snoc {α : Type} {l : List α} {x : α} (h : l.Nodup) (n : x ∉ l) : (l ++ [x]).Nodup := List.nodup_append.mpr ⟨h, List.nodup_cons.mpr ⟨by simp, List.nodup_nil⟩, fun a ha b hb e => n (by rw [← List.mem_singleton.mp hb, ← e]; exact ha)⟩
theorem wf_snoc {M : List Kd} {x e : Str} {own loose : List Str} {i : Nat} (w : Wf M) (g : Good M x e own loose i) (hl : M.length < 40) : Wf (M ++ [⟨x, some i, own, loose⟩]) := by
  obtain ⟨k, l, h1, _⟩ := g.up
  have hi := (List.getElem?_eq_some_iff.mp h1).1
  obtain ⟨k0, r, e0, he0⟩ := w.first
  refine ⟨⟨k0, r ++ [⟨x, some i, own, loose⟩], by rw [e0]; rfl, he0⟩, fun j k' hj e' he' => ?_, ?_, by simp; omega⟩
  · rcases Nat.lt_or_ge j M.length with lt | ge
    · rw [List.getElem?_append_left lt] at hj; exact w.up j k' hj e' he'
    · rw [List.getElem?_append_right ge] at hj
      cases hz : j - M.length with
      | zero =>
        rw [hz] at hj
        cases hj
        cases he'
        omega
      | succ z => rw [hz] at hj; simp at hj
  · rw [List.map_append]
    exact nd_snoc w.names g.new
theorem op_in_seqK {X : Cx} {K : PySem.W.Frag} (hK : X.K = K) : OpR X (compareOp .In) (rIn K false) := hK ▸ op_in_seq
theorem dk_ne {A : Hp} {a b : Addr} {p q : L2.Key × V} {l m : List (L2.Key × V)} (ha : A a = some (.dK (p :: l))) (hb : A b = some (.dK (q :: m))) (h : p ≠ q) : a ≠ b := ne_of ha hb fun z => by
  injection z with z
  injection z with z
  exact h z
theorem StAt.heads {K : PySem.W.Frag} {CS CK : Addr} {A : Hp} {s : Addr} {a : SA} {ch : Addr} {ks : List Addr} {M : List Kd} (S : StAt K CS CK A s a ch ks M) :
    (∃ b l, A a.kr = some (.dK ((.inl 0, .ref b) :: l))) ∧ (∃ x l, A a.kn = some (.dK ((.inr x, .int 0) :: l))) ∧ (∃ n l, A a.nn = some (.dK ((.inr "kind", .int n) :: l)) ∧ n ≠ 0) ∧ ∃ b l, A a.tb = some (.dK ((.inr "kind", .ref b) :: l)) := by
  obtain ⟨k0, r, e0, _⟩ := S.wf.first
  have hl := S.len
  have h1 := S.kr
  have h2 := S.kn
  have h3 := S.nn
  have h4 := S.tb
  rw [e0] at h1 h2 h3 hl
  cases ks with
  | nil => simp at hl
  | cons b ks =>
    have i0 : ∃ t, ik (k0 :: r).length = .inl 0 :: t := ⟨_, by unfold ik; rw [List.length_cons, List.range_succ_eq_map]; rfl⟩
    have v0 : ∃ t, iV (k0 :: r).length = .int 0 :: t := ⟨_, by unfold iV; rw [List.length_cons, List.range_succ_eq_map]; rfl⟩
    obtain ⟨t, ht⟩ := i0
    obtain ⟨u, hu⟩ := v0
    rw [ht] at h1
    rw [hu] at h2
    exact ⟨⟨b, _, h1⟩, ⟨_, _, h2⟩, ⟨_, _, h3, by rw [List.length_cons]; omega⟩, ⟨_, _, h4⟩⟩
theorem StAt.nd {K : PySem.W.Frag} {CS CK : Addr} {A : Hp} {s : Addr} {a : SA} {ch : Addr} {ks : List Addr} {M : List Kd} (S : StAt K CS CK A s a ch ks M) : ([ch, a.nn, a.kn, a.kr] : List Addr).Nodup ∧ a.tb ∉ ([ch, a.nn, a.kn, a.kr] : List Addr) := by
  obtain ⟨⟨b, l1, h1⟩, ⟨x, l2, h2⟩, ⟨n, l3, h3, hn⟩, ⟨d, l4, h4⟩⟩ := S.heads
  obtain ⟨cs, hc, _⟩ := S.ch
  have c1 := ne_of hc h1 (fun z => nomatch z)
  have c2 := ne_of hc h2 (fun z => nomatch z)
  have c3 := ne_of hc h3 (fun z => nomatch z)
  have c4 := ne_of hc h4 (fun z => nomatch z)
  have n32 := dk_ne h3 h2 (fun z => by injection z with z1 z2; injection z2 with z2; exact hn z2)
  have n31 := dk_ne h3 h1 (fun z => by injection z with z1 z2; cases z1)
  have n21 := dk_ne h2 h1 (fun z => by injection z with z1 z2; cases z1)
  have n43 := dk_ne h4 h3 (fun z => by injection z with z1 z2; cases z2)
  have n42 := dk_ne h4 h2 (fun z => by injection z with z1 z2; cases z2)
  have n41 := dk_ne h4 h1 (fun z => by injection z with z1 z2; cases z1)
  refine ⟨?_, ?_⟩
  · simp only [List.nodup_cons, List.mem_cons, List.not_mem_nil, or_false, not_or, List.nodup_nil, and_true]
    exact ⟨⟨c3, c2, c1⟩, ⟨n32, n31⟩, n21, not_false⟩
  · simp only [List.mem_cons, List.not_mem_nil, or_false, not_or]
    exact ⟨c4.symm, n43, n42, n41⟩
/-- what is no dict of that sort is none of the four -/
theorem StAt.notW {K : PySem.W.Frag} {CS CK : Addr} {A : Hp} {s : Addr} {a : SA} {ch : Addr} {ks : List Addr} {M : List Kd} (S : StAt K CS CK A s a ch ks M) {b : Addr} {o : HO} (hb : A b = some o) (h1 : ∀ cs, o ≠ .dT cs) (h2 : ∀ p l, o ≠ .dK (p :: l)) : b ∉ ([ch, a.nn, a.kn, a.kr] : List Addr) := fun z => by
  obtain ⟨⟨b1, l1, e1⟩, ⟨x, l2, e2⟩, ⟨n, l3, e3, hn⟩, _⟩ := S.heads
  obtain ⟨cs, hc, _⟩ := S.ch
  simp only [List.mem_cons, List.not_mem_nil, or_false] at z
  rcases z with rfl | rfl | rfl | rfl
  · rw [hc] at hb; cases hb; exact h1 _ rfl
  · rw [e3] at hb; cases hb; exact h2 _ _ rfl
  · rw [e2] at hb; cases hb; exact h2 _ _ rfl
  · rw [e1] at hb; cases hb; exact h2 _ _ rfl
section
variable {P : Program} {w : World} {K : PySem.W.Frag} {mg : Str → Option Value} {base : Heap} {f fCN fKN fCO fLF fNN fW fK : Addr} {fd dCN dKN dCO dLF dNN dW dK : FuncData} {CH CS CK : Addr} {c : Cs}
theorem ok_mk (F : Fun K "make_kind" "make_kind" sMK f fd) (T : Tx K mg CH CS CK)
    (GCN : FnOk P w K mg base (L2.CX P w) 3 fCN dCN ["store", "name"] (spCN K CS CK c.CB c.CW)) (bCN : Binds K dCN ["store", "name"] []) (kCN : PySem.W.keepIn K (.ref fCN) = true) (mCN : mg "check_new_name" = some (.ref fCN))
    (GKN : FnOk P w K mg base (L2.CX P w) 3 fKN dKN ["store", "name"] (spKN K CS CK c.CN)) (bKN : Binds K dKN ["store", "name"] []) (kKN : PySem.W.keepIn K (.ref fKN) = true) (mKN : mg "kind_number" = some (.ref fKN))
    (GCO : FnOk P w K mg base (L2.CX P w) 3 fCO dCO ["fields", "weak", "others"] (spCO K c.CF)) (bCO : Binds K dCO ["fields", "weak", "others"] []) (kCO : PySem.W.keepIn K (.ref fCO) = true) (mCO : mg "check_own_fields" = some (.ref fCO))
    (GLF : FnOk P w K mg base CX0 2 fLF dLF ["store", "number"] (spLS K CS CK (·.own))) (bLF : Binds K dLF ["store", "number"] []) (kLF : PySem.W.keepIn K (.ref fLF) = true) (mLF : mg "line_fields" = some (.ref fLF))
    (GNN : FnOk P w K mg base CX0 3 fNN dNN ["self", "table"] (spSN CS)) (bNN : Binds K dNN ["self", "table"] []) (mNN : Meth K CS "new_number" fNN)
    (GW : FnOk P w K mg base CX0 2 fW dW ["self", "table", "key", "row"] (spSW CS)) (bW : Binds K dW ["self", "table", "key", "row"] []) (mW : Meth K CS "write" fW)
    (MK : Mk K CK fK) (GK : FnOk P w K mg base CX0 1 fK dK ["self", "name", "elder", "own", "weak", "ways"] (spKI CK)) (bK : Binds K dK ["self", "name", "elder", "own", "weak", "ways"] []) :
    FnOk P w K mg base (L2.CX P w) 4 f fd ["store", "name", "elder", "fields", "weak"] (spMK K CS CK c) := by
  refine F.okX scMK (fun vs H Q E h => ?_) (fun cdv A0 outer s0 H vs Q E hr h => ?_)
  · obtain ⟨A, s, fa, ga, M, x, e, own, loose, rfl, _⟩ := h
    rfl
  obtain ⟨A, s, fa, ga, M, x, e, own, loose, rfl, St, sm, hf, hg, hx, hox, hol, hM, hsum, q1, q2⟩ := h
  have hu := hu_of hr
  have h2 := hr.mono (show 2 ≤ 3 by decide)
  have B := T.B
  refine ⟨_, (pss_cons (ps_expr (pe_call GCN hr rfl mCN kCN bCN .nil (passes_call (takes_of rfl rfl rfl rfl) (fun _ _ _ _ h => h)) (pa_cons (pv 0) (pa_cons (pv 1) pa_nil)))) (pss_cons (ps_set (i := 5) scMK.nd rfl (.inl rfl) (pe_call GKN hr rfl mKN kKN bKN .nil (passes_call (takes_of rfl rfl rfl rfl) (fun _ _ _ _ h => h)) (pa_cons (pv 0) (pa_cons (pv 2) pa_nil)))) (pss_cons (ps_expr (pe_call GCO hr rfl mCO kCO bCO .nil (passes_call (takes_of rfl rfl rfl rfl) (fun _ _ _ _ h => h)) (pa_cons (pv 3) (pa_cons (pv 4) (pa_cons (pe_call GLF h2 rfl mLF kLF bLF .nil pass0 (pa_cons (pv 0) (pa_cons (pv 5) pa_nil))) pa_nil))))) (pss_cons (ps_set (i := 6) scMK.nd rfl (.inl rfl) (pe_meth (pv 0) T.cS mNN GNN hr bNN .nil pass0 (pa_cons pe_str pa_nil))) (pss_cons (ps_set (i := 7) scMK.nd rfl (.inl rfl) (pe_callTy call_tuple_of rfl B.tuple bt_tuple (pa_cons (pe_lc (own := [("field", 8)]) (g := (gName 8)) (by rfl) scMK.nd (pi_tup (pv 3)) (blkOk_by (own := [("field", 8)]) (N := ["store", "name", "elder", "fields", "weak", "above", "number", "own_weak", "field"]) (sc := defScope sMK) (by decide +kernel)) (fun _ _ _ _ _ => (pg_name (i := 8) scMK.nd rfl (Or.inl rfl))) (fun _ _ _ _ _ => pts_one (pt_cmpR (op_in_seqK (K := K) rfl) (pv 8) (pv 4) rfl)) (fun _ _ _ _ _ => (pv 8))) pa_nil))) (pss_cons (ps_expr (pe_meth (pv 0) T.cS mW GW h2 bW .nil pass0 (pa_cons pe_str (pa_cons (pv 1) (pa_cons (pv 6) pa_nil))))) (pss_one (ps_expr (pe_meth (pv 0) T.cS mW GW h2 bW .nil pass0 (pa_cons pe_str (pa_cons (pv 6) (pa_cons (pe_make MK GK h2 rfl T.mK bK .nil pass0 (pa_cons (pv 1) (pa_cons (pv 5) (pa_cons (pe_callTy call_tuple_of rfl B.tuple bt_tuple (pa_cons (pv 3) pa_nil)) (pa_cons (pv 7) (pa_cons pe_dnewK pa_nil)))))) pa_nil)))))))))))), ?_⟩
  obtain ⟨nt, a, ch, ks, S⟩ := St
  have St : Sto K CS CK A s M := ⟨nt, a, ch, ks, S⟩
  refine ⟨_, rfl, _, rfl, A, s, M, x, rfl, St, sm, hx, fun h1 d H1 s1 hd => q1 0 x (.name h1) d H1 s1 hd, fun h1 h2 d H1 s1 hd => q1 1 x (.known h1 h2) d H1 s1 hd, fun h1 h2' H1 s1 => ?_⟩
  refine ⟨_, rfl, _, rfl, A, s, M, e, rfl, St, sm.trans s1, fun i k hi hk => ?_, fun hn d hd => q1 2 e (.kind h1 h2' hn) d H1 s1 hd⟩
  obtain ⟨l, hL, hll⟩ := IsLine.ex S.wf i i (Nat.le_refl _) (List.getElem?_eq_some_iff.mp hi).1
  have few := S.wf.few
  have hil := (List.getElem?_eq_some_iff.mp hi).1
  refine ⟨_, rfl, _, rfl, _, rfl, _, rfl, A, s, M, some i, l, rfl, St, sm.trans s1, hL, by omega, hsum i l hL, fun p H2 s2 np hp => ?_⟩
  have s12 := s1.trans s2
  refine ⟨fa, ga, p, own, loose, _, rfl, hf.same s12, same_sqT s12 hg, hp, hox, hol, fun y hy d H3 s3 hd => q1 3 y (.own h1 h2' hi hk hL hy) d H3 (s12.trans s3) hd, fun hn y hy d H3 s3 hd => q1 3 y (.weak h1 h2' hi hk hL hn hy) d H3 (s12.trans s3) hd, fun hn1 hn2 H3 s3 => ?_⟩
  have gd : Good M x e own loose i := ⟨h1, h2', ⟨k, l, hi, hk, hL, hn1⟩, hn2⟩
  have s03 := s12.trans s3
  have sm3 := sm.trans s03
  have hf3 := hf.same s03
  have hg3 := same_sqT s03 hg
  obtain ⟨cs, hcs, hcl⟩ := S.ch
  obtain ⟨ndW, tbW⟩ := S.nd
  have sW := S.notW S.st (fun _ z => nomatch z) (fun _ _ z => nomatch z)
  -- the changed tables
  have B0 : Bw H3 H3 [ch, a.nn, a.kn, a.kr] [(ch, .dT cs), (a.nn, .dK (nnK.zip (nnV M.length))), (a.kn, .dK ((sk (M.map (·.name))).zip (iV M.length))), (a.kr, .dK ((ik M.length).zip (ks.map V.ref)))] := by
    refine ⟨ndW, fun p hp => ?_, fun p hp => ?_, fun b u e _ => e, fun b u e z => by rw [e] at z; cases z⟩
    · simp only [List.mem_cons, List.not_mem_nil, or_false] at hp
      rcases hp with rfl | rfl | rfl | rfl
      · exact sm3 _ _ hcs
      · exact sm3 _ _ S.nn
      · exact sm3 _ _ S.kn
      · exact sm3 _ _ S.kr
    · left
      simp only [List.mem_cons, List.not_mem_nil, or_false] at hp
      rcases hp with rfl | rfl | rfl | rfl <;> simp
  refine ⟨_, rfl, s, a.ds, _, rfl, sm3 _ _ S.st, by rfl, s, a.ds, ch, a, M.length, cs, rfl, sm3 _ _ S.st, sm3 _ _ S.tb, sm3 _ _ S.nn, sm3 _ _ hcs, by omega, fun qk cs1 nq1 hl1 => ?_⟩
  have B3 := ((B0.new nq1 (.tup [.str "next", .str "kind"])).put 1 (.dT cs1)).put 2 (.dK (nnK.zip (nnV (M.length + 1))))
  generalize upd (upd (upd H3 qk (.tup [.str "next", .str "kind"])) ch (.dT cs1)) a.nn (.dK (nnK.zip (nnV (M.length + 1)))) = H4 at B3 ⊢
  have keepT : ∀ {H' : Hp} {b : Addr} {xs : List V}, (∀ c u, H3 c = some u → c ∉ ([ch, a.nn, a.kn, a.kr] : List Addr) → H' c = some u) → SqT K H3 b xs → SqT K H' b xs := fun {H' b xs} hk hs => by
    have nw : ∀ u, H3 b = some u → (∀ cs, u ≠ .dT cs) → (∀ p l, u ≠ .dK (p :: l)) → b ∉ ([ch, a.nn, a.kn, a.kr] : List Addr) := fun u hu n1 n2 => (S.same sm3).notW hu n1 n2
    rcases hs with (h | ⟨o, h⟩) | h
    · exact .inl (.inl (hk _ _ h (nw _ h (fun _ z => nomatch z) fun _ _ z => nomatch z)))
    · exact .inl (.inr ⟨o, hk _ _ h (nw _ h (fun _ z => nomatch z) fun _ _ z => nomatch z)⟩)
    · exact .inr h
  have keepD : ∀ {H' : Hp}, (∀ c u, H3 c = some u → c ∉ ([ch, a.nn, a.kn, a.kr] : List Addr) → H' c = some u) → TupD H' fa (own.map V.str) := fun {H'} hk => by
    obtain ⟨o, e1, e2⟩ := hf3
    exact ⟨o, hk _ _ e1 ((S.same sm3).notW e1 (fun _ z => nomatch z) fun _ _ z => nomatch z), e2⟩
  -- the weak ones
  refine ⟨_, rfl, fa, rfl, ⟨_, (keepD B3.keep).sq⟩, fun D nD => ?_⟩
  have hgD : ∀ ys, SqT K (upd H4 D (.lst ys)) ga (loose.map V.str) := fun ys => same_sqT (same_new nD _) (keepT B3.keep hg3)
  refine lc_it walk_tup (fun j H' => H' = upd H4 D (.lst (((own.take j).filter fun y => decide (y ∈ loose)).map V.str))) (by rfl) (fun j H' _ h => by subst h; exact same_sqT (same_new nD _) (keepD B3.keep).sq) ?_ ?_
  · rintro j v H' H'' hj rfl ⟨rfl, hv⟩
    rw [List.getElem?_map] at hv
    obtain ⟨y, hy, rfl⟩ := Option.map_eq_some_iff.mp hv
    refine ⟨rfl, _, rfl, _, rfl, ga, _, rfl, .inr (hgD _), rfl, strs_flat _, _, rfl, ?_⟩
    rw [if_neg Bool.false_ne_true, strs_in]
    have tk : own.take (j + 1) = own.take j ++ [y] := by rw [List.take_add_one, hy]; rfl
    refine ite2 (fun e3 => ?_) (fun e3 => ?_)
    · refine ⟨_, rfl, _, upd_same, ?_, ?_⟩
      · rw [List.length_map]
        exact smallM (Nat.le_trans (List.length_filter_le _ _) (Nat.le_trans (List.length_take_le' _ _) (by omega)))
      · rw [upd_upd, tk, List.filter_append, List.map_append]
        simp [e3]
    · rw [tk, List.filter_append]
      simp [e3]
  rintro H' rfl
  rw [List.length_map, List.take_length]
  refine ⟨D, _, rfl, .inl ⟨SqL.of upd_same, fun g' ng' => ?_⟩⟩
  have B6 := (B3.new nD (.lst ((own.filter fun y => decide (y ∈ loose)).map V.str))).new ng' (.tup ((own.filter fun y => decide (y ∈ loose)).map V.str))
  generalize upd (upd H4 D (.lst ((own.filter fun y => decide (y ∈ loose)).map V.str))) g' (.tup ((own.filter fun y => decide (y ∈ loose)).map V.str)) = H6 at B6 ⊢
  have tbK' : ∀ {H' : Hp}, (∀ c u, H3 c = some u → c ∉ ([ch, a.nn, a.kn, a.kr] : List Addr) → H' c = some u) → H' s = some (.ins CS a.ds (sF a ch)) ∧ H' a.tb = some (.dK (tbK.zip (tbV a))) := fun {H'} hk => ⟨hk _ _ (sm3 _ _ S.st) sW, hk _ _ (sm3 _ _ S.tb) tbW⟩
  obtain ⟨hs6, ht6⟩ := tbK' B6.keep
  have lkn : ((sk (M.map (·.name))).zip (iV M.length)).length ≤ 1000 := by rw [zip_len (by rw [iV_len]; simp [sk])]; simp [sk]; omega
  have lkr : ((ik M.length).zip (ks.map V.ref)).length ≤ 1000 := by rw [zip_len (by rw [ik_len, List.length_map, S.len]), ik_len]; omega
  refine ⟨_, rfl, s, a.ds, _, rfl, hs6, by rfl, _, rfl, _, rfl, s, a.ds, ch, a.kn, a, "kind name", .inr x, nI M.length, _, cs1, rfl, (fun z => nomatch z), hs6, ht6, tb_name a, B6.get 5, lkn, B6.get 3, by omega, fun qn cs2 nqn hl2 => ?_⟩
  have B9 := ((B6.new nqn (.tup [.str "kind name", kV (.inr x)])).put 4 (.dT cs2)).put 6 (.dK (putK ((sk (M.map (·.name))).zip (iV M.length)) (.inr x) (nI M.length)))
  generalize upd (upd (upd H6 qn (.tup [.str "kind name", kV (.inr x)])) ch (.dT cs2)) a.kn (.dK (putK ((sk (M.map (·.name))).zip (iV M.length)) (.inr x) (nI M.length))) = H7 at B9 ⊢
  obtain ⟨hs7, ht7⟩ := tbK' B9.keep
  refine ⟨_, rfl, s, a.ds, _, rfl, hs7, by rfl, _, rfl, _, rfl, _, rfl, _, rfl, fa, _, rfl, .inr ⟨(keepD B9.keep).sq, _, rfl, fun y ny k' dk nk ndk nkd => ?_⟩⟩
  have C2 := (B9.new ny (.dK [])).new ndk (.own k')
  have nk' : (upd (upd H7 y (.dK [])) dk (.own k')) k' = none := by rw [upd_ne (Ne.symm nkd)]; exact nk
  refine ⟨k', dk, _, _, _, _, _, rfl, upd_same, rfl, ?_⟩
  have C4 := (C2.new nk' (.ins CK dk [])).put 0 (.ins CK dk [("name", .str x), ("elder", nI i), ("own", .ref fa), ("weak", .ref g'), ("ways", .ref y)])
  have n3 : ∀ {H' : Hp} {b : Addr}, (∀ b u, H3 b = some u → H' b ≠ none) → H' b = none → H3 b = none := fun {H' b} th hn => by
    cases e : H3 b with
    | none => rfl
    | some u => exact absurd hn (th b u e)
  have k'3 : H3 k' = none := n3 C2.there nk'
  have y3 : H3 y = none := n3 B9.there ny
  have g3 : H3 g' = none := n3 (B3.new nD (.lst ((own.filter fun y => decide (y ∈ loose)).map V.str))).there ng'
  generalize upd (upd (upd (upd H7 y (.dK [])) dk (.own k')) k' (.ins CK dk [])) k' (.ins CK dk [("name", .str x), ("elder", nI i), ("own", .ref fa), ("weak", .ref g'), ("ways", .ref y)]) = H8 at C4 ⊢
  obtain ⟨hs8, ht8⟩ := tbK' C4.keep
  refine ⟨s, a.ds, ch, a.kr, a, "kind", .inl (M.length : Int), .ref k', _, cs2, rfl, (fun z => nomatch z), hs8, ht8, tb_kind a, C4.get 10, lkr, C4.get 7, by omega, fun qr cs3 nqr hl3 => ?_⟩
  have E := ((C4.new nqr (.tup [.str "kind", kV (.inl (M.length : Int))])).put 8 (.dT cs3)).put 11 (.dK (putK ((ik M.length).zip (ks.map V.ref)) (.inl (M.length : Int)) (.ref k')))
  generalize upd (upd (upd H8 qr (.tup [.str "kind", kV (.inl (M.length : Int))])) ch (.dT cs3)) a.kr (.dK (putK ((ik M.length).zip (ks.map V.ref)) (.inl (M.length : Int)) (.ref k'))) = H9 at E ⊢
  -- the part
  obtain ⟨Aa, Fa, sAa, hfA, himA, ntA⟩ := Fp.adoptT (K := K) sm3 hf3.sq
  have S' := S.same sAa
  have sA3 : Same Aa H3 := Fa.sub
  have fb := Fp.bulk (H' := H9) sA3 [ch, a.nn, a.kn, a.kr] [k', y, g'] (fun b hb => by
      simp only [List.mem_cons, List.not_mem_nil, or_false] at hb
      rcases hb with rfl | rfl | rfl | rfl
      · exact ⟨_, sAa _ _ hcs, id⟩
      · exact ⟨_, S'.nn, id⟩
      · exact ⟨_, S'.kn, id⟩
      · exact ⟨_, S'.kr, id⟩) (fun b hb => by
      simp only [List.mem_cons, List.not_mem_nil, or_false] at hb
      rcases hb with rfl | rfl | rfl
      · exact k'3
      · exact y3
      · exact g3) E.keep
  generalize hA9 : (fun b => if b ∈ ([ch, a.nn, a.kn, a.kr] ++ [k', y, g'] : List Addr) then H9 b else Aa b) = A9 at fb
  have inA : ∀ b, b ∈ ([ch, a.nn, a.kn, a.kr] ++ [k', y, g'] : List Addr) → A9 b = H9 b := fun b hb => by rw [← hA9]; exact if_pos hb
  have out : ∀ b o, Aa b = some o → b ∉ ([ch, a.nn, a.kn, a.kr] : List Addr) → A9 b = some o := fun b o hb hn => by
    rw [← hA9]
    have : b ∉ ([ch, a.nn, a.kn, a.kr] ++ [k', y, g'] : List Addr) := fun z => by
      rcases List.mem_append.mp z with z | z
      · exact hn z
      · have h3 := sA3 _ _ hb
        simp only [List.mem_cons, List.not_mem_nil, or_false] at z
        rcases z with rfl | rfl | rfl
        · rw [k'3] at h3; cases h3
        · rw [y3] at h3; cases h3
        · rw [g3] at h3; cases h3
    exact (if_neg this).trans hb
  have outT : ∀ {b : Addr} {xs : List V}, SqT K Aa b xs → SqT K A9 b xs := fun {b xs} hs => by
    rcases hs with (h | ⟨o, h⟩) | h
    · exact .inl (.inl (out _ _ h (S'.notW h (fun _ z => nomatch z) fun _ _ z => nomatch z)))
    · exact .inl (.inr ⟨o, out _ _ h (S'.notW h (fun _ z => nomatch z) fun _ _ z => nomatch z)⟩)
    · exact .inr h
  refine q2 i gd A9 H9 ((Fp.same sm s03).trans (Fa.trans fb)) ⟨fun b o hb ps z => ?_, a, ch, ks ++ [k'], ?_⟩
  · by_cases hm : b ∈ ([ch, a.nn, a.kn, a.kr] ++ [k', y, g'] : List Addr)
    · rw [inA b hm] at hb
      simp only [List.cons_append, List.nil_append, List.mem_cons, List.not_mem_nil, or_false] at hm
      subst z
      rcases hm with rfl | rfl | rfl | rfl | rfl | rfl | rfl
      · cases (E.get 8).symm.trans hb
      · cases (E.get 9).symm.trans hb
      · cases (E.get 10).symm.trans hb
      · cases (E.get 11).symm.trans hb
      · cases (E.get 1).symm.trans hb
      · cases (E.get 3).symm.trans hb
      · cases (E.get 5).symm.trans hb
    · rw [← hA9] at hb
      exact ntA nt b o ((if_neg hm).symm.trans hb) ps z
  · have eL : (M ++ [(⟨x, some i, own, loose⟩ : Kd)]).length = M.length + 1 := by simp
    refine ⟨out _ _ S'.st sW, ?_, ?_, ?_, out _ _ S'.tb tbW, ⟨cs3, (inA ch (by simp)).trans (E.get 8), by rw [eL]; omega⟩, by simp [S.len], fun j b kd hb hkd => ?_, wf_snoc S.wf gd hM⟩
    · rw [inA a.kr (by simp), E.get 11, eL, zip_put (ik_not _) (by rw [ik_len, List.length_map, S.len]), ik_succ, List.map_append]; rfl
    · rw [inA a.kn (by simp), E.get 10, eL, zip_put (sk_not h2') (by rw [iV_len]; simp [sk]), iV_succ, List.map_append]
      simp [sk]
    · rw [inA a.nn (by simp), E.get 9, eL]
    · rcases Nat.lt_or_ge j M.length with lt | ge
      · rw [List.getElem?_append_left lt] at hkd
        rw [List.getElem?_append_left (by rw [S.len]; exact lt)] at hb
        obtain ⟨dk', o', g'', y', kvs, e1, e2, e3, e4, e5⟩ := S'.rows j b kd hb hkd
        subst e5
        exact ⟨dk', o', g'', y', [], out _ _ e1 (S'.notW e1 (fun _ z => nomatch z) fun _ _ z => nomatch z), outT e2, outT e3, out _ _ e4 (S'.notW e4 (fun _ z => nomatch z) fun _ _ z => nomatch z), rfl⟩
      · rw [List.getElem?_append_right ge] at hkd
        rw [List.getElem?_append_right (by rw [S.len]; exact ge), S.len] at hb
        cases hz : j - M.length with
        | zero =>
          rw [hz] at hkd hb
          cases hkd
          cases hb
          exact ⟨dk, fa, g', y, [], (inA _ (by simp)).trans (E.get 1), outT hfA, SqT.of ((inA _ (by simp)).trans (E.get 5)), (inA _ (by simp)).trans (E.get 3), rfl⟩
        | succ z => rw [hz] at hkd; simp at hkd
end
end B1

set_option maxRecDepth 100000
set_option maxHeartbeats 4000000
namespace B1
open PySem PySem.Spec PyProof.Rows L2
section
variable {X : Cx} {CX : CXT} {k i n : Nat} {f C : Addr} {fd : FuncData} {ps ks : List Str} {sp : Sp} {E : XK} {x m : Str} {p pos apos : Pos} {e o : Expr} {es : List Expr} {kws : List Keyword} {ta : TE} {t tk : TA} {g : List Value → List Value → List Value} {gV : List V → List V → List V}
/-- x(e, *y), x a local that holds the def at f -/
theorem pe_callLS (F : FnOk X.prog X.w X.K X.mg X.base CX k f fd ps sp) (hr : Room k X.A) (hN : X.N[i]? = some x) (hv : Vis X.env.scope x) (hk : PySem.W.keepIn X.K (.ref f) = true) (hb : Binds X.K fd ps []) (hx : Passes CX X E) (ha : PA X (e :: es) t)
    (hdb : (x == ("__debug__" : Str)) = false := by decide) (hcd : (x == ("__classdict__" : Str)) = false := by decide)
    (he : starEach (e :: es) X.env = (false, eval e X.env) :: starEach es X.env := by rfl) (hst : (backTo pos (starEach es X.env)).any (·.1) = true := by rfl) : PE X (.Call (.Name x p) (e :: es) [] pos) (tCallL i f sp [] E t) := by
  refine ⟨fun pins s σ H Q I h => ?_⟩
  obtain ⟨hs, ht⟩ := h
  refine wpAny_Call_Name_kw (thn ((pe_var (pos := p) hN hv hdb hcd).run pins s σ H (fun v H1 => v = .ref f ∧ H1 = H) I ⟨.ref f, hs, rfl, rfl⟩) fun u s1 ⟨v, H1, I1, r1, q1⟩ => ?_)
  obtain ⟨rfl, rfl⟩ := q1
  cases r1
  refine PySem.W.callWith_S2 (h₀ := X.base) I.ok.mod.kin hk (thn (ha.run pos pins s1 σ _ _ I1 ht) fun us s2 ⟨vs, H2, I2, r, q⟩ => ⟨I2.kIn, ?_⟩) he hst
  exact run_fn F hr hb .nil hx I2 r q
/-- o.m(e, .., k = v, ..) -/
def tMethN (C : Addr) (m : Str) (n j : Nat) (sp : Sp) (gV : List V → List V → List V) (E : XK) (ta : TE) (t tk : TA) : TE := fun σ H Q => ta σ H fun x H1 => ∃ a dx fs, x = .ref a ∧ H1 a = some (.ins C dx fs) ∧ fs.lookup m = none ∧ t σ H1 fun vs H2 => tk σ H2 fun zs H3 => vs.length + 1 = n ∧ zs.length = j ∧ sp (gV (x :: vs) zs) H3 Q E
theorem pe_methN {pl : Sem Bool} (he : PE X o ta) (c : Cls X.K C) (hm : Meth X.K C m f) (F : FnOk X.prog X.w X.K X.mg X.base CX k f fd ps sp) (hr : Room k X.A) (hb : KBn X.K fd ps n ks g gV) (hx : Passes CX X E) (ha : PA X (e :: es) t) (hkw : PK X kws tk)
    (hall : (backToKw pos (keywordEach kws X.env)).all (·.1.isSome) = true := by rfl) (hks : (backToKw pos (keywordEach kws X.env)).filterMap (·.1) = ks := by rfl)
    (hst : starEach (e :: es) X.env = (false, eval e X.env) :: starEach es X.env := by rfl)
    (hpl : ((backTo pos (starEach (e :: es) X.env)).any (·.1) || (backToKw pos (keywordEach kws X.env)).any (·.1.isNone)) = false := by rfl)
    (ht : eval (.Call (.Attribute o m apos) (e :: es) kws pos) X.env = (do
      let ov ← eval o X.env
      standAt apos.atName
      let (f, first) ← holding [ov] (getMethod ov m pl)
      callWith pos f first (backTo pos (starEach (e :: es) X.env)) (backToKw pos (keywordEach kws X.env))) := by rfl) :
    PE X (.Call (.Attribute o m apos) (e :: es) kws pos) (tMethN C m n ks.length sp gV E ta t tk) := by
  refine ⟨fun pins s σ H Q I h => ?_⟩
  refine PySem.W.methodCall_KW (pl := pl) (thn (he.run pins s σ H _ I h) fun u s1 ⟨x, H1, I1, rx, a, dx, fs, ex, ea, l, q⟩ => ?_) ht
  subst ex
  obtain rfl : u = Value.ref a := rx
  refine getmeth_ok I1 ea c hm l ?_
  refine PySem.W.callWith_KW (first := [.ref a]) (h₀ := X.base) I.ok.mod.kin hm.kp hall (thn (ha.run pos pins s1 σ H1 _ I1 q) fun us s2 ⟨vs, H2, I2, r, q2⟩ => ?_) hpl hst
  refine thn (hkw.run pos pins s2 σ H2 _ I2 q2) fun ws s3 ⟨zs, H3, I3, rz, l1, l2, q3⟩ => ⟨I3.kIn, ?_⟩
  rw [hks]
  exact run_fnN (us := .ref a :: us) (vs := .ref a :: vs) F hr hb hx I3 (.cons rfl r) rz l1 l2 q3
end
/-- keyword-only defaults, no others: n positional values, keywords named ks; ms: those that lack -/
theorem kb0 {K : PySem.W.Frag} {x qual : Str} {params : Arguments} {body : List Stmt} {scope : Scope} {kws : List (Str × V)} {f : Addr} {fd : FuncData} {ps : List Str} (F : FunD K x qual params body scope [] kws f fd) (n : Nat) (ks : List Str) (ms : List (Str × V)) (g : {α : Type} → List α → List α → List α → List α) (hk : kws ≠ []) (hms : ∀ q ∈ ms, q ∈ kws)
    (hrel : ∀ {vs mz zs : List V} {us mv ws : List Value}, Vals vs us → Vals mz mv → Vals zs ws → Vals (g vs mz zs) (g us mv ws))
    (h : ∀ (D : Addr) (doc pm : Value) (an : Option Addr) (cdv ct : Value) (us mv ws : List Value), us.length = n → mv.length = ms.length → ws.length = ks.length →
      KwChain D ((ms.map (·.1)).zip mv) (bindArgs (PySem.W.fnOf x qual params body scope .none (.ref D) doc pm an cdv ct) ⟨us, ks.zip ws⟩) (ps.zip (g us mv ws))) :
    ∃ mv : List Value, KBn K fd ps n ks (fun us ws => g us mv ws) (fun vs zs => g vs (ms.map (·.2)) zs) := by
  obtain ⟨oc, od, dV, kV, doc, pm, an, cdv, ct, osl, rfl, lk, hcd, hD, hK⟩ := F.ex
  rcases hD with ⟨_, rfl⟩ | ⟨e, _⟩
  · rcases hK with e | ⟨D, rfl, hq⟩
    · exact absurd e hk
    · obtain ⟨mv, hl, rk, hks⟩ := kwd_vals (ms := ms) fun q hm => hq q (hms q hm)
      refine ⟨mv, ⟨fun s us ws X l1 l2 => ?_, fun r1 r2 => hrel r1 rk r2⟩⟩
      exact BindsTo.of_looks fun M => KwChain.looks X hks (h D doc pm an cdv ct us mv ws l1 hl l2)
  · exact absurd rfl e
end B1

set_option maxRecDepth 100000
set_option maxHeartbeats 4000000
namespace B1
open PySem PySem.Spec PyProof.Rows L2
/-! ### two parts in one -/
def J (A R : Hp) : Hp := fun b => match A b with
  | some o => some o
  | none => R b
def Ag (A R : Hp) : Prop := ∀ b o u, A b = some o → R b = some u → o = u ∧ im o
theorem J_l {A R : Hp} {b : Addr} {o : HO} (h : A b = some o) : J A R b = some o := by unfold J; rw [h]
theorem J_r {A R : Hp} (g : Ag A R) {b : Addr} {o : HO} (h : R b = some o) : J A R b = some o := by
  unfold J
  cases e : A b with
  | none => exact h
  | some u => rw [(g b u o e h).1]
theorem J_n {A R : Hp} {b : Addr} (h : J A R b = none) : A b = none ∧ R b = none := by
  unfold J at h
  cases e : A b with
  | none => rw [e] at h; exact ⟨rfl, h⟩
  | some u => rw [e] at h; cases h
theorem J_same {A R H : Hp} (a : Same A H) (r : Same R H) : Same (J A R) H := fun b o e => by
  unfold J at e
  cases q : A b with
  | none => rw [q] at e; exact r _ _ e
  | some u => rw [q] at e; cases e; exact a _ _ q
theorem same_l {A R H : Hp} (s : Same (J A R) H) : Same A H := fun b o e => s _ _ (J_l e)
theorem same_r {A R H : Hp} (g : Ag A R) (s : Same (J A R) H) : Same R H := fun b o e => s _ _ (J_r g e)
theorem Ag.symm {A R : Hp} (g : Ag A R) : Ag R A := fun b o u h1 h2 => by
  obtain ⟨e, i⟩ := g b u o h2 h1
  exact ⟨e.symm, e ▸ i⟩
theorem J_comm {A R : Hp} (g : Ag A R) : J A R = J R A := by
  funext b
  unfold J
  cases e : A b with
  | none => cases e2 : R b <;> rfl
  | some u =>
    cases e2 : R b with
    | none => rfl
    | some v => rw [(g b u v e e2).1]
theorem Fp.left {A H A' H' R : Hp} (f : Fp A H A' H') (g : Ag A R) (sA : Same A H) (sR : Same R H) : Fp (J A R) H (J A' R) H' ∧ Ag A' R ∧ Same R H' := by
  have kR : Same R H' := fun b o e => by
    refine f.frame b o (sR _ _ e) ?_
    cases h : A b with
    | none => exact .inl rfl
    | some u =>
      obtain ⟨e1, i⟩ := g b u o h e
      exact .inr (e1 ▸ i)
  have ag : Ag A' R := fun b o u h1 h2 => by
    have e := (f.sub _ _ h1).symm.trans (kR _ _ h2)
    cases e
    refine ⟨rfl, ?_⟩
    by_cases i : im o
    · exact i
    · exfalso
      have hn : A b = none := by
        cases h : A b with
        | none => rfl
        | some v =>
          obtain ⟨e1, i1⟩ := g b v o h h2
          exact absurd (e1 ▸ i1) i
      rw [f.dom b o hn (sR _ _ h2) i] at h1
      cases h1
  refine ⟨⟨J_same f.sub kR, fun b o e k => f.frame b o e ?_, fun b o n e i => ?_⟩, ag, kR⟩
  · rcases k with k | k
    · exact .inl (J_n k).1
    · exact .inr k
  · obtain ⟨n1, n2⟩ := J_n n
    have := f.dom b o n1 e i
    unfold J
    rw [this]
    exact n2
theorem Fp.right {A H R R' H' : Hp} (f : Fp R H R' H') (g : Ag A R) (sA : Same A H) (sR : Same R H) : Fp (J A R) H (J A R') H' ∧ Ag A R' ∧ Same A H' := by
  obtain ⟨h1, h2, h3⟩ := f.left g.symm sR sA
  rw [J_comm g, J_comm h2.symm]
  exact ⟨h1, h2.symm, h3⟩
theorem NoT.J {A R : Hp} (a : NoT A) (r : NoT R) : NoT (B1.J A R) := fun b o e => by
  unfold B1.J at e
  cases q : A b with
  | none => rw [q] at e; exact r b o e
  | some u => rw [q] at e; cases e; exact a b o q
/-! ### a hall -/
structure HallAt (K : PySem.W.Frag) (CH CS CK : Addr) (As R : Hp) (h s : Addr) (M : List Kd) : Prop where
  st : Sto K CS CK As s M
  nt : NoT R
  ag : Ag As R
  at_ : ∃ dh pl fl xs, R h = some (.ins CH dh [("store", .ref s), ("past", .ref pl), ("future", .ref fl)]) ∧ R pl = some (.lst xs) ∧ xs.length ≤ M.length ∧ R fl = some (.lst []) ∧ pl ≠ fl
def Hal (K : PySem.W.Frag) (CH CS CK : Addr) (A : Hp) (h : Addr) (M : List Kd) : Prop := ∃ As R s, A = J As R ∧ HallAt K CH CS CK As R h s M
abbrev sPf : Stmt := top 187
abbrev sHI : Stmt := cm 189 0
abbrev sHM : Stmt := cm 189 4
abbrev sHC : Stmt := cm 189 46
abbrev sHD : Stmt := cm 189 47
theorem scPf : FnScope ["store", "word", "values", "action"] ["store", "word", "values"] (defScope sPf) := ⟨rfl, rfl, rfl, by decide +kernel, rfl, by decide +kernel, by decide +kernel⟩
theorem scHI : FnScope ["self"] ["self"] (defScope sHI) := ⟨rfl, rfl, rfl, by decide +kernel, rfl, by decide +kernel, by decide +kernel⟩
theorem scHM : FnScope ["self", "name", "elder", "fields", "weak"] ["self", "name", "elder", "fields", "weak"] (defScope sHM) := ⟨rfl, rfl, rfl, by decide +kernel, rfl, by decide +kernel, by decide +kernel⟩
theorem scHC : FnScope ["self", "word", "values", "told"] ["self", "word", "values"] (defScope sHC) := ⟨rfl, rfl, rfl, by decide +kernel, rfl, by decide +kernel, by decide +kernel⟩
theorem scHD : FnScope ["self", "word", "values", "told"] ["self", "word", "values"] (defScope sHD) := ⟨rfl, rfl, rfl, by decide +kernel, rfl, by decide +kernel, by decide +kernel⟩
def spPf (K : PySem.W.Frag) (CS CK : Addr) (c : Cs) : Sp := fun vs H Q E => ∃ (s vv : Addr) (v1 v2 v3 v4 : V), vs = [.ref s, .str "make_kind", .ref vv] ∧ SqT K H vv [v1, v2, v3, v4] ∧ spMK K CS CK c [.ref s, v1, v2, v3, v4] H Q E
/-- what is asked of the deed -/
structure Ask (K : PySem.W.Frag) (H : Hp) (M : List Kd) (x e : Str) (f g : Addr) (own loose : List Str) : Prop where
  hf : TupD H f (own.map V.str)
  hg : SqT K H g (loose.map V.str)
  hx : x.length ≤ 1000
  hox : ∀ y ∈ own, y.length ≤ 1000
  hol : own.length ≤ 1000
  hM : M.length < 40
  hs : ∀ i l, IsLine M (some i) l → (sel M (·.own) l.reverse).length ≤ 100000
theorem Ask.same {K : PySem.W.Frag} {H H' : Hp} {M : List Kd} {x e : Str} {f g : Addr} {own loose : List Str} (a : Ask K H M x e f g own loose) (s : Same H H') : Ask K H' M x e f g own loose := ⟨a.hf.same s, same_sqT s a.hg, a.hx, a.hox, a.hol, a.hM, a.hs⟩
def spHC (K : PySem.W.Frag) (CH CS CK : Addr) (c : Cs) : Sp := fun vs H Q E => ∃ (A : Hp) (h vv f g : Addr) (M : List Kd) (x e : Str) (own loose : List Str), vs = [.ref h, .str "make_kind", .ref vv] ∧ SqT K H vv [.str x, .str e, .ref f, .ref g] ∧ Hal K CH CS CK A h M ∧ Same A H ∧ Ask K H M x e f g own loose ∧
  (∀ n y, Bad M x e own loose n y → ∀ d H1, Same H H1 → H1 d = none → E (.ref (c.at n)) (some d) (upd H1 d (.xd [(fOf n, .str y)]))) ∧
  (∀ i, Good M x e own loose i → ∀ A' H', Fp A H A' H' → Hal K CH CS CK A' h (M ++ [⟨x, some i, own, loose⟩]) → Q .non H')
def spHM (K : PySem.W.Frag) (CH CS CK : Addr) (c : Cs) : Sp := fun vs H Q E => ∃ (A : Hp) (h f g : Addr) (M : List Kd) (x e : Str) (own loose : List Str), vs = [.ref h, .str x, .str e, .ref f, .ref g] ∧ Hal K CH CS CK A h M ∧ Same A H ∧ Ask K H M x e f g own loose ∧
  (∀ n y, Bad M x e own loose n y → ∀ d H1, Same H H1 → H1 d = none → E (.ref (c.at n)) (some d) (upd H1 d (.xd [(fOf n, .str y)]))) ∧
  (∀ i, Good M x e own loose i → ∀ A' H', Fp A H A' H' → Hal K CH CS CK A' h (M ++ [⟨x, some i, own, loose⟩]) → Q .non H')
section
variable {P : Program} {w : World} {K : PySem.W.Frag} {mg : Str → Option Value} {base : Heap} {f fMK fPf fST fHC fHD fSI dA : Addr} {fd dMK dPf dST dHC dHD dSI : FuncData} {CH CS CK : Addr} {c : Cs} {eA : Array DictEntry} {nA : Nat}
theorem ok_pf (F : Fun K "perform" "perform" sPf f fd) (KD : KDict K w dA eA nA) (mD : mg "KIND_DEEDS" = some (.ref dA)) (hD : PySem.W.nsIn K dA "make_kind" = some (some (.ref fMK)))
    (G : FnOk P w K mg base (L2.CX P w) 4 fMK dMK ["store", "name", "elder", "fields", "weak"] (spMK K CS CK c)) (bG : Binds K dMK ["store", "name", "elder", "fields", "weak"] []) (kG : PySem.W.keepIn K (.ref fMK) = true) :
    FnOk P w K mg base (L2.CX P w) 5 f fd ["store", "word", "values"] (spPf K CS CK c) := by
  refine F.okX scPf (fun vs H Q E h => ?_) (fun cdv A0 outer s0 H vs Q E hr h => ?_)
  · obtain ⟨s, vv, v1, v2, v3, v4, rfl, _⟩ := h
    rfl
  obtain ⟨s, vv, v1, v2, v3, v4, rfl, hv, q⟩ := h
  refine ⟨_, (pss_cons (ps_if (pt_cmpR (op_in_kd KD) (pv 1) (pe_glob (v := .ref dA) rfl mD rfl) rfl) (pss_one (ps_set (i := 3) scPf.nd rfl (.inl rfl) (pe_ix ix_kdict (pe_glob (v := .ref dA) rfl mD rfl) (pv 1) (fun _ _ => rfl)))) pss_never) (pss_one (ps_ret (pe_callLS (i := 3) G hr rfl (.inl rfl) kG bG (passes_call (takes_of rfl rfl rfl rfl) (fun _ _ _ _ h => h)) (pa_cons (pv 0) (StX.pa_star (pv 2) pa_nil)))))), ?_⟩
  refine ⟨_, rfl, _, _, rfl, rfl, hD, _, rfl, iteT ⟨_, rfl, dA, _, .ref fMK, rfl, rfl, ⟨eA, nA, .ref fMK, KD.at_, KD.lit, hD, rfl⟩, ?_⟩⟩
  exact ⟨rfl, _, rfl, _, rfl, vv, _, rfl, .inl hv, q⟩
theorem ok_hc (F : Fun K "carry_out" "Hall.carry_out" sHC f fd) (T : Tx K mg CH CS CK)
    (G : FnOk P w K mg base (L2.CX P w) 5 fPf dPf ["store", "word", "values"] (spPf K CS CK c)) (bG : Binds K dPf ["store", "word", "values"] []) (kG : PySem.W.keepIn K (.ref fPf) = true) (mG : mg "perform" = some (.ref fPf))
    (GT : FnOk P w K mg base CX0 1 fST dST ["self"] (spST CS)) (bT : Binds K dST ["self"] []) (mT : Meth K CS "take_changes" fST) :
    FnOk P w K mg base (L2.CX P w) 6 f fd ["self", "word", "values"] (spHC K CH CS CK c) := by
  refine F.okX scHC (fun vs H Q E h => ?_) (fun cdv A0 outer s0 H vs Q E hr h => ?_)
  · obtain ⟨A, h, vv, f, g, M, x, e, own, loose, rfl, _⟩ := h
    rfl
  obtain ⟨A, h, vv, fa, ga, M, x, e, own, loose, rfl, hv, ⟨As, R, s, rfl, HA⟩, sm, ask, q1, q2⟩ := h
  have h1 := hr.mono (show 1 ≤ 5 by decide)
  obtain ⟨dh, pl, fl, xs, eh, ep, hxl, ef, npf⟩ := HA.at_
  have sA := same_l sm
  have sR := same_r HA.ag sm
  refine ⟨_, (pss_cons (ps_set (i := 3) scHC.nd rfl (.inl rfl) (pe_call G hr rfl mG kG bG .nil (passes_call (takes_of rfl rfl rfl rfl) (fun _ _ _ _ h => h)) (pa_cons (pe_fld (pv 0) rfl) (pa_cons (pv 1) (pa_cons (pv 2) pa_nil))))) (pss_cons (ps_expr (pe_bm PySem.F.plainAttrs_list PySem.F.slot_list_append PySem.F.type_list_append mt_append (pe_fld (pv 0) rfl) (pa_cons (pe_tup (pa_cons (pe_tup (pa_cons (pv 1) (pa_cons (pv 2) pa_nil))) (pa_cons (pe_meth0 (pe_fld (pv 0) rfl) T.cS mT GT h1 bT .nil pass0) pa_nil))) pa_nil))) (pss_one (ps_ret (pv 3))))), ?_⟩
  refine ⟨_, rfl, h, CH, dh, _, _, rfl, sR _ _ eh, T.cH, T.aH _ (by decide +kernel), rfl, _, rfl, _, rfl, s, vv, _, _, _, _, rfl, hv, ?_⟩
  refine ⟨As, s, fa, ga, M, x, e, own, loose, rfl, HA.st, sA, ask.hf, ask.hg, ask.hx, ask.hox, ask.hol, ask.hM, ask.hs, q1, fun i gd A' H' fp st' => ?_⟩
  obtain ⟨f1, ag1, sR1⟩ := fp.left HA.ag sA sR
  obtain ⟨nt', a, ch, ks, S⟩ := st'
  have sA' := fp.sub
  refine ⟨_, rfl, h, CH, dh, _, _, rfl, sR1 _ _ eh, T.cH, T.aH _ (by decide +kernel), rfl, .inl ⟨rfl, _, SqL.of (sR1 _ _ ep)⟩, _, rfl, _, rfl, (by show 2 ≤ sizeLine; decide), fun q nq => ?_⟩
  have n1 := same_new nq (.tup [.str "make_kind", .ref vv])
  refine ⟨_, rfl, h, CH, dh, _, _, rfl, n1 _ _ (sR1 _ _ eh), T.cH, T.aH _ (by decide +kernel), rfl, s, a.ds, _, rfl, n1 _ _ (sA' _ _ S.st), by rfl, s, a.ds, ch, a, rfl, n1 _ _ (sA' _ _ S.st), fun cc nc => ⟨(by show 2 ≤ sizeLine; decide), fun p np => ?_⟩⟩
  -- the store's step
  have fS1 : Fp A' H' A' (upd H' q (.tup [.str "make_kind", .ref vv])) := .same sA' n1
  have fS2 := fS1.trans (.alloc fS1.sub nc (o := .dT []))
  have sne : s ≠ cc := ne_of_none (n1 _ _ (sA' _ _ S.st)) nc
  have hsA : (upd A' cc (.dT [])) s = some (.ins CS a.ds (sF a ch)) := by rw [upd_ne sne]; exact S.st
  have fS3 := fS2.trans (.write (o' := .ins CS a.ds (sF a cc)) fS2.sub hsA id)
  have fS4 := fS3.trans (.same fS3.sub (same_new np (.tup [.ref q, .ref ch])))
  obtain ⟨f2, ag2, sR2⟩ := fS4.left ag1 sA' sR1
  have keepA : ∀ b o, A' b = some o → b ≠ s → (upd (upd A' cc (.dT [])) s (.ins CS a.ds (sF a cc))) b = some o := fun b o e ne => by
    rw [upd_ne ne, upd_ne (ne_of_none (n1 _ _ (sA' _ _ e)) nc)]; exact e
  have notS : ∀ b o, A' b = some o → (∀ C d fs, o ≠ .ins C d fs) → b ≠ s := fun b o e n z => by
    rw [z, S.st] at e; cases e; exact n _ _ _ rfl
  have keepT : ∀ {b : Addr} {ys : List V}, SqT K A' b ys → SqT K (upd (upd A' cc (.dT [])) s (.ins CS a.ds (sF a cc))) b ys := fun {b ys} hs => by
    rcases hs with (h | ⟨o, h⟩) | h
    · exact .inl (.inl (keepA _ _ h (notS _ _ h fun _ _ _ z => nomatch z)))
    · exact .inl (.inr ⟨o, keepA _ _ h (notS _ _ h fun _ _ _ z => nomatch z)⟩)
    · exact .inr h
  have st2 : Sto K CS CK (upd (upd A' cc (.dT [])) s (.ins CS a.ds (sF a cc))) s (M ++ [⟨x, some i, own, loose⟩]) := by
    refine ⟨NoT.upd (o := .ins CS a.ds (sF a cc)) (NoT.upd (o := .dT []) nt' (fun _ z => nomatch z)) (fun _ z => nomatch z), a, cc, ks, upd_same, keepA _ _ S.kr (notS _ _ S.kr fun _ _ _ z => nomatch z), keepA _ _ S.kn (notS _ _ S.kn fun _ _ _ z => nomatch z), keepA _ _ S.nn (notS _ _ S.nn fun _ _ _ z => nomatch z), keepA _ _ S.tb (notS _ _ S.tb fun _ _ _ z => nomatch z), ⟨[], by rw [upd_ne sne.symm, upd_same], Nat.zero_le _⟩, S.len, fun j b k hb hk => ?_, S.wf⟩
    obtain ⟨dk, o', g', y', kvs, e1, e2, e3, e4, e5⟩ := S.rows j b k hb hk
    refine ⟨dk, o', g', y', kvs, keepA _ _ e1 (fun z => ?_), keepT e2, keepT e3, keepA _ _ e4 (notS _ _ e4 fun _ _ _ z => nomatch z), e5⟩
    rw [z, S.st] at e1
    cases e1
  generalize upd (upd A' cc (.dT [])) s (.ins CS a.ds (sF a cc)) = A2 at f2 ag2 st2 fS4
  generalize upd (upd (upd (upd H' q (.tup [.str "make_kind", .ref vv])) cc (.dT [])) s (.ins CS a.ds (sF a cc))) p (.tup [.ref q, .ref ch]) = H2 at f2 sR2 fS4 ⊢
  have few := S.wf.few
  refine ⟨pl, _, _, rfl, rfl, sR2 _ _ ep, smallM (by simp at few; omega), ?_⟩
  have fR : Fp R H2 (upd R pl (.lst (xs ++ [.ref p]))) (upd H2 pl (.lst (xs ++ [.ref p]))) := .write sR2 ep id
  obtain ⟨f3, ag3, sA3⟩ := fR.right ag2 fS4.sub sR2
  refine ⟨_, rfl, q2 i gd _ _ (f1.trans (f2.trans f3)) ⟨_, _, s, rfl, st2, HA.nt.upd (fun _ z => nomatch z), ag3, dh, pl, fl, _, ?_, upd_same, by simp; omega, ?_, npf⟩⟩
  · rw [upd_ne (ne_of eh ep fun z => nomatch z)]; exact eh
  · rw [upd_ne npf.symm]; exact ef
theorem ok_hd (F : Fun K "do" "Hall.do" sHD f fd) (T : Tx K mg CH CS CK)
    (G : FnOk P w K mg base (L2.CX P w) 6 fHC dHC ["self", "word", "values"] (spHC K CH CS CK c)) (bG : Binds K dHC ["self", "word", "values"] []) (mG : Meth K CH "carry_out" fHC) :
    FnOk P w K mg base (L2.CX P w) 7 f fd ["self", "word", "values"] (spHC K CH CS CK c) := by
  refine F.okX scHD (fun vs H Q E h => ?_) (fun cdv A0 outer s0 H vs Q E hr h => ?_)
  · obtain ⟨A, h, vv, f, g, M, x, e, own, loose, rfl, _⟩ := h
    rfl
  obtain ⟨A, h, vv, fa, ga, M, x, e, own, loose, rfl, hv, ⟨As, R, s, rfl, HA⟩, sm, ask, q1, q2⟩ := h
  obtain ⟨dh, pl, fl, xs, eh, ep, hxl, ef, npf⟩ := HA.at_
  refine ⟨_, (pss_cons (ps_set (i := 3) scHD.nd rfl (.inl rfl) (pe_meth (pv 0) T.cH mG G hr bG .nil (passes_call (takes_of rfl rfl rfl rfl) (fun _ _ _ _ h => h)) (pa_cons (pv 1) (pa_cons (pv 2) pa_nil)))) (pss_cons (ps_expr (pe_bm0 PySem.F.plainAttrs_list PySem.F.slot_list_clear PySem.F.type_list_clear mt_clear (pe_fld (pv 0) rfl))) (pss_one (ps_ret (pv 3))))), ?_⟩
  refine ⟨_, rfl, h, dh, _, rfl, same_r HA.ag sm _ _ eh, by rfl, _, rfl, _, rfl, J As R, h, vv, fa, ga, M, x, e, own, loose, rfl, hv, ⟨As, R, s, rfl, HA⟩, sm, ask, q1, fun i gd A' H' fp ⟨As', R', s', eA, HA'⟩ => ?_⟩
  subst eA
  obtain ⟨dh', pl', fl', xs', eh', ep', hxl', ef', npf'⟩ := HA'.at_
  have sR' := same_r HA'.ag fp.sub
  have sA' := same_l fp.sub
  refine ⟨_, rfl, h, CH, dh', _, _, rfl, sR' _ _ eh', T.cH, T.aH _ (by decide +kernel), rfl, .inl ⟨rfl, _, SqL.of (sR' _ _ ef')⟩, fl', _, rfl, rfl, sR' _ _ ef', ?_⟩
  rw [upd_id (sR' _ _ ef')]
  exact ⟨_, rfl, q2 i gd _ _ fp ⟨As', R', s', rfl, HA'⟩⟩
theorem ok_hm (F : Fun K "make_kind" "Hall.make_kind" sHM f fd) (T : Tx K mg CH CS CK)
    (G : FnOk P w K mg base (L2.CX P w) 7 fHD dHD ["self", "word", "values"] (spHC K CH CS CK c)) (bG : Binds K dHD ["self", "word", "values"] []) (mG : Meth K CH "do" fHD) :
    FnOk P w K mg base (L2.CX P w) 8 f fd ["self", "name", "elder", "fields", "weak"] (spHM K CH CS CK c) := by
  refine F.okX scHM (fun vs H Q E h => ?_) (fun cdv A0 outer s0 H vs Q E hr h => ?_)
  · obtain ⟨A, h, f, g, M, x, e, own, loose, rfl, _⟩ := h
    rfl
  obtain ⟨A, h, fa, ga, M, x, e, own, loose, rfl, ⟨As, R, s, rfl, HA⟩, sm, ask, q1, q2⟩ := h
  obtain ⟨dh, pl, fl, xs, eh, ep, hxl, ef, npf⟩ := HA.at_
  refine ⟨_, (pss_one (ps_ret (pe_meth (pv 0) T.cH mG G hr bG .nil (passes_call (takes_of rfl rfl rfl rfl) (fun _ _ _ _ h => h)) (pa_cons pe_str (pa_cons (pe_tup (pa_cons (pv 1) (pa_cons (pv 2) (pa_cons (pv 3) (pa_cons (pv 4) pa_nil))))) pa_nil))))), ?_⟩
  refine ⟨_, rfl, h, dh, _, rfl, same_r HA.ag sm _ _ eh, by rfl, _, rfl, _, rfl, _, rfl, _, rfl, (by show 4 ≤ sizeLine; decide), fun p np => ?_⟩
  have n1 := same_new np (.tup [.str x, .str e, .ref fa, .ref ga])
  exact ⟨J As R, h, p, fa, ga, M, x, e, own, loose, rfl, SqT.of upd_same, ⟨As, R, s, rfl, HA⟩, sm.trans n1, ask.same n1, fun n y b d H1 s1 hd => q1 n y b d H1 (n1.trans s1) hd, fun i gd A' H' fp hl => q2 i gd A' H' ((Fp.same sm n1).trans fp) hl⟩
end
end B1

set_option maxRecDepth 100000
set_option maxHeartbeats 4000000
namespace B1
open PySem PySem.Spec PyProof.Rows L2
abbrev sHk : Stmt := cm 189 5
abbrev sHl : Stmt := cm 189 6
abbrev sHh : Stmt := cm 189 7
abbrev sHf : Stmt := cm 189 8
abbrev sHw : Stmt := cm 189 9
theorem scHk : FnScope ["self"] ["self"] (defScope sHk) := ⟨rfl, rfl, rfl, by decide +kernel, rfl, by decide +kernel, by decide +kernel⟩
theorem scHl : FnScope ["self", "kind"] ["self", "kind"] (defScope sHl) := ⟨rfl, rfl, rfl, by decide +kernel, rfl, by decide +kernel, by decide +kernel⟩
theorem scHh : FnScope ["self", "kind"] ["self", "kind"] (defScope sHh) := ⟨rfl, rfl, rfl, by decide +kernel, rfl, by decide +kernel, by decide +kernel⟩
theorem scHf : FnScope ["self", "kind"] ["self", "kind"] (defScope sHf) := ⟨rfl, rfl, rfl, by decide +kernel, rfl, by decide +kernel, by decide +kernel⟩
theorem scHw : FnScope ["self", "kind"] ["self", "kind"] (defScope sHw) := ⟨rfl, rfl, rfl, by decide +kernel, rfl, by decide +kernel, by decide +kernel⟩
def nmsOf (M : List Kd) (l : List Nat) : List Str := (l.filterMap fun (i : Nat) => M[i]?).map (·.name)
theorem nms_V (M : List Kd) (l : List Nat) : ((l.filterMap fun (i : Nat) => M[i]?).map fun k => V.str k.name) = (nmsOf M l).map V.str := by unfold nmsOf; rw [List.map_map]; rfl
theorem fm_range : ∀ M : List Kd, (List.range M.length).filterMap (fun (i : Nat) => M[i]?) = M
  | [] => rfl
  | k :: M => by
    rw [List.length_cons, List.range_succ_eq_map, List.filterMap_cons]
    simp only [List.getElem?_cons_zero]
    rw [List.filterMap_map]
    exact congrArg (k :: ·) (fm_range M)
theorem nms_all (M : List Kd) : nmsOf M (List.range M.length) = M.map (·.name) := by unfold nmsOf; rw [fm_range]
def spHI (K : PySem.W.Frag) (CH CS CK : Addr) : Sp := fun vs H Q _ => ∃ h dh : Addr, vs = [.ref h] ∧ H h = some (.ins CH dh []) ∧ ∀ (A' H' : Hp), Hal K CH CS CK A' h [kd0] → Same A' H' → (∀ b o, H b = some o → b ≠ h → H' b = some o) → (∀ b, A' b ≠ none → b = h ∨ H b = none) → Q .non H'
def spHk (K : PySem.W.Frag) (CH CS CK : Addr) : Sp := fun vs H Q _ => ∃ (A : Hp) (h : Addr) (M : List Kd), vs = [.ref h] ∧ Hal K CH CS CK A h M ∧ Same A H ∧ ∀ p H', Same H H' → H' p = some (.tup ((M.map (·.name)).map V.str)) → Q (.ref p) H'
/-- what is told of a kind -/
def spRd (K : PySem.W.Frag) (CH CS CK CN : Addr) (T : List Kd → Nat → List Nat → List Str) : Sp := fun vs H Q E => ∃ (A : Hp) (h : Addr) (M : List Kd) (x : Str), vs = [.ref h, .str x] ∧ Hal K CH CS CK A h M ∧ Same A H ∧
  (∀ i l, IsLine M (some i) l → (sel M (·.own) l.reverse).length ≤ 100000 ∧ (sel M Kd.weak l.reverse).length ≤ 100000) ∧
  (x ∉ M.map (·.name) → ∀ d, H d = none → E (.ref CN) (some d) (upd H d (.xd [("name", .str x)]))) ∧
  (∀ (i : Nat) (k : Kd) (l : List Nat), M[i]? = some k → k.name = x → IsLine M (some i) l → ∀ p H', Same H H' → H' p = some (.tup ((T M i l).map V.str)) → Q (.ref p) H')
section
variable {P : Program} {w : World} {K : PySem.W.Frag} {mg : Str → Option Value} {base : Heap} {f fSI fKs fLN fKN fHN fLS : Addr} {fd dSI dKs dLN dKN dHN dLS : FuncData} {CH CS CK CN : Addr}
theorem ok_hi (F : Fun K "__init__" "Hall.__init__" sHI f fd) (T : Tx K mg CH CS CK) (M : Mk K CS fSI) (G : FnOk P w K mg base CX0 3 fSI dSI ["self"] (spSI K CS CK)) (bG : Binds K dSI ["self"] []) :
    FnOk P w K mg base CX0 5 f fd ["self"] (spHI K CH CS CK) := by
  refine F.ok scHI (fun vs H Q E h => ?_) (fun cdv A0 outer s0 H vs Q E hr h => ?_)
  · obtain ⟨h, dh, rfl, _⟩ := h
    rfl
  obtain ⟨h, dh, rfl, hh, q⟩ := h
  refine ⟨_, (pss_cons (ps_fld (pv 0) (pe_make0 M G hr rfl T.mS bG .nil pass0) rfl) (pss_cons (ps_fld (pv 0) (pe_lst pa_nil) rfl) (pss_one (ps_fld (pv 0) (pe_lst pa_nil) rfl)))), ?_⟩
  refine fun s ds ns nds nsd => ⟨s, ds, rfl, upd_same, fun As H1 sto sA kp dom => ⟨rfl, ?_⟩⟩
  have nhs : h ≠ s := ne_of_none hh ns
  have nhd : h ≠ ds := ne_of_none hh nds
  have hh1 : H1 h = some (.ins CH dh []) := kp h _ (by rw [upd_ne nhs, upd_ne nhd]; exact hh) nhs
  have kp1 : ∀ b o, H b = some o → H1 b = some o := fun b o e => kp b o (by rw [upd_ne (ne_of_none e ns), upd_ne (ne_of_none e nds)]; exact e) (ne_of_none e ns)
  have Ah : As h = none := by
    cases e : As h with
    | none => rfl
    | some u =>
      rcases dom h (by rw [e]; exact fun z => nomatch z) with z | z
      · exact absurd z nhs
      · rw [upd_ne nhs, upd_ne nhd, hh] at z; cases z
  have B0 := Bd.start hh1
  have hsn : ∀ {H' : Hp} {o : HO}, H' h = some o → (H1 h ≠ none → H' h ≠ none) := fun {H' o} e _ z => by rw [e] at z; cases z
  refine ⟨_, rfl, h, CH, dh, _, rfl, hh1, T.cH, T.aH _ (by decide +kernel), (by show 0 < 1000; decide), ?_⟩
  have B1 := B0.put 0 (.ins CH dh (putF "store" (.ref s) []))
  refine ⟨(by show 0 ≤ sizeLine; decide), fun pl npl => ?_⟩
  have B2 := B1.new npl (hsn (B1.get 0)) (.lst [])
  refine ⟨_, rfl, h, CH, dh, _, rfl, B2.get 1, T.cH, T.aH _ (by decide +kernel), (by show 1 < 1000; decide), ?_⟩
  have B3 := B2.put 1 (.ins CH dh (putF "past" (.ref pl) (putF "store" (.ref s) [])))
  refine ⟨(by show 0 ≤ sizeLine; decide), fun fl nfl => ?_⟩
  have B4 := B3.new nfl (hsn (B3.get 1)) (.lst [])
  refine ⟨_, rfl, h, CH, dh, _, rfl, B4.get 2, T.cH, T.aH _ (by decide +kernel), (by show 2 < 1000; decide), ?_⟩
  have B5 := B4.put 2 (.ins CH dh [("store", .ref s), ("past", .ref pl), ("future", .ref fl)])
  have sA5 : ∀ {Hf : Hp}, (∀ b u, H1 b = some u → b ≠ h → Hf b = some u) → Same As Hf := fun {Hf} k b o e => k b o (sA _ _ e) (fun z => by rw [z, Ah] at e; cases e)
  have nd5 := B5.nd
  refine q (J As (only [fl, pl, h] _)) _ ⟨As, only [fl, pl, h] _, s, rfl, sto, B5.noT rfl, fun b o u e1 e2 => ?_, dh, pl, fl, [], B5.part 2, B5.part 1, Nat.zero_le _, B5.part 0, ?_⟩ (J_same (sA5 B5.keep) only_sub) (fun b o e ne => B5.keep b o (kp1 b o e) ne) (fun b hb => ?_)
  · exfalso
    obtain ⟨hm, _⟩ := only_mem e2
    have hH := sA _ _ e1
    obtain ⟨p, hp, rfl⟩ := List.mem_map.mp (show b ∈ ([(fl, HO.lst []), (pl, HO.lst []), (h, HO.ins CH dh [("store", .ref s), ("past", .ref pl), ("future", .ref fl)])].map (·.1)) from hm)
    rcases B5.fresh p hp with z | z
    · rw [z, Ah] at e1; cases e1
    · rw [z] at hH; cases hH
  · intro z
    rw [z] at nd5
    simp at nd5
  · cases e : J As (only [fl, pl, h] _) b with
    | none => exact absurd e hb
    | some o =>
      cases e1 : As b with
      | some u =>
        rcases dom b (by rw [e1]; exact fun z => nomatch z) with z | z
        · subst z; exact .inr ns
        · right
          cases e2 : H b with
          | none => rfl
          | some v => rw [upd_ne (ne_of_none e2 ns), upd_ne (ne_of_none e2 nds), e2] at z; cases z
      | none =>
        unfold J at e
        rw [e1] at e
        obtain ⟨hm, _⟩ := only_mem e
        obtain ⟨p, hp, rfl⟩ := List.mem_map.mp (show b ∈ ([(fl, HO.lst []), (pl, HO.lst []), (h, HO.ins CH dh [("store", .ref s), ("past", .ref pl), ("future", .ref fl)])].map (·.1)) from hm)
        rcases B5.fresh p hp with z | z
        · exact .inl z
        · right
          cases e2 : H p.1 with
          | none => rfl
          | some v => rw [kp1 _ _ e2] at z; cases z
theorem ok_hk (F : Fun K "kinds" "Hall.kinds" sHk f fd) (T : Tx K mg CH CS CK) (G : FnOk P w K mg base CX0 1 fKs dKs ["store", "numbers"] (spKNs K CS CK)) (bG : Binds K dKs ["store", "numbers"] []) (kG : PySem.W.keepIn K (.ref fKs) = true) (mG : mg "kind_names" = some (.ref fKs)) :
    FnOk P w K mg base CX0 2 f fd ["self"] (spHk K CH CS CK) := by
  refine F.ok scHk (fun vs H Q E h => ?_) (fun cdv A0 outer s0 H vs Q E hr h => ?_)
  · obtain ⟨A, h, M, rfl, _⟩ := h
    rfl
  obtain ⟨A, h, M, rfl, ⟨As, R, s, rfl, HA⟩, sm, q⟩ := h
  obtain ⟨dh, pl, fl, xs, eh, ep, hxl, ef, npf⟩ := HA.at_
  have sA := same_l sm
  have sR := same_r HA.ag sm
  obtain ⟨nt, a, ch, ks, S⟩ := HA.st
  have B := T.B
  refine ⟨_, (pss_one (ps_ret (pe_call G hr rfl mG kG bG .nil pass0 (pa_cons (pe_fld (pv 0) rfl) (pa_cons (pe_callB (call_sortedDI rfl) rfl B.sorted bt_sorted (pa_cons (pe_fld (pe_fld (pv 0) rfl) rfl) pa_nil)) pa_nil))))), ?_⟩
  have hst : ∀ {Hx : Hp}, Same H Hx → Hx h = some (.ins CH dh [("store", .ref s), ("past", .ref pl), ("future", .ref fl)]) := fun e => e _ _ (sR _ _ eh)
  refine ⟨_, rfl, h, CH, dh, _, _, rfl, hst (Same.refl H), T.cH, T.aH _ (by decide +kernel), rfl, _, rfl, h, CH, dh, _, _, rfl, hst (Same.refl H), T.cH, T.aH _ (by decide +kernel), rfl, s, CS, a.ds, _, _, rfl, sA _ _ S.st, T.cS, T.aS _ (by decide +kernel), rfl, a.kr, _, rI M.length, rfl, .inl (sA _ _ S.kr), ?_, ?_, fun ys p hp hsrt np => ?_⟩
  · rw [zip_fst (by rw [ik_len, List.length_map, S.len]), ik_rI]
  · have := S.wf.few
    unfold rI; rw [List.length_map, List.length_range]; omega
  have ey := sorted_eq hp hsrt (rI_sorted _)
  subst ey
  have n1 := same_new np (.lst ((rI M.length).map V.int))
  refine ⟨As, s, p, M, List.range M.length, rfl, HA.st, sA.trans n1, by rw [upd_same, rI_V], fun i hi => List.mem_range.mp hi, by rw [List.length_range]; have := S.wf.few; omega, fun t H' s1 ht => q t H' (n1.trans s1) ?_⟩
  rw [ht, nms_V, nms_all]
/-- the common way of line, heirs, fields_of and weak_of -/
theorem rd_go {Tl : List Kd → Nat → List Nat → List Str} {H : Hp} {Q : VK} {E : XK} {vs : List V} (h : spRd K CH CS CK CN Tl vs H Q E) (T : Tx K mg CH CS CK) :
    ∃ (As : Hp) (h s dh : Addr) (fs : List (Str × V)) (M : List Kd) (x : Str), vs = [.ref h, .str x] ∧ H h = some (.ins CH dh fs) ∧ fs.lookup (Str.ofString "store") = some (V.ref s) ∧ Sto K CS CK As s M ∧ Same As H ∧ Wf M ∧ (∀ i l, IsLine M (some i) l → (sel M (·.own) l.reverse).length ≤ 100000 ∧ (sel M Kd.weak l.reverse).length ≤ 100000) ∧
      (x ∉ M.map (·.name) → ∀ d, H d = none → E (.ref CN) (some d) (upd H d (.xd [("name", .str x)]))) ∧ (∀ (i : Nat) (k : Kd) (l : List Nat), M[i]? = some k → k.name = x → IsLine M (some i) l → ∀ p H', Same H H' → H' p = some (.tup ((Tl M i l).map V.str)) → Q (.ref p) H') := by
  obtain ⟨A, h, M, x, rfl, ⟨As, R, s, rfl, HA⟩, sm, hb, q1, q2⟩ := h
  obtain ⟨dh, pl, fl, xs, eh, ep, hxl, ef, npf⟩ := HA.at_
  obtain ⟨nt, a, ch, ks, S⟩ := HA.st
  exact ⟨As, h, s, dh, _, M, x, rfl, same_r HA.ag sm _ _ eh, rfl, HA.st, same_l sm, S.wf, hb, q1, q2⟩
theorem ok_hl (F : Fun K "line" "Hall.line" sHl f fd) (T : Tx K mg CH CS CK)
    (GK : FnOk P w K mg base (L2.CX P w) 3 fKN dKN ["store", "name"] (spKN K CS CK CN)) (bK : Binds K dKN ["store", "name"] []) (kK : PySem.W.keepIn K (.ref fKN) = true) (mK : mg "kind_number" = some (.ref fKN))
    (GL : FnOk P w K mg base CX0 1 fLN dLN ["store", "number"] (spLN K CS CK)) (bL : Binds K dLN ["store", "number"] []) (kL : PySem.W.keepIn K (.ref fLN) = true) (mL : mg "line_numbers" = some (.ref fLN))
    (GN : FnOk P w K mg base CX0 1 fKs dKs ["store", "numbers"] (spKNs K CS CK)) (bN : Binds K dKs ["store", "numbers"] []) (kN : PySem.W.keepIn K (.ref fKs) = true) (mN : mg "kind_names" = some (.ref fKs)) :
    FnOk P w K mg base (L2.CX P w) 4 f fd ["self", "kind"] (spRd K CH CS CK CN fun M i l => nmsOf M l) := by
  refine F.okX scHl (fun vs H Q E h => ?_) (fun cdv A0 outer s0 H vs Q E hr h => ?_)
  · obtain ⟨A, h, M, x, rfl, _⟩ := h
    rfl
  obtain ⟨As, ha, s, dh, fs, M, x, rfl, hh, hs, st, sA, wf, hb, q1, q2⟩ := rd_go h T
  have h1 := hr.mono (show 1 ≤ 3 by decide)
  refine ⟨_, (pss_one (ps_ret (pe_call GN h1 rfl mN kN bN .nil pass0 (pa_cons (pe_fld (pv 0) rfl) (pa_cons (pe_call GL h1 rfl mL kL bL .nil pass0 (pa_cons (pe_fld (pv 0) rfl) (pa_cons (pe_call GK hr rfl mK kK bK .nil (passes_call (takes_of rfl rfl rfl rfl) (fun _ _ _ _ h => h)) (pa_cons (pe_fld (pv 0) rfl) (pa_cons (pv 1) pa_nil))) pa_nil))) pa_nil))))), ?_⟩
  refine ⟨_, rfl, ha, CH, dh, _, _, rfl, hh, T.cH, T.aH _ (by decide +kernel), hs, _, rfl, ha, CH, dh, _, _, rfl, hh, T.cH, T.aH _ (by decide +kernel), hs, _, rfl, ha, CH, dh, _, _, rfl, hh, T.cH, T.aH _ (by decide +kernel), hs, _, rfl, As, s, M, x, rfl, st, sA, fun i k hi hk => ?_, q1⟩
  obtain ⟨l, hL, hll⟩ := IsLine.ex wf i i (Nat.le_refl _) (List.getElem?_eq_some_iff.mp hi).1
  have few := wf.few
  have hil := (List.getElem?_eq_some_iff.mp hi).1
  refine ⟨As, s, M, some i, l, rfl, st, sA, hL, by omega, fun p H1 s1 hp => ⟨As, s, p, M, l, rfl, st, sA.trans s1, hp, isLine_lt hL, by omega, fun t H2 s2 ht => q2 i k l hi hk hL t H2 (s1.trans s2) ?_⟩⟩
  rw [ht, nms_V]
theorem ok_hh (F : Fun K "heirs" "Hall.heirs" sHh f fd) (T : Tx K mg CH CS CK)
    (GK : FnOk P w K mg base (L2.CX P w) 3 fKN dKN ["store", "name"] (spKN K CS CK CN)) (bK : Binds K dKN ["store", "name"] []) (kK : PySem.W.keepIn K (.ref fKN) = true) (mK : mg "kind_number" = some (.ref fKN))
    (GL : FnOk P w K mg base CX0 2 fHN dHN ["store", "number"] (spHN K CS CK)) (bL : Binds K dHN ["store", "number"] []) (kL : PySem.W.keepIn K (.ref fHN) = true) (mL : mg "heir_numbers" = some (.ref fHN))
    (GN : FnOk P w K mg base CX0 1 fKs dKs ["store", "numbers"] (spKNs K CS CK)) (bN : Binds K dKs ["store", "numbers"] []) (kN : PySem.W.keepIn K (.ref fKs) = true) (mN : mg "kind_names" = some (.ref fKs)) :
    FnOk P w K mg base (L2.CX P w) 4 f fd ["self", "kind"] (spRd K CH CS CK CN fun M i l => nmsOf M (hs M M.length (some i))) := by
  refine F.okX scHh (fun vs H Q E h => ?_) (fun cdv A0 outer s0 H vs Q E hr h => ?_)
  · obtain ⟨A, h, M, x, rfl, _⟩ := h
    rfl
  obtain ⟨As, ha, s, dh, fs, M, x, rfl, hh, hs', st, sA, wf, hb, q1, q2⟩ := rd_go h T
  have h1 := hr.mono (show 1 ≤ 3 by decide)
  have h2 := hr.mono (show 2 ≤ 3 by decide)
  refine ⟨_, (pss_one (ps_ret (pe_call GN h1 rfl mN kN bN .nil pass0 (pa_cons (pe_fld (pv 0) rfl) (pa_cons (pe_call GL h2 rfl mL kL bL .nil pass0 (pa_cons (pe_fld (pv 0) rfl) (pa_cons (pe_call GK hr rfl mK kK bK .nil (passes_call (takes_of rfl rfl rfl rfl) (fun _ _ _ _ h => h)) (pa_cons (pe_fld (pv 0) rfl) (pa_cons (pv 1) pa_nil))) pa_nil))) pa_nil))))), ?_⟩
  refine ⟨_, rfl, ha, CH, dh, _, _, rfl, hh, T.cH, T.aH _ (by decide +kernel), hs', _, rfl, ha, CH, dh, _, _, rfl, hh, T.cH, T.aH _ (by decide +kernel), hs', _, rfl, ha, CH, dh, _, _, rfl, hh, T.cH, T.aH _ (by decide +kernel), hs', _, rfl, As, s, M, x, rfl, st, sA, fun i k hi hk => ?_, q1⟩
  obtain ⟨l, hL, hll⟩ := IsLine.ex wf i i (Nat.le_refl _) (List.getElem?_eq_some_iff.mp hi).1
  have few := wf.few
  refine ⟨As, s, M, i, rfl, st, sA, fun p H1 s1 hp => ⟨As, s, p, M, hs M M.length (some i), rfl, st, sA.trans s1, hp, fun j hj => List.mem_range.mp (List.mem_filter.mp hj).1, ?_, fun t H2 s2 ht => q2 i k l hi hk hL t H2 (s1.trans s2) ?_⟩⟩
  · have := List.length_filter_le (fun (j : Nat) => decide ((M[j]?).map (·.elder) = some (some i))) (List.range M.length)
    rw [List.length_range] at this
    unfold hs; omega
  · rw [ht, nms_V]
theorem ok_hf {g : Kd → List Str} {nm qual : Str} {st : Stmt} (F : Fun K nm qual st f fd) (sc : FnScope ["self", "kind"] ["self", "kind"] (defScope st)) (T : Tx K mg CH CS CK)
    (hg : ∀ M l, (sel M (·.own) l).length ≤ 100000 ∧ (sel M Kd.weak l).length ≤ 100000 → (sel M g l).length ≤ 100000)
    (hbd : ∀ (cdv : Value) (A0 : Around) (outer : List Env) (s0 : Shared) (H : Hp) (E : XK), Room 3 (A0.deeper (envOfC qual (defScope st) s0.heap.objs.size f cdv)) → PSs (cxOf (L2.CX P w) P w K mg base ["self", "kind"] qual (defScope st) f cdv A0 outer s0 H E) (defBody st)
      (tRet (tCB (fun xs H Q => ∃ p ys, xs = [.ref p] ∧ ((SqL K H p ys ∧ ∀ l, H l = none → Q (.ref l) (upd H l (.tup ys))) ∨ (SqT K H p ys ∧ Q (.ref p) H))) (tCons (tCall (spLS K CS CK g) [] C8.E0 (tCons (tFld K (tVar 0) "store") (tCons (tCall (spKN K CS CK CN) [] E (tCons (tFld K (tVar 0) "store") (tCons (tVar 1) tNil))) tNil))) tNil)))) :
    FnOk P w K mg base (L2.CX P w) 4 f fd ["self", "kind"] (spRd K CH CS CK CN fun M i l => sel M g l.reverse) := by
  refine F.okX sc (fun vs H Q E h => ?_) (fun cdv A0 outer s0 H vs Q E hr h => ?_)
  · obtain ⟨A, h, M, x, rfl, _⟩ := h
    rfl
  obtain ⟨As, ha, s, dh, fs, M, x, rfl, hh, hs', st, sA, wf, hb, q1, q2⟩ := rd_go h T
  refine ⟨_, hbd cdv A0 outer s0 H E hr, ?_⟩
  refine ⟨_, rfl, ha, CH, dh, _, _, rfl, hh, T.cH, T.aH _ (by decide +kernel), hs', _, rfl, ha, CH, dh, _, _, rfl, hh, T.cH, T.aH _ (by decide +kernel), hs', _, rfl, As, s, M, x, rfl, st, sA, fun i k hi hk => ?_, q1⟩
  obtain ⟨l, hL, hll⟩ := IsLine.ex wf i i (Nat.le_refl _) (List.getElem?_eq_some_iff.mp hi).1
  have few := wf.few
  have hil := (List.getElem?_eq_some_iff.mp hi).1
  exact ⟨As, s, M, some i, l, rfl, st, sA, hL, by omega, hg M l.reverse (hb i l hL), fun p H1 s1 np hp => ⟨p, _, rfl, .inl ⟨SqL.of hp, fun t nt => q2 i k l hi hk hL t _ (s1.trans (same_new nt _)) upd_same⟩⟩⟩
theorem ok_hfo (F : Fun K "fields_of" "Hall.fields_of" sHf f fd) (T : Tx K mg CH CS CK)
    (GK : FnOk P w K mg base (L2.CX P w) 3 fKN dKN ["store", "name"] (spKN K CS CK CN)) (bK : Binds K dKN ["store", "name"] []) (kK : PySem.W.keepIn K (.ref fKN) = true) (mK : mg "kind_number" = some (.ref fKN))
    (GL : FnOk P w K mg base CX0 2 fLS dLS ["store", "number"] (spLS K CS CK (·.own))) (bL : Binds K dLS ["store", "number"] []) (kL : PySem.W.keepIn K (.ref fLS) = true) (mL : mg "line_fields" = some (.ref fLS)) :
    FnOk P w K mg base (L2.CX P w) 4 f fd ["self", "kind"] (spRd K CH CS CK CN fun M i l => sel M (·.own) l.reverse) := by
  refine ok_hf F scHf T (fun M l h => h.1) fun cdv A0 outer s0 H E hr => ?_
  have h2 := hr.mono (show 2 ≤ 3 by decide)
  have B := T.B
  exact (pss_one (ps_ret (pe_callTy call_tuple_of rfl B.tuple bt_tuple (pa_cons (pe_call GL h2 rfl mL kL bL .nil pass0 (pa_cons (pe_fld (pv 0) rfl) (pa_cons (pe_call GK hr rfl mK kK bK .nil (passes_call (takes_of rfl rfl rfl rfl) (fun _ _ _ _ h => h)) (pa_cons (pe_fld (pv 0) rfl) (pa_cons (pv 1) pa_nil))) pa_nil))) pa_nil))))
theorem ok_hwo (F : Fun K "weak_of" "Hall.weak_of" sHw f fd) (T : Tx K mg CH CS CK)
    (GK : FnOk P w K mg base (L2.CX P w) 3 fKN dKN ["store", "name"] (spKN K CS CK CN)) (bK : Binds K dKN ["store", "name"] []) (kK : PySem.W.keepIn K (.ref fKN) = true) (mK : mg "kind_number" = some (.ref fKN))
    (GL : FnOk P w K mg base CX0 2 fLS dLS ["store", "number"] (spLS K CS CK Kd.weak)) (bL : Binds K dLS ["store", "number"] []) (kL : PySem.W.keepIn K (.ref fLS) = true) (mL : mg "line_weak" = some (.ref fLS)) :
    FnOk P w K mg base (L2.CX P w) 4 f fd ["self", "kind"] (spRd K CH CS CK CN fun M i l => sel M Kd.weak l.reverse) := by
  refine ok_hf F scHw T (fun M l h => h.2) fun cdv A0 outer s0 H E hr => ?_
  have h2 := hr.mono (show 2 ≤ 3 by decide)
  have B := T.B
  exact (pss_one (ps_ret (pe_callTy call_tuple_of rfl B.tuple bt_tuple (pa_cons (pe_call GL h2 rfl mL kL bL .nil pass0 (pa_cons (pe_fld (pv 0) rfl) (pa_cons (pe_call GK hr rfl mK kK bK .nil (passes_call (takes_of rfl rfl rfl rfl) (fun _ _ _ _ h => h)) (pa_cons (pe_fld (pv 0) rfl) (pa_cons (pv 1) pa_nil))) pa_nil))) pa_nil))))
end
end B1

set_option maxRecDepth 100000
set_option maxHeartbeats 4000000
namespace B1
open PySem PySem.Spec PyProof.Rows L2
theorem nd_snoc' : True := trivial
theorem nodup_sub {α : Type} [DecidableEq α] : ∀ (l U : List α), l.Nodup → (∀ x ∈ l, x ∈ U) → l.length ≤ U.length
  | [], _, _, _ => Nat.zero_le _
  | x :: l, U, nd, h => by
    have hx := h x List.mem_cons_self
    obtain ⟨n1, n2⟩ := List.nodup_cons.mp nd
    have := nodup_sub l (U.erase x) n2 fun y hy => (List.mem_erase_of_ne (fun (e : y = x) => n1 (e ▸ hy))).mpr (h y (List.mem_cons_of_mem _ hy))
    rw [List.length_erase_of_mem hx] at this
    have : 0 < U.length := List.length_pos_of_mem hx
    simp only [List.length_cons]
    omega
/-! ### what was drawn so far -/
structure RestOk (kvs : List (L2.Key × V)) : Prop where
  nd : (kvs.map (·.1)).Nodup
  key : ∀ kv ∈ kvs, (∃ j : Nat, j < 64 ∧ kv.1 = .inl (j : Int)) ∧ ∃ z : Int, kv.2 = .int z
def keys64 : List L2.Key := (List.range 64).map fun (j : Nat) => (.inl (j : Int) : L2.Key)
theorem RestOk.len {kvs : List (L2.Key × V)} (R : RestOk kvs) : kvs.length ≤ 64 := by
  have := nodup_sub (kvs.map (·.1)) keys64 R.nd fun k hk => by
    obtain ⟨kv, h1, rfl⟩ := List.mem_map.mp hk
    obtain ⟨⟨j, hj, e⟩, _⟩ := R.key kv h1
    exact List.mem_map.mpr ⟨j, List.mem_range.mpr hj, e.symm⟩
  simpa [keys64] using this
theorem RestOk.put {kvs : List (L2.Key × V)} (R : RestOk kvs) {j : Nat} (hj : j < 64) (z : Int) : RestOk (putK kvs (.inl (j : Int)) (.int z)) := by
  unfold putK
  split
  · refine ⟨?_, fun kv h => ?_⟩
    · rw [List.map_map]
      have : (kvs.map ((·.1) ∘ fun kv : Key × V => if kv.1 = .inl (j : Int) then (kv.1, V.int z) else kv)) = kvs.map (·.1) := List.map_congr_left fun kv _ => by
        show (if kv.1 = .inl (j : Int) then (kv.1, V.int z) else kv).1 = kv.1
        split <;> rfl
      rw [this]
      exact R.nd
    · obtain ⟨kv0, h1, rfl⟩ := List.mem_map.mp h
      split
      · exact ⟨(R.key kv0 h1).1, z, rfl⟩
      · exact R.key kv0 h1
  · rename_i hn
    refine ⟨?_, fun kv h => ?_⟩
    · rw [List.map_append]
      refine nd_snoc R.nd fun h => hn ?_
      obtain ⟨kv0, h1, h2⟩ := List.mem_map.mp h
      exact List.any_eq_true.mpr ⟨kv0, h1, decide_eq_true h2⟩
    · rcases List.mem_append.mp h with h | h
      · exact R.key kv h
      · rw [List.mem_singleton.mp h]; exact ⟨⟨j, hj, rfl⟩, z, rfl⟩
theorem RestOk.val {kvs : List (L2.Key × V)} (R : RestOk kvs) (k : L2.Key) (z : Int) : ∃ y : Int, (valV kvs k).getD (.int z) = .int y := by
  unfold valV
  cases q : kvs.find? fun kv => decide (kv.1 = k) with
  | none => exact ⟨z, rfl⟩
  | some kv =>
    obtain ⟨y, hy⟩ := (R.key kv (List.mem_of_find?_eq_some q)).2
    exact ⟨y, hy⟩
def townD (c : Int) (r : Addr) : List (L2.Key × V) := [(.inr "count", .int c), (.inr "rests", .ref r)]
theorem cnt_ne : (Sum.inr (Str.ofString "count") : L2.Key) ≠ .inr (Str.ofString "rests") := by decide +kernel
theorem townD_c (c : Int) (r : Addr) : valV (townD c r) (.inr "count") = some (.int c) := valV_pos rfl
theorem townD_r (c : Int) (r : Addr) : valV (townD c r) (.inr "rests") = some (.ref r) := by
  unfold townD valV
  rw [List.find?_cons, decide_eq_false cnt_ne, List.find?_cons, decide_eq_true rfl]
  rfl
theorem townD_put (c c' : Int) (r : Addr) : putK (townD c r) (.inr "count") (.int c') = townD c' r := by
  unfold townD putK
  rw [if_pos (by rw [List.any_cons, decide_eq_true rfl]; rfl), List.map_cons, List.map_cons, List.map_nil, if_pos rfl, if_neg cnt_ne.symm]
/-- the script and what was drawn of it -/
structure TwS (K : PySem.W.Frag) (A : Hp) (a t : Addr) : Prop where
  nt : NoT A
  town : ∃ (c : Int) (r : Addr) (kvs : List (L2.Key × V)), A t = some (.dK (townD c r)) ∧ A r = some (.dK kvs) ∧ t ≠ r ∧ RestOk kvs
  scr : ∃ ns : List Int, SqL K A a (ns.map V.int) ∧ ns.length ≤ 63
theorem sql_upd {K : PySem.W.Frag} {A : Hp} {a t : Addr} {xs : List V} {kvs : List (L2.Key × V)} {o : HO} (h : SqL K A a xs) (ht : A t = some (.dK kvs)) : SqL K (upd A t o) a xs := by
  rcases h with (h | ⟨u, h⟩) | h
  · exact .inl (.inl (by rw [upd_ne (ne_of h ht fun z => nomatch z)]; exact h))
  · exact .inl (.inr ⟨u, by rw [upd_ne (ne_of h ht fun z => nomatch z)]; exact h⟩)
  · exact .inr h
abbrev sDraw : Stmt := top 191
abbrev sBegun : Stmt := top 192
theorem scDraw : FnScope ["_law_script", "_law_town", "_law_many", "_law_at", "_law_rest", "_law_number"] ["_law_script", "_law_town", "_law_many"] (defScope sDraw) := ⟨rfl, rfl, rfl, by decide +kernel, rfl, by decide +kernel, by decide +kernel⟩
theorem scBegun : FnScope [] [] (defScope sBegun) := ⟨rfl, rfl, rfl, by decide +kernel, rfl, by decide +kernel, by decide +kernel⟩
def spDraw (K : PySem.W.Frag) : Sp := fun vs H Q _ => ∃ (A : Hp) (a t : Addr) (m : Int), vs = [.ref a, .ref t, .int m] ∧ TwS K A a t ∧ Same A H ∧ 0 < m ∧ m < 1000000 ∧ ∀ (i : Int) (A' H' : Hp), 0 ≤ i → i < m → Fp A H A' H' → TwS K A' a t → Q (.int i) H'
def spBegun : Sp := fun vs H Q _ => vs = [] ∧ ∀ (t r : Addr) (H' : Hp), Same H H' → H t = none → H r = none → t ≠ r → H' t = some (.dK (townD 0 r)) → H' r = some (.dK []) → Q (.ref t) H'
section
variable {P : Program} {w : World} {K : PySem.W.Frag} {mg : Str → Option Value} {base : Heap} {f : Addr} {fd : FuncData}
theorem ok_draw (F : Fun K "_law_draw" "_law_draw" sDraw f fd) (B : Bl mg) : FnOk P w K mg base CX0 1 f fd ["_law_script", "_law_town", "_law_many"] (spDraw K) := by
  refine F.ok scDraw (fun vs H Q E h => ?_) (fun cdv A outer s H vs Q E hr h => ?_)
  · obtain ⟨A, a, t, m, rfl, _⟩ := h
    rfl
  obtain ⟨A, a, t, m, rfl, ⟨ntA, ⟨c, r, kvs, htA, hrA, ntr, R⟩, ⟨ns, hSA, h63⟩⟩, sA, m0, m1, q⟩ := h
  have ht := sA _ _ htA
  have hrr := sA _ _ hrA
  have hu := hu_of hr
  refine ⟨_, pss_cons (ps_dput hu (pv 1) pe_str (pe_op op_add (pe_dget hu (pv 1) pe_str (fun _ _ => rfl)) pe_int) rfl)
    (pss_cons (ps_set (i := 3) scDraw.nd rfl (.inl rfl) (pe_ifExp (pt_truth (pv 0) (by intro _; rfl)) (pe_op op_mod (pe_dget hu (pv 1) pe_str (fun _ _ => rfl)) (pe_callB call_len_seq rfl B.len bt_len (pa_cons (pv 0) pa_nil))) pe_int))
    (pss_cons (ps_set (i := 4) scDraw.nd rfl (.inl rfl) (pe_dget2 hu (pe_dget hu (pv 1) pe_str (fun _ _ => rfl)) (pv 3) (pe_ifExp (pt_truth (pv 0) (by intro _; rfl)) (pe_ix ix_list (pv 0) (pv 3) (fun _ _ => rfl)) pe_int) ⟨rfl, rfl, rfl, rfl⟩))
    (pss_cons (ps_if (pt_cmpR op_ge (pv 4) (pe_op op_pow pe_int pe_int) (nomark _))
      (pss_cons (ps_dput hu (pe_dget hu (pv 1) pe_str (fun _ _ => rfl)) (pv 3) (pe_op op_fdiv (pv 4) (pv 2)) rfl) (pss_one (ps_ret (pe_op op_mod (pv 4) (pv 2))))) pss_nil)
    (pss_cons (ps_set (i := 5) scDraw.nd rfl (.inl rfl) (pe_op op_mod (pe_op op_add (pv 4) (pe_op op_mul pe_int (pe_dget hu (pv 1) pe_str (fun _ _ => rfl)))) pe_int))
    (pss_cons (ps_set (i := 5) scDraw.nd rfl (.inl rfl) (pe_op op_mod (pe_op op_pow (pv 5) pe_int) pe_int))
    (pss_one (ps_ret (pe_op op_mod (pe_op op_fdiv (pe_op op_mod (pe_op op_add (pe_op op_mul (pe_op op_fdiv (pv 5) pe_int) pe_int) (pv 5)) pe_int) pe_int) (pv 2))))))))), ?_⟩
  have G : ∀ (H' : Hp) (c' : Int), H' t = some (.dK (townD c' r)) → DGet H' t (.str "count") (some (.int c')) := fun H' c' e => by
    have := DGet.k (k := .inr "count") e
    rw [townD_c] at this
    exact this
  have GR : ∀ (H' : Hp) (c' : Int), H' t = some (.dK (townD c' r)) → DGet H' t (.str "rests") (some (.ref r)) := fun H' c' e => by
    have := DGet.k (k := .inr "rests") e
    rw [townD_r] at this
    exact this
  have put := DPut.k (k := .inr "count") (v := .int (c + 1)) ht (by show 2 < sizeLine; decide)
  rw [townD_put] at put
  -- town['count'] = town['count'] + 1
  refine ⟨_, rfl, t, _, rfl, G H c ht, _, _, rfl, rfl, _, rfl, t, _, rfl, put, ?_⟩
  have f1 : Fp A H (upd A t (.dK (townD (c + 1) r))) (upd H t (.dK (townD (c + 1) r))) := .write sA htA id
  have hS1A : SqL K (upd A t (.dK (townD (c + 1) r))) a (ns.map V.int) := sql_upd hSA htA
  have hS1 := same_sqL f1.sub hS1A
  have ht1A : (upd A t (.dK (townD (c + 1) r))) t = some (.dK (townD (c + 1) r)) := upd_same
  have hr1A : (upd A t (.dK (townD (c + 1) r))) r = some (.dK kvs) := by rw [upd_ne ntr.symm]; exact hrA
  have nt1 : NoT (upd A t (.dK (townD (c + 1) r))) := ntA.upd fun _ z => nomatch z
  generalize upd A t (.dK (townD (c + 1) r)) = A1 at f1 hS1A ht1A hr1A nt1
  have ht1 : (upd H t (.dK (townD (c + 1) r))) t = some (.dK (townD (c + 1) r)) := upd_same
  have hr1 : (upd H t (.dK (townD (c + 1) r))) r = some (.dK kvs) := by rw [upd_ne ntr.symm]; exact hrr
  generalize upd H t (.dK (townD (c + 1) r)) = H1 at f1 ht1 hr1 hS1 ⊢
  -- at
  refine ⟨_, rfl, (!(ns.map V.int).isEmpty), .inl ⟨_, hS1, rfl⟩, ?_⟩
  have atOk : ∃ j : Nat, j < 64 ∧ (∀ (Q1 : V → Hp → Prop), Q1 (.int (j : Int)) H1 → if (!(ns.map V.int).isEmpty) = true then tOp (L2.rI (fun _ j => 0 < j) fun i j => .int (i % j)) (tDGet (tVar 1) (tC (.str "count"))) (tCB (fun xs H Q => ∃ p ys, xs = [V.ref p] ∧ (SqL K H p ys ∨ SqT K H p ys) ∧ Q (.int (ys.length : Nat)) H) (tCons (tVar 0) tNil)) [some (.ref a), some (.ref t), some (.int m), none, none, none] H1 Q1 else Q1 (.int 0) H1) ∧ (ns ≠ [] → j < ns.length) ∧ (ns = [] → j = 0) := by
    cases ns with
    | nil => exact ⟨0, by decide, fun Q1 h => iteF h, fun h => absurd rfl h, fun _ => rfl⟩
    | cons n0 nr =>
      have lp : (0 : Int) < (((n0 :: nr).map V.int).length : Nat) := by rw [List.length_map, List.length_cons]; omega
      have e1 := Int.emod_nonneg (c + 1) (Int.ne_of_gt lp)
      have e2 := Int.emod_lt_of_pos (c + 1) lp
      have lm : ((n0 :: nr).map V.int).length = (n0 :: nr).length := List.length_map _
      refine ⟨((c + 1) % (((n0 :: nr).map V.int).length : Nat)).toNat, by omega, fun Q1 h => iteT ?_, fun _ => by omega, fun h => by cases h⟩
      rw [Int.toNat_of_nonneg e1] at h
      exact ⟨_, rfl, t, _, rfl, G H1 _ ht1, _, rfl, a, _, rfl, .inl hS1, _, _, rfl, rfl, lp, h⟩
  obtain ⟨j, j64, atGo, jlt, j0⟩ := atOk
  refine atGo _ ?_
  -- rest
  have restOk : ∃ z0 : Int, ∀ (Q1 : V → Hp → Prop), Q1 (.int z0) H1 → if (!(ns.map V.int).isEmpty) = true then tOp (rIxL K) (tVar 0) (tVar 3) [some (.ref a), some (.ref t), some (.int m), some (.int (j : Int)), none, none] H1 Q1 else Q1 (.int 0) H1 := by
    cases ns with
    | nil => exact ⟨0, fun Q1 h => iteF h⟩
    | cons n0 nr =>
      have hj := jlt (by simp)
      refine ⟨(n0 :: nr)[j], fun Q1 h => iteT ?_⟩
      exact ⟨_, rfl, _, rfl, a, _, _, _, rfl, rfl, hS1, atI_nat (by rw [List.getElem?_map, List.getElem?_eq_getElem hj]; rfl), h⟩
  obtain ⟨z0, restGo⟩ := restOk
  obtain ⟨y, hy⟩ := R.val (.inl (j : Int)) z0
  refine ⟨_, rfl, t, _, rfl, GR H1 _ ht1, r, rfl, .inl ⟨kvs, .inl hr1⟩, _, rfl, _, rfl, (!(ns.map V.int).isEmpty), .inl ⟨_, hS1, rfl⟩, restGo _ ⟨_, DGet.k (k := .inl (j : Int)) hr1, ?_⟩⟩
  rw [hy]
  -- if rest >= 10 ** 18
  refine ⟨_, rfl, _, _, rfl, rfl, ⟨by decide, by decide, by decide⟩, _, _, rfl, rfl, _, rfl, ?_⟩
  have m0' : 0 < m ∧ m < 1073741824 := ⟨m0, by omega⟩
  refine ite2 (fun _ => ?_) (fun _ => ?_)
  · refine ⟨_, rfl, _, rfl, _, _, rfl, rfl, m0', _, rfl, t, _, rfl, GR H1 _ ht1, _, rfl, r, _, rfl, DPut.k (k := .inl (j : Int)) hr1 (smallM (Nat.le_trans R.len (by decide))), ?_⟩
    refine ⟨_, rfl, _, rfl, _, _, rfl, rfl, m0, ?_⟩
    exact q _ _ _ (Int.emod_nonneg _ (Int.ne_of_gt m0)) (Int.emod_lt_of_pos _ m0) (f1.trans (.write f1.sub hr1A id)) ⟨nt1.upd (fun _ z => nomatch z), ⟨c + 1, r, _, by rw [upd_ne ntr]; exact ht1A, upd_same, ntr, R.put j64 _⟩, ns, sql_upd hS1A hr1A, h63⟩
  · refine ⟨_, rfl, _, rfl, t, _, rfl, G H1 _ ht1, _, _, rfl, rfl, .inl ⟨by decide, by decide⟩, _, _, rfl, rfl, _, _, rfl, rfl, (by show (0 : Int) < 4294967291; decide), ?_⟩
    have b1 := Int.emod_nonneg (y + 104729 * (c + 1)) (show (4294967291 : Int) ≠ 0 by decide)
    have b2 := Int.emod_lt_of_pos (y + 104729 * (c + 1)) (show (0 : Int) < 4294967291 by decide)
    refine ⟨_, rfl, _, _, rfl, rfl, ⟨by decide, by decide, ?_⟩, _, _, rfl, rfl, (by show (0 : Int) < 4294967279; decide), ?_⟩
    · omega
    refine ⟨_, rfl, _, _, rfl, rfl, ⟨by decide, by decide⟩, _, _, rfl, rfl, .inr ⟨by decide, by decide⟩, _, rfl, _, _, rfl, rfl, _, _, rfl, rfl, (by show (0 : Int) < 4294967231; decide), _, _, rfl, rfl, ⟨by decide, by decide⟩, _, rfl, _, _, rfl, rfl, m0, ?_⟩
    exact q _ _ _ (Int.emod_nonneg _ (Int.ne_of_gt m0)) (Int.emod_lt_of_pos _ m0) f1 ⟨nt1, ⟨c + 1, r, kvs, ht1A, hr1A, ntr, R⟩, ns, hS1A, h63⟩
theorem ok_begun (F : Fun K "_law_begun" "_law_begun" sBegun f fd) : FnOk P w K mg base CX0 1 f fd [] spBegun := by
  refine F.ok scBegun (fun vs H Q E h => ?_) (fun cdv A outer s H vs Q E hr h => ?_)
  · obtain ⟨rfl, _⟩ := h
    rfl
  obtain ⟨rfl, q⟩ := h
  refine ⟨_, pss_one (ps_ret (pe_disp (pps_cons pe_str pe_int (pps_cons pe_str pe_dnewK pps_nil)) (by rfl) (by rfl) (fun z => by cases z) (by decide))), ?_⟩
  refine fun p hp d hd => ⟨?_, [(.inr "count", .int 0), (.inr "rests", .ref d)], rfl, by show 2 ≤ 15; decide, ?_⟩
  · have npd : p ≠ d := fun e => by rw [← e, upd_same] at hd; cases hd
    rw [upd_ne npd, upd_same]
  · have npd : p ≠ d := fun e => by rw [← e, upd_same] at hd; cases hd
    have e : mergeK ([] : List (L2.Key × V)) [(.inr "count", .int 0), (.inr "rests", .ref d)] = townD 0 d := by
      show putK (putK ([] : List (L2.Key × V)) (Sum.inr (Str.ofString "count")) (V.int 0)) (Sum.inr (Str.ofString "rests")) (V.ref d) = _
      have a : putK ([] : List (L2.Key × V)) (.inr "count") (.int 0) = [(.inr "count", .int 0)] := rfl
      rw [a]
      unfold putK townD
      rw [if_neg (by rw [List.any_cons, decide_eq_false cnt_ne]; decide)]
      rfl
    rw [e]
    have nd : H d = none := by rw [upd_ne npd.symm] at hd; exact hd
    refine q p d _ (same_over ((same_new hp _).trans (same_new hd _)) hp) hp nd npd upd_same ?_
    rw [upd_ne npd.symm, upd_same]
end
end B1

set_option maxRecDepth 100000
set_option maxHeartbeats 4000000
namespace B1
open PySem PySem.Spec PyProof.Rows L2
/-! ### signs that are kept -/
def sg (c : Nat) : Str := ⟨#[c]⟩
def PvS (H : Hp) (D : Addr) (x : Str) (t : Nat → Bool) (i : Nat) (H' : Hp) : Prop := Same H (upd H' D (.lst [])) ∧ H' D = some (.lst (((x.cps.toList.take i).filter t).map fun c => V.str (sg c)))
theorem PvS.start {H : Hp} {D : Addr} {x : Str} {t : Nat → Bool} (nD : H D = none) : PvS H D x t 0 (upd H D (.lst [])) := ⟨by rw [upd_upd]; exact same_new nD _, upd_same⟩
theorem take_sg {x : Str} {i c : Nat} (hc : x.cps[i]? = some c) : x.cps.toList.take (i + 1) = x.cps.toList.take i ++ [c] := by
  rw [List.take_add_one, Array.getElem?_toList, hc]; rfl
theorem PvS.yes {H H' : Hp} {D : Addr} {x : Str} {t : Nat → Bool} {i c : Nat} (h : PvS H D x t i H') (hl : x.length ≤ 1000000) (hc : x.cps[i]? = some c) (ht : t c = true) :
    ∃ acc, H' D = some (.lst acc) ∧ acc.length < sizeLine ∧ PvS H D x t (i + 1) (upd H' D (.lst (acc ++ [V.str (sg c)]))) := by
  refine ⟨_, h.2, ?_, by rw [upd_upd]; exact h.1, ?_⟩
  · rw [List.length_map]
    have h1 := List.length_filter_le t (x.cps.toList.take i)
    have h2 := List.length_take_le' i x.cps.toList
    have h3 : x.cps.toList.length ≤ 1000000 := hl
    exact smallM (Nat.le_trans h1 (Nat.le_trans h2 h3))
  · rw [upd_same, take_sg hc, List.filter_append, List.map_append]
    simp [ht]
theorem PvS.no {H H' : Hp} {D : Addr} {x : Str} {t : Nat → Bool} {i c : Nat} (h : PvS H D x t i H') (hc : x.cps[i]? = some c) (ht : t c = false) : PvS H D x t (i + 1) H' := by
  refine ⟨h.1, ?_⟩
  rw [h.2, take_sg hc, List.filter_append]
  simp [ht]
theorem eqv_nil (ds : List PyData) : PyData.eqv (.list ds) (.list []) = ds.isEmpty := by
  cases ds with
  | nil => simp [PyData.eqv, PyData.eqvAll]
  | cons d ds => simp [PyData.eqv, PyData.eqvAll]
theorem dps_strs {K : PySem.W.Frag} {H : Hp} : ∀ xs : List Nat, DpAll K H (xs.map fun c => V.str (sg c)) (xs.map fun c => PyData.str (sg c))
  | [] => .nil
  | _ :: xs => .cons (.str _) (dps_strs xs)
theorem strs_shaped {xs : List Nat} (h : ∀ c ∈ xs, c < 0x110000) : SeqAt.shaped (.list (xs.map fun c => PyData.str (sg c))) = true := by
  have h1 : PyData.canLayAll0 (xs.map fun c => PyData.str (sg c)) = true := by
    induction xs with
    | nil => simp [PyData.canLayAll0]
    | cons c xs ih =>
      rw [List.map_cons, PyData.canLayAll0, ih (fun d hd => h d (List.mem_cons_of_mem _ hd)), Bool.and_true]
      have := h c List.mem_cons_self
      simp only [PyData.canLay0, PyData.strOk, sg]
      simpa using this
  have h2 : PyData.depthAll (xs.map fun c => PyData.str (sg c)) = 0 := by
    clear h h1
    induction xs with
    | nil => simp [PyData.depthAll]
    | cons c xs ih => rw [List.map_cons, PyData.depthAll, ih]; simp [PyData.depth]
  unfold SeqAt.shaped
  simp only [PyData.canLay0, PyData.depth, h1, h2]
  decide
theorem PvS.fin {K : PySem.W.Frag} {H H' : Hp} {D : Addr} {x : Str} {t : Nat → Bool} (h : PvS H D x t x.cps.size H') (nD : H D = none) (hx : PyData.strOk x = true) {Q : VK} (q : ∀ H'', Same H H'' → Q (.bl (x.cps.toList.all fun c => !t c)) H'') :
    ([] : List V).length ≤ sizeLine ∧ ∀ p, H' p = none → rEqD K (.ref D) (.ref p) (upd H' p (.lst [])) Q := by
  refine ⟨by show 0 ≤ sizeLine; decide, fun p np => ?_⟩
  have hD := h.2
  rw [List.take_of_length_le (by rw [Array.length_toList]; exact Nat.le_refl _)] at hD
  have s1 := same_new (H := H') np (.lst [])
  have hall : ∀ c ∈ x.cps.toList.filter t, c < 0x110000 := fun c hc => by
    have hc' := (List.mem_filter.mp hc).1
    unfold PyData.strOk at hx
    rw [Array.all_eq_true'] at hx
    exact of_decide_eq_true (hx c (Array.mem_toList_iff.mp hc'))
  refine ⟨.list ((x.cps.toList.filter t).map fun c => PyData.str (sg c)), .list [], .lst (SqL.of (s1 _ _ hD)) (dps_strs _), .lst (SqL.of upd_same) .nil, strs_shaped hall, by decide +kernel, ?_⟩
  rw [eqv_nil]
  have : ((x.cps.toList.filter t).map fun c => PyData.str (sg c)).isEmpty = x.cps.toList.all fun c => !t c := by
    induction x.cps.toList with
    | nil => rfl
    | cons c cs ih => cases htc : t c <;> simp [htc, ih]
  rw [this]
  refine q _ (Same.trans (H1 := H') (fun b o e => ?_) s1)
  have := h.1 b o e
  rw [upd_ne (ne_of_none e nD)] at this
  exact this
/-! ### _law_named -/
abbrev sNamed : Stmt := top 195
theorem scNamed : FnScope ["_law_part", "_law_sign"] ["_law_part"] (defScope sNamed) := ⟨rfl, rfl, rfl, by decide +kernel, rfl, by decide +kernel, by decide +kernel⟩
def spNa (K : PySem.W.Frag) : Sp := fun vs H Q _ => ∃ (v : V) (d : PyData), vs = [v] ∧ Dp K H v d ∧ (∀ x, d = .str x → PyData.strOk x = true ∧ x.length ≤ 1000000) ∧ ∀ H', Same H H' → Q (.bl (isName d)) H'
theorem letters (c : Nat) : decide (c ∈ ("abcdefghijklmnopqrstuvwxyz" : Str).cps.toList) = btw 97 122 c := by
  have e : ("abcdefghijklmnopqrstuvwxyz" : Str).cps.toList = (List.range 26).map (97 + ·) := by decide +kernel
  rw [e]
  unfold btw
  have : c ∈ (List.range 26).map (97 + ·) ↔ 97 ≤ c ∧ c ≤ 122 := by
    rw [List.mem_map]
    constructor
    · rintro ⟨a, h1, rfl⟩
      have := List.mem_range.mp h1
      omega
    · rintro ⟨h1, h2⟩
      exact ⟨c - 97, List.mem_range.mpr (by omega), by omega⟩
  rw [← Bool.decide_and]
  exact decide_eq_decide.mpr this
section
variable {K : PySem.W.Frag} {P : Program} {w : World} {mg : Str → Option Value} {base : Heap} {f g h : Addr} {fd gd hd : FuncData}
theorem ok_named (F : Fun K "_law_named" "_law_named" sNamed f fd) (B : Bl mg) : FnOk P w K mg base CX0 1 f fd ["_law_part"] (spNa K) := by
  refine F.ok scNamed (fun vs H Q E h => ?_) (fun cdv A outer s H vs Q E hr h => ?_)
  · obtain ⟨v, d, rfl, _⟩ := h
    rfl
  obtain ⟨v, d, rfl, hd, hlay, q⟩ := h
  refine ⟨_, pss_cons (ps_if (PW.pt (pw_or (pt_not (pt_val (pe_isD kit_S rfl B.isi rfl B.str bt_str (pv 0)))) (pw_or1 (pt_not (pt_chain op_le op_le pe_int (pe_callB call_len_str rfl B.len bt_len (pa_cons (pv 0) pa_nil)) pe_int))))) (pss_one (ps_ret pe_bl)) pss_nil)
    (pss_one (ps_ret (pe_cmpR (op_eqD hr.units) (pe_lc (own := [("_law_sign", 1)]) (g := gName 1) (by rfl) scNamed.nd (pi_str (pv 0)) (blkOk_by (own := [("_law_sign", 1)]) (N := ["_law_part", "_law_sign"]) (sc := defScope sNamed) (by decide +kernel))
      (fun _ _ _ _ _ => pg_name (i := 1) scNamed.nd rfl (Or.inl rfl)) (fun _ _ _ _ _ => pts_one (pt_cmpR op_notIn_sign (pv 1) pe_str (by with_unfolding_all rfl))) (fun _ _ _ _ _ => pv 1)) (pe_lst pa_nil) (nomark _)))), ?_⟩
  refine ⟨_, rfl, _, d, rfl, hd, _, rfl, ?_⟩
  cases d with
  | str x =>
    cases hd
    obtain ⟨hlay, hx⟩ := hlay x rfl
    refine iteF ?_
    refine ⟨_, rfl, x, rfl, Nat.le_of_lt (smallM hx), _, _, rfl, rfl, _, rfl, ?_⟩
    refine ite2 (fun e => ?_) (fun e => ?_)
    · have a1 := of_decide_eq_true e
      refine ⟨_, _, rfl, rfl, _, rfl, ?_⟩
      refine ite2 (fun e2 => ?_) (fun e2 => ?_)
      · refine bl_to (q H (Same.refl H)) ?_
        have a2 : ¬ ((x.length : Nat) : Int) ≤ 12 := of_decide_eq_false (by simpa using e2)
        rw [name_str, decide_eq_false (show ¬ x.length ≤ 12 by omega), Bool.and_false]
        rfl
      · have a2 : ((x.length : Nat) : Int) ≤ 12 := of_decide_eq_true (by simpa using e2)
        refine ⟨_, rfl, x, rfl, fun D nD => ?_⟩
        refine lc_it walk_str (PvS H D x fun c => !btw 97 122 c) (.start nD) (fun _ _ _ _ => trivial) ?_ ?_
        · rintro i v H1 H1' hi ⟨sm, hD⟩ ⟨rfl, c, hc, rfl⟩
          refine ⟨rfl, _, rfl, c, _, rfl, rfl, _, rfl, ?_⟩
          rw [letters]
          refine ite2 (fun e3 => ?_) (fun e3 => ?_)
          · exact ⟨_, rfl, PvS.yes ⟨sm, hD⟩ hx hc e3⟩
          · exact PvS.no ⟨sm, hD⟩ hc (Bool.eq_false_iff.mpr e3)
        · intro H1 h1
          refine PvS.fin h1 nD hlay fun H2 s2 => bl_to (q H2 s2) ?_
          rw [name_str, decide_eq_true (show 1 ≤ x.length by omega), decide_eq_true (show x.length ≤ 12 by omega)]
          simp only [Bool.not_not, Bool.and_self, Bool.true_and]
          rfl
    · refine ⟨_, rfl, iteT ?_⟩
      have a1 := of_decide_eq_false (Bool.eq_false_iff.mpr e)
      refine bl_to (q H (Same.refl H)) ?_
      rw [name_str, decide_eq_false (show ¬ 1 ≤ x.length by omega)]
      rfl
  | none => exact iteT (q H (Same.refl H))
  | bool b => exact iteT (q H (Same.refl H))
  | int i => exact iteT (q H (Same.refl H))
  | list xs => exact iteT (q H (Same.refl H))
  | tuple xs => exact iteT (q H (Same.refl H))
  | dict xs => exact iteT (q H (Same.refl H))
end
end B1

set_option maxRecDepth 100000
set_option maxHeartbeats 4000000
namespace B1
open PySem PySem.Spec PyProof.Rows L2
/-! ### d.update(d2) -/
def rUpd : V → List V → Hp → VK → Prop := fun x xs H Q => ∃ (a b : Addr) (kvs ms : List (L2.Key × V)), x = .ref a ∧ xs = [.ref b] ∧ a ≠ b ∧ H a = some (.dK kvs) ∧ H b = some (.dK ms) ∧ kvs.length + ms.length ≤ 1000 ∧ Q .non (upd H a (.dK (mergeK kvs ms)))
theorem mt_dupd {X : Cx} : MtR X "dict.update" rUpd := by
  intro pins s σ H x xs v us Q I rx rxs h
  obtain ⟨a, b, kvs, ms, rfl, rfl, hab, ha, hb, hl, q⟩ := h
  cases rx
  obtain ⟨u, rfl, ru⟩ := rxs.one
  cases ru
  obtain ⟨z1, hd1, vs1, rel1, dd1⟩ := dk_of I.hok ha
  obtain ⟨z2, hd2, vs2, rel2, dd2⟩ := dk_of I.hok hb
  have e1 : vs1.length = kvs.length := (Paired.length rel1).symm
  have e2 : vs2.length = ms.length := (Paired.length rel2).symm
  refine call_meetsIn PySem.F.slot_dict_update dd1.typeIs PySem.F.entry_dict_update (PySem.F.args_dict_update_2 _ _) (meets_dict_update (mixKind X.prog X.w) a b hab hd2) ⟨vs1, vs2, dd1, dd2, by rw [e1, e2]; exact Nat.le_trans hl (by decide), fun h' dd1' dd2' hs => ?_⟩
  have he : ∃ q, h'.get? a = some q := let ⟨q, _, _, hq, _⟩ := dd1'; ⟨q, hq⟩
  have hz : (mergeK kvs ms).length ≤ sizeLine := Nat.le_trans (length_mergeK ms kvs) (Nat.le_trans hl (by decide))
  exact ⟨.non, _, d_write (t' := s.toks) I (by rw [ha]; exact True.intro) hs he (dk_new hz hd1 (rel2.merge rel1) dd1'), rfl, q⟩
/-! ### the plain rows -/
def upN (M : List Kd) (k : Kd) : V := match k.elder with
  | none => .non
  | some e => match M[e]? with
    | some k' => .str k'.name
    | none => .non
structure PA5 where
  kl : Addr
  ud : Addr
  od : Addr
  ld : Addr
  wd : Addr
structure PlAt (K : PySem.W.Frag) (A : Hp) (p : Addr) (a : PA5) (os ls ws : List Addr) (kvs : List (L2.Key × V)) (M : List Kd) : Prop where
  at_ : A p = some (.dK kvs)
  v1 : valV kvs (.inr "kinds") = some (.ref a.kl)
  v2 : valV kvs (.inr "up") = some (.ref a.ud)
  v3 : valV kvs (.inr "own") = some (.ref a.od)
  v4 : valV kvs (.inr "loose") = some (.ref a.ld)
  v5 : valV kvs (.inr "ways") = some (.ref a.wd)
  kl : A a.kl = some (.lst ((M.map (·.name)).map V.str))
  ud : A a.ud = some (.dK ((sk (M.map (·.name))).zip (M.map (upN M))))
  od : A a.od = some (.dK ((sk (M.map (·.name))).zip (os.map V.ref)))
  ld : A a.ld = some (.dK ((sk (M.map (·.name))).zip (ls.map V.ref)))
  wd : A a.wd = some (.dK ((sk (M.map (·.name))).zip (ws.map V.ref)))
  lo : os.length = M.length
  ll : ls.length = M.length
  lw : ws.length = M.length
  ros : ∀ (i : Nat) (b : Addr) (k : Kd), os[i]? = some b → M[i]? = some k → A b = some (.lst (k.own.map V.str))
  rls : ∀ (i : Nat) (b : Addr) (k : Kd), ls[i]? = some b → M[i]? = some k → A b = some (.lst (k.loose.map V.str))
  rws : ∀ (i : Nat) (b : Addr), ws[i]? = some b → A b = some (.dK [])
  nd : ([a.kl, a.ud, a.od, a.ld, a.wd] : List Addr).Nodup
  np : p ∉ ([a.kl, a.ud, a.od, a.ld, a.wd] : List Addr)
  no : ∀ b ∈ os ++ (ls ++ ws), b ∉ ([a.kl, a.ud, a.od, a.ld, a.wd] : List Addr)
  wf : Wf M
theorem PlAt.same {K : PySem.W.Frag} {A A' : Hp} {p : Addr} {a : PA5} {os ls ws : List Addr} {kvs : List (L2.Key × V)} {M : List Kd} (h : PlAt K A p a os ls ws kvs M) (e : Same A A') : PlAt K A' p a os ls ws kvs M :=
  ⟨e _ _ h.at_, h.v1, h.v2, h.v3, h.v4, h.v5, e _ _ h.kl, e _ _ h.ud, e _ _ h.od, e _ _ h.ld, e _ _ h.wd, h.lo, h.ll, h.lw, fun i b k x y => e _ _ (h.ros i b k x y), fun i b k x y => e _ _ (h.rls i b k x y), fun i b x => e _ _ (h.rws i b x), h.nd, h.np, h.no, h.wf⟩
def Pln (K : PySem.W.Frag) (A : Hp) (p : Addr) (M : List Kd) : Prop := NoT A ∧ ∃ a os ls ws kvs, PlAt K A p a os ls ws kvs M
section
variable {K : PySem.W.Frag} {A : Hp} {p : Addr} {a : PA5} {os ls ws : List Addr} {kvs : List (L2.Key × V)} {M : List Kd}
theorem PlAt.val (h : PlAt K A p a os ls ws kvs M) {vs : List V} {i : Nat} {k : Kd} {v : V} (hk : M[i]? = some k) (hv : vs[i]? = some v) : valV ((sk (M.map (·.name))).zip vs) (.inr k.name) = some v :=
  zip_val (sk_nd h.wf.names) (sk_get (by rw [List.getElem?_map, hk]; rfl)) hv
theorem PlAt.up (h : PlAt K A p a os ls ws kvs M) {i : Nat} {k : Kd} (hk : M[i]? = some k) : valV ((sk (M.map (·.name))).zip (M.map (upN M))) (.inr k.name) = some (upN M k) := h.val hk (by rw [List.getElem?_map, hk]; rfl)
end
theorem mergeK_app : ∀ (ms kvs : List (L2.Key × V)), ((kvs ++ ms).map (·.1)).Nodup → mergeK kvs ms = kvs ++ ms
  | [], kvs, _ => by simp [mergeK]
  | (k, v) :: ms, kvs, h => by
    have hn : valV kvs k = none := by
      cases e : valV kvs k with
      | none => rfl
      | some u =>
        exfalso
        have hk : k ∈ kvs.map (·.1) := by
          unfold valV at e
          cases e2 : kvs.find? fun kv => decide (kv.1 = k) with
          | none => rw [e2] at e; cases e
          | some kv => exact List.mem_map.mpr ⟨kv, List.mem_of_find?_eq_some e2, of_decide_eq_true (List.find?_some (p := fun kv : L2.Key × V => decide (kv.1 = k)) e2)⟩
        rw [List.map_append] at h
        exact (List.nodup_append.mp h).2.2 k hk k (by simp) rfl
    show mergeK (putK kvs k v) ms = _
    rw [putK_new v hn, mergeK_app ms (kvs ++ [(k, v)]) (by simpa using h)]
    simp
theorem Bw.none {H : Hp} : Bw H H [] [] := ⟨List.nodup_nil, fun p hp => (nomatch hp), fun p hp => (nomatch hp), fun b u e _ => e, fun b u e z => by rw [e] at z; cases z⟩
theorem Bw.part {H0 H : Hp} {W : List Addr} {l : List (Addr × HO)} (B : Bw H0 H W l) (i : Nat) {a : Addr} {o : HO} (hi : l[i]? = some (a, o) := by rfl) : only (l.map (·.1)) H a = some o := by
  rw [only_in (List.mem_map.mpr ⟨(a, o), List.mem_of_getElem? hi, rfl⟩)]
  exact B.get i hi
theorem Bw.noT {H0 H : Hp} {W : List Addr} {l : List (Addr × HO)} (B : Bw H0 H W l) (h : (l.all fun p => !isTbl p.2) = true) : NoT (only (l.map (·.1)) H) := fun b o e ps z => by
  obtain ⟨h1, h2⟩ := only_mem e
  obtain ⟨p, hp, rfl⟩ := List.mem_map.mp h1
  have e2 := (B.at_ p hp).symm.trans h2
  have := List.all_eq_true.mp h p hp
  rw [Option.some.inj e2, z] at this
  cases this
theorem Bw.dom {H0 H : Hp} {l : List (Addr × HO)} (B : Bw H0 H [] l) (b : Addr) (h : only (l.map (·.1)) H b ≠ Option.none) : H0 b = Option.none := by
  cases e : only (l.map (·.1)) H b with
  | none => exact absurd e h
  | some o =>
    obtain ⟨p, hp, rfl⟩ := List.mem_map.mp (only_mem e).1
    rcases B.fresh p hp with z | z
    · cases z
    · exact z
theorem Bw.ne {H0 H : Hp} {W : List Addr} {l : List (Addr × HO)} (B : Bw H0 H W l) (i j : Nat) (hij : i ≠ j) {a b : Addr} {o u : HO} (hi : l[i]? = some (a, o) := by rfl) (hj : l[j]? = some (b, u) := by rfl) : a ≠ b := fun e => hij (nd_inj B.nd (show (l.map (·.1))[i]? = some a by rw [List.getElem?_map, hi]; rfl) (show (l.map (·.1))[j]? = some a by rw [List.getElem?_map, hj, e]; rfl))
abbrev sNw : Stmt := top 196
abbrev sUp : Stmt := top 197
abbrev sAF : Stmt := top 198
theorem scNw : FnScope ["_law_found"] [] (defScope sNw) := ⟨rfl, rfl, rfl, by decide +kernel, rfl, by decide +kernel, by decide +kernel⟩
theorem scUp : FnScope ["_law_plain", "_law_kind", "_law_found"] ["_law_plain", "_law_kind"] (defScope sUp) := ⟨rfl, rfl, rfl, by decide +kernel, rfl, by decide +kernel, by decide +kernel⟩
theorem scAF : FnScope ["_law_plain", "_law_kind", "_law_found", "_law_one"] ["_law_plain", "_law_kind"] (defScope sAF) := ⟨rfl, rfl, rfl, by decide +kernel, rfl, by decide +kernel, by decide +kernel⟩
def spNw (K : PySem.W.Frag) : Sp := fun vs H Q _ => vs = [] ∧ ∀ (A' H' : Hp) (p : Addr), Pln K A' p [kd0] → Same A' H' → Same H H' → (∀ b, A' b ≠ none → H b = none) → Q (.ref p) H'
def spUp (K : PySem.W.Frag) : Sp := fun vs H Q _ => ∃ (A : Hp) (p : Addr) (M : List Kd) (i : Nat) (k : Kd) (l : List Nat), vs = [.ref p, .str k.name] ∧ Pln K A p M ∧ Same A H ∧ M[i]? = some k ∧ IsLine M (some i) l ∧ l.length ≤ 1000 ∧ ∀ q H', Same H H' → H' q = some (.lst ((nmsOf M l).map V.str)) → Q (.ref q) H'
def spAF (K : PySem.W.Frag) : Sp := fun vs H Q _ => ∃ (A : Hp) (p : Addr) (M : List Kd) (i : Nat) (k : Kd) (l : List Nat), vs = [.ref p, .str k.name] ∧ Pln K A p M ∧ Same A H ∧ M[i]? = some k ∧ IsLine M (some i) l ∧ l.length ≤ 1000 ∧ (sel M (·.own) l.reverse).length ≤ 100000 ∧ ∀ q H', Same H H' → H' q = some (.lst ((sel M (·.own) l.reverse).map V.str)) → Q (.ref q) H'
theorem nms_len {M : List Kd} : ∀ {l : List Nat}, (∀ i ∈ l, i < M.length) → (nmsOf M l).length = l.length
  | [], _ => rfl
  | i :: l, h => by
    unfold nmsOf
    rw [List.filterMap_cons, List.getElem?_eq_getElem (h i List.mem_cons_self)]
    show (nmsOf M l).length + 1 = _
    rw [nms_len fun j hj => h j (List.mem_cons_of_mem _ hj)]; rfl
theorem nms_get {M : List Kd} : ∀ {l : List Nat} {j : Nat} {x : Str}, (∀ i ∈ l, i < M.length) → (nmsOf M l)[j]? = some x → ∃ i k, l[j]? = some i ∧ M[i]? = some k ∧ k.name = x
  | [], _, _, _, h => by simp [nmsOf] at h
  | i :: l, j, x, hl, h => by
    have hi := List.getElem?_eq_getElem (hl i List.mem_cons_self)
    unfold nmsOf at h
    rw [List.filterMap_cons, hi] at h
    cases j with
    | zero => exact ⟨i, _, rfl, hi, by simpa using h⟩
    | succ j =>
      obtain ⟨i', k', h1, h2, h3⟩ := nms_get (fun j hj => hl j (List.mem_cons_of_mem _ hj)) (show (nmsOf M l)[j]? = some x by unfold nmsOf; simpa using h)
      exact ⟨i', k', by simpa using h1, h2, h3⟩
theorem nms_append (M : List Kd) (a b : List Nat) : nmsOf M (a ++ b) = nmsOf M a ++ nmsOf M b := by simp [nmsOf, List.filterMap_append]
section
variable {P : Program} {w : World} {K : PySem.W.Frag} {mg : Str → Option Value} {base : Heap} {f fU : Addr} {fd dU : FuncData}
theorem ok_up (F : Fun K "_law_up" "_law_up" sUp f fd) : FnOk P w K mg base CX0 1 f fd ["_law_plain", "_law_kind"] (spUp K) := by
  refine F.ok scUp (fun vs H Q E h => ?_) (fun cdv A0 outer s0 H vs Q E hr h => ?_)
  · obtain ⟨A, p, M, i, k, l, rfl, _⟩ := h
    rfl
  obtain ⟨A, p, M, i, k, l, rfl, ⟨nt, a, os, ls, ws, kvs, S⟩, sm, hk, hL, hl, q⟩ := h
  have hu := hu_of hr
  refine ⟨_, (pss_cons (ps_set (i := 2) scUp.nd rfl (.inl rfl) (pe_lst pa_nil)) (pss_cons (ps_while PassesOwn.never (pt_cmp (pc_notN (pv 1))) (pss_cons (ps_expr (pe_bm PySem.F.plainAttrs_list PySem.F.slot_list_append PySem.F.type_list_append mt_append (pv 2) (pa_cons (pv 1) pa_nil))) (pss_one (ps_set (i := 1) scUp.nd rfl (.inl rfl) (pe_dget hu (pe_dget hu (pv 0) pe_str (fun _ _ => rfl)) (pv 1) (fun _ _ => rfl)))))) (pss_one (ps_ret (pv 2))))), ?_⟩
  refine ⟨(by show 0 ≤ sizeLine; decide), fun c nc => ?_⟩
  refine ⟨fun m σ H' => ∃ (o' : Option Nat) (v : V) (pre rest : List Nat), σ = [some (.ref p), some v, some (.ref c)] ∧ H' = upd H c (.lst ((nmsOf M pre).map V.str)) ∧ l = pre ++ rest ∧ IsLine M o' rest ∧ (o' = none → v = .non) ∧ (∀ j k', o' = some j → M[j]? = some k' → v = .str k'.name) ∧ m = rest.length, ⟨_, some i, .str k.name, [], l, rfl, rfl, rfl, hL, (fun h => nomatch h), fun j k' e e2 => by cases e; rw [hk] at e2; cases e2; rfl, rfl⟩, ?_⟩
  rintro m σ H' ⟨o', v, pre, rest, rfl, rfl, el, hr', hv1, hv2, rfl⟩
  have sp := same_new nc (.lst ((nmsOf M pre).map V.str))
  refine ⟨_, rfl, _, rfl, ?_⟩
  cases hr' with
  | nil =>
    rw [hv1 rfl]
    refine iteF ⟨_, rfl, q c _ sp ?_⟩
    rw [upd_same, el, List.append_nil]
  | @cons j k' r hk' ht =>
    have ev := hv2 j k' rfl hk'
    subst ev
    refine iteT ⟨_, fun σ' H' h => h, ?_⟩
    have hlen : ((nmsOf M pre).map V.str).length < sizeLine := by
      rw [List.length_map, nms_len (fun i hi => isLine_lt hL i (by rw [el]; exact List.mem_append_left _ hi))]
      have : l.length = pre.length + (r.length + 1) := by rw [el, List.length_append, List.length_cons]
      exact smallM (by omega)
    refine ⟨_, rfl, .inl ⟨rfl, _, SqL.of upd_same⟩, _, rfl, c, _, _, rfl, rfl, upd_same, hlen, ?_⟩
    rw [upd_upd]
    have sp2 := sm.trans (same_new nc (.lst ((nmsOf M pre).map V.str ++ [V.str k'.name])))
    refine ⟨_, rfl, p, _, rfl, dg (k := .inr "up") (sp2 _ _ S.at_) S.v2, _, rfl, a.ud, _, rfl, dg (k := .inr k'.name) (sp2 _ _ S.ud) (S.up hk'), ?_⟩
    refine ⟨r.length, Nat.lt_succ_self _, k'.elder, upN M k', pre ++ [j], r, rfl, ?_, by rw [el, List.append_assoc]; rfl, ht, fun e => by unfold upN; rw [e], fun j' k'' e e2 => by unfold upN; rw [e]; simp only [e2], rfl⟩
    rw [nms_append, List.map_append]
    simp [nmsOf, hk']
theorem ok_af (F : Fun K "_law_all_fields" "_law_all_fields" sAF f fd) (G : FnOk P w K mg base CX0 1 fU dU ["_law_plain", "_law_kind"] (spUp K)) (bG : Binds K dU ["_law_plain", "_law_kind"] []) (kG : PySem.W.keepIn K (.ref fU) = true) (mG : mg "_law_up" = some (.ref fU)) :
    FnOk P w K mg base CX0 2 f fd ["_law_plain", "_law_kind"] (spAF K) := by
  refine F.ok scAF (fun vs H Q E h => ?_) (fun cdv A0 outer s0 H vs Q E hr h => ?_)
  · obtain ⟨A, p, M, i, k, l, rfl, _⟩ := h
    rfl
  obtain ⟨A, p, M, i, k, l, rfl, ⟨nt, a, os, ls, ws, kvs, S⟩, sm, hk, hL, hl, hz, q⟩ := h
  have hu := hu_of hr
  refine ⟨_, (pss_cons (ps_set (i := 2) scAF.nd rfl (.inl rfl) (pe_lst pa_nil)) (pss_cons (ps_for PassesOwn.never rfl (pi_list (pe_revL (pe_call G hr rfl mG kG bG .nil pass0 (pa_cons (pv 0) (pa_cons (pv 1) pa_nil))))) (pg_name (i := 3) scAF.nd rfl (.inl rfl)) (pss_one (ps_set (i := 2) scAF.nd rfl (.inl rfl) (pe_op op_cat (pv 2) (pe_dget hu (pe_dget hu (pv 0) pe_str (fun _ _ => rfl)) (pv 3) (fun _ _ => rfl)))))) (pss_one (ps_ret (pv 2))))), ?_⟩
  refine ⟨(by show 0 ≤ sizeLine; decide), fun c nc => ⟨_, rfl, _, rfl, A, p, M, i, k, l, rfl, ⟨nt, a, os, ls, ws, kvs, S⟩, sm.trans (same_new nc _), hk, hL, hl, fun b H1 s1 hb1 => ⟨b, _, rfl, SqL.of hb1, fun d nd => ?_⟩⟩⟩
  have s2 : Same H (upd H1 d (.lst ((nmsOf M l).map V.str).reverse)) := ((same_new nc (.lst [])).trans s1).trans (same_new nd _)
  have hc2 : (upd H1 d (.lst ((nmsOf M l).map V.str).reverse)) c = some (.lst []) := (same_new nd _) _ _ (s1 _ _ upd_same)
  have hd2 : (upd H1 d (.lst ((nmsOf M l).map V.str).reverse)) d = some (.lst ((nmsOf M l).map V.str).reverse) := upd_same
  have er : ((nmsOf M l).map V.str).reverse = (nmsOf M l.reverse).map V.str := by unfold nmsOf; rw [List.filterMap_reverse, List.map_reverse, List.map_reverse]
  refine ⟨d, rfl, ⟨_, SqL.of hd2⟩, ?_⟩
  generalize upd H1 d (.lst ((nmsOf M l).map V.str).reverse) = H2 at s2 hc2 hd2 ⊢
  rw [er] at hd2
  have hlt : ∀ j ∈ l.reverse, j < M.length := fun j hj => isLine_lt hL j (List.mem_reverse.mp hj)
  refine for_list (xs := (nmsOf M l.reverse).map V.str) (fun j σ H' => ∃ y t, σ = [some (.ref p), some (.str k.name), some (.ref t), y] ∧ Same H2 H' ∧ H' t = some (.lst ((sel M (·.own) (l.reverse.take j)).map V.str))) ⟨_, c, rfl, Same.refl _, hc2⟩ (fun j σ H' _ ⟨y, t, _, s3, _⟩ => SqL.of (s3 _ _ hd2)) ?_ ?_
  · rintro j v σ H' hv ⟨y, t, rfl, s3, ht⟩
    rw [List.getElem?_map] at hv
    obtain ⟨x, hx, rfl⟩ := Option.map_eq_some_iff.mp hv
    obtain ⟨i', k', hi', hk', rfl⟩ := nms_get hlt hx
    have u3 := (sm.trans s2).trans s3
    have ho : i' < os.length := by rw [S.lo]; exact (List.getElem?_eq_some_iff.mp hk').1
    have hoe := List.getElem?_eq_getElem ho
    have hvo : valV ((sk (M.map (·.name))).zip (os.map V.ref)) (.inr k'.name) = some (.ref os[i']) := S.val hk' (by rw [List.getElem?_map, hoe]; rfl)
    have e2 : sel M (·.own) (l.reverse.take (j + 1)) = sel M (·.own) (l.reverse.take j) ++ k'.own := by rw [List.take_add_one, hi']; exact sel_snoc hk'
    have hlen : ((sel M (·.own) (l.reverse.take j)).map V.str).length + (k'.own.map V.str).length ≤ sizeLine := by
      have := sel_take (M := M) (g := (·.own)) l.reverse (j + 1)
      rw [e2, List.length_append] at this
      rw [List.length_map, List.length_map]
      exact Nat.le_of_lt (smallM (by omega))
    refine ⟨_, rfl, _, rfl, p, _, rfl, dg (k := .inr "own") (u3 _ _ S.at_) S.v3, _, rfl, a.od, _, rfl, dg (k := .inr k'.name) (u3 _ _ S.od) hvo, t, _, _, _, rfl, rfl, ht, u3 _ _ (S.ros i' _ k' hoe hk'), hlen, fun t' nt' => ?_⟩
    refine ⟨_, t', rfl, s3.trans (same_new nt' _), ?_⟩
    rw [upd_same, e2, List.map_append]
  · rintro σ H' ⟨y, t, rfl, s3, ht⟩
    rw [List.length_map, nms_len hlt, List.take_length] at ht
    exact ⟨_, rfl, q t _ (s2.trans s3) ht⟩
theorem ok_nw (F : Fun K "_law_new" "_law_new" sNw f fd) : FnOk P w K mg base CX0 1 f fd [] (spNw K) := by
  refine F.ok scNw (fun vs H Q E h => ?_) (fun cdv A0 outer s0 H vs Q E hr h => ?_)
  · obtain ⟨rfl, _⟩ := h
    rfl
  obtain ⟨rfl, q⟩ := h
  have hu := hu_of hr
  refine ⟨_, (pss_cons (ps_set (i := 0) scNw.nd rfl (.inl rfl) (pe_disp (pps_cons pe_str (pe_lst (pa_cons pe_str pa_nil)) (pps_cons pe_str (pe_disp (pps_cons pe_str pe_non pps_nil) (by rfl) (by rfl) (fun z => by cases z) (by decide)) (pps_cons pe_str (pe_disp (pps_cons pe_str (pe_lst pa_nil) pps_nil) (by rfl) (by rfl) (fun z => by cases z) (by decide)) (pps_cons pe_str (pe_disp (pps_cons pe_str (pe_lst pa_nil) pps_nil) (by rfl) (by rfl) (fun z => by cases z) (by decide)) pps_nil)))) (by rfl) (by rfl) (fun z => by cases z) (by decide))) (pss_cons (ps_expr (pe_bm PySem.F.plainAttrs_dict PySem.F.slot_dict_update PySem.F.type_dict_update mt_dupd (pv 0) (pa_cons (pe_disp (pps_cons pe_str (pe_disp (pps_cons pe_str pe_dnewK pps_nil) (by rfl) (by rfl) (fun z => by cases z) (by decide)) (pps_cons pe_str pe_dnewK (pps_cons pe_str pe_dnewK (pps_cons pe_str pe_int (pps_cons pe_str (pe_lst pa_nil) (pps_cons pe_str (pe_disp (pps_cons pe_str (pe_lst pa_nil) pps_nil) (by rfl) (by rfl) (fun z => by cases z) (by decide)) pps_nil)))))) (by rfl) (by rfl) (fun z => by cases z) (by decide)) pa_nil))) (pss_one (ps_ret (pv 0))))), ?_⟩
  have B0 := Bw.none (H := H)
  refine fun p np => ⟨(by show 1 ≤ sizeLine; decide), fun kl nkl => ?_⟩
  have B2 := (B0.new np (.dK [])).new nkl (.lst [.str "thing"])
  refine fun ud nud => ?_
  have B3 := B2.new nud (.dK [])
  refine ⟨B3.get 0, [(.inr "thing", .non)], rfl, (by show 1 ≤ 15; decide), ?_⟩
  have B4 := B3.put 0 (.dK (mergeK [] [(.inr "thing", .non)]))
  refine fun od nod => ⟨(by show 0 ≤ sizeLine; decide), fun o0 no0 => ?_⟩
  have B6 := (B4.new nod (.dK [])).new no0 (.lst [])
  refine ⟨B6.get 1, [(.inr "thing", .ref o0)], rfl, (by show 1 ≤ 15; decide), ?_⟩
  have B7 := B6.put 1 (.dK (mergeK [] [(.inr "thing", .ref o0)]))
  refine fun ld nld => ⟨(by show 0 ≤ sizeLine; decide), fun l0 nl0 => ?_⟩
  have B9 := (B7.new nld (.dK [])).new nl0 (.lst [])
  refine ⟨B9.get 1, [(.inr "thing", .ref l0)], rfl, (by show 1 ≤ 15; decide), ?_⟩
  have B10 := B9.put 1 (.dK (mergeK [] [(.inr "thing", .ref l0)]))
  refine ⟨B10.get 6, [(.inr "kinds", .ref kl), (.inr "up", .ref ud), (.inr "own", .ref od), (.inr "loose", .ref ld)], rfl, (by show 4 ≤ 15; decide), ?_⟩
  rw [show mergeK [] [(.inr "kinds", .ref kl), (.inr "up", .ref ud), (.inr "own", .ref od), (.inr "loose", .ref ld)] = [(.inr "kinds", .ref kl), (.inr "up", .ref ud), (.inr "own", .ref od), (.inr "loose", .ref ld)] from mergeK_app _ [] (show (sk ["kinds", "up", "own", "loose"]).Nodup from sk_nd (by decide +kernel))]
  have B11 := B10.put 6 (.dK [(.inr "kinds", .ref kl), (.inr "up", .ref ud), (.inr "own", .ref od), (.inr "loose", .ref ld)])
  refine ⟨_, rfl, .inr (.inr (.inl ⟨rfl, .inl ⟨_, B11.get 6⟩⟩)), fun qd nqd => ?_⟩
  have B12 := B11.new nqd (.dK [])
  refine fun wd nwd => fun w0 nw0 => ?_
  have B14 := (B12.new nwd (.dK [])).new nw0 (.dK [])
  refine ⟨B14.get 1, [(.inr "thing", .ref w0)], rfl, (by show 1 ≤ 15; decide), ?_⟩
  have B15 := B14.put 1 (.dK (mergeK [] [(.inr "thing", .ref w0)]))
  refine fun t1 n1 t2 n2 => ⟨(by show 0 ≤ sizeLine; decide), fun t3 n3 => ?_⟩
  have B18 := ((B15.new n1 (.dK [])).new n2 (.dK [])).new n3 (.lst [])
  refine fun bd nbd => ⟨(by show 0 ≤ sizeLine; decide), fun t4 n4 => ?_⟩
  have B20 := (B18.new nbd (.dK [])).new n4 (.lst [])
  refine ⟨B20.get 1, [(.inr "stack", .ref t4)], rfl, (by show 1 ≤ 15; decide), ?_⟩
  have B21 := B20.put 1 (.dK (mergeK [] [(.inr "stack", .ref t4)]))
  refine ⟨B21.get 7, [(.inr "ways", .ref wd), (.inr "things", .ref t1), (.inr "held", .ref t2), (.inr "next", .int 0), (.inr "frames", .ref t3), (.inr "base", .ref bd)], rfl, (by show 6 ≤ 15; decide), ?_⟩
  rw [show mergeK [] [(.inr "ways", .ref wd), (.inr "things", .ref t1), (.inr "held", .ref t2), (.inr "next", .int 0), (.inr "frames", .ref t3), (.inr "base", .ref bd)] = [(.inr "ways", .ref wd), (.inr "things", .ref t1), (.inr "held", .ref t2), (.inr "next", .int 0), (.inr "frames", .ref t3), (.inr "base", .ref bd)] from mergeK_app _ [] (show (sk ["ways", "things", "held", "next", "frames", "base"]).Nodup from sk_nd (by decide +kernel))]
  have B22 := B21.put 7 (.dK [(.inr "ways", .ref wd), (.inr "things", .ref t1), (.inr "held", .ref t2), (.inr "next", .int 0), (.inr "frames", .ref t3), (.inr "base", .ref bd)])
  refine ⟨p, qd, _, _, rfl, rfl, B22.ne 14 7 (by decide), B22.get 14, B22.get 7, (by show 10 ≤ 1000; decide), ?_⟩
  rw [show mergeK [(.inr "kinds", .ref kl), (.inr "up", .ref ud), (.inr "own", .ref od), (.inr "loose", .ref ld)] [(.inr "ways", .ref wd), (.inr "things", .ref t1), (.inr "held", .ref t2), (.inr "next", .int 0), (.inr "frames", .ref t3), (.inr "base", .ref bd)] = [(.inr "kinds", .ref kl), (.inr "up", .ref ud), (.inr "own", .ref od), (.inr "loose", .ref ld)] ++ [(.inr "ways", .ref wd), (.inr "things", .ref t1), (.inr "held", .ref t2), (.inr "next", .int 0), (.inr "frames", .ref t3), (.inr "base", .ref bd)] from mergeK_app _ _ (show (sk ["kinds", "up", "own", "loose", "ways", "things", "held", "next", "frames", "base"]).Nodup from sk_nd (by decide +kernel))]
  have B23 := B22.put 14 (.dK ([(.inr "kinds", .ref kl), (.inr "up", .ref ud), (.inr "own", .ref od), (.inr "loose", .ref ld)] ++ [(.inr "ways", .ref wd), (.inr "things", .ref t1), (.inr "held", .ref t2), (.inr "next", .int 0), (.inr "frames", .ref t3), (.inr "base", .ref bd)]))
  refine ⟨_, rfl, q _ _ p ⟨B23.noT rfl, ⟨kl, ud, od, ld, wd⟩, [o0], [l0], [w0], [(.inr "kinds", .ref kl), (.inr "up", .ref ud), (.inr "own", .ref od), (.inr "loose", .ref ld)] ++ [(.inr "ways", .ref wd), (.inr "things", .ref t1), (.inr "held", .ref t2), (.inr "next", .int 0), (.inr "frames", .ref t3), (.inr "base", .ref bd)], ?_⟩ only_sub (fun b o e => B23.keep b o e (fun z => nomatch z)) B23.dom⟩
  refine ⟨B23.part 14, rfl, rfl, rfl, rfl, rfl, B23.part 13, B23.part 12, B23.part 11, B23.part 9, B23.part 6, rfl, rfl, rfl, fun i b k h1 h2 => ?_, fun i b k h1 h2 => ?_, fun i b h1 => ?_, ?_, ?_, fun b hb => ?_, wf0⟩
  · cases i with
    | zero => cases h1; cases h2; exact B23.part 10
    | succ i => simp at h1
  · cases i with
    | zero => cases h1; cases h2; exact B23.part 8
    | succ i => simp at h1
  · cases i with
    | zero => cases h1; exact B23.part 5
    | succ i => simp at h1
  · simp only [List.nodup_cons, List.mem_cons, List.not_mem_nil, or_false, not_or, List.nodup_nil, and_true]
    exact ⟨⟨B23.ne 13 12 (by decide), B23.ne 13 11 (by decide), B23.ne 13 9 (by decide), B23.ne 13 6 (by decide)⟩, ⟨B23.ne 12 11 (by decide), B23.ne 12 9 (by decide), B23.ne 12 6 (by decide)⟩, ⟨B23.ne 11 9 (by decide), B23.ne 11 6 (by decide)⟩, B23.ne 9 6 (by decide), not_false⟩
  · simp only [List.mem_cons, List.not_mem_nil, or_false, not_or]
    exact ⟨B23.ne 14 13 (by decide), B23.ne 14 12 (by decide), B23.ne 14 11 (by decide), B23.ne 14 9 (by decide), B23.ne 14 6 (by decide)⟩
  · simp only [List.cons_append, List.nil_append, List.mem_cons, List.not_mem_nil, or_false] at hb
    simp only [List.mem_cons, List.not_mem_nil, or_false, not_or]
    rcases hb with rfl | rfl | rfl
    · exact ⟨B23.ne 10 13 (by decide), B23.ne 10 12 (by decide), B23.ne 10 11 (by decide), B23.ne 10 9 (by decide), B23.ne 10 6 (by decide)⟩
    · exact ⟨B23.ne 8 13 (by decide), B23.ne 8 12 (by decide), B23.ne 8 11 (by decide), B23.ne 8 9 (by decide), B23.ne 8 6 (by decide)⟩
    · exact ⟨B23.ne 5 13 (by decide), B23.ne 5 12 (by decide), B23.ne 5 11 (by decide), B23.ne 5 9 (by decide), B23.ne 5 6 (by decide)⟩
end
end B1

set_option maxRecDepth 100000
set_option maxHeartbeats 1000000
namespace B1
open PySem PySem.Spec PyProof.Rows L2
abbrev sNK : Stmt := top 199
theorem scNK : FnScope ["_law_plain", "_law_name", "_law_up_here", "_law_own", "_law_loose", "_law_one"] ["_law_plain", "_law_name", "_law_up_here", "_law_own", "_law_loose"] (defScope sNK) := ⟨rfl, rfl, rfl, by decide +kernel, rfl, by decide +kernel, by decide +kernel⟩
def wordOf : Nat → Str
  | 0 => "bad name"
  | 1 => "known"
  | 2 => "no kind"
  | _ => "bad field"
def okS (x : Str) : Prop := PyData.strOk x = true ∧ x.length ≤ 1000
def spNK (K : PySem.W.Frag) : Sp := fun vs H Q _ => ∃ (A : Hp) (p f g : Addr) (M : List Kd) (x e : Str) (own loose : List Str), vs = [.ref p, .str x, .str e, .ref f, .ref g] ∧ Pln K A p M ∧ Same A H ∧ TupD H f (own.map V.str) ∧ SqT K H g (loose.map V.str) ∧
  okS x ∧ (∀ y ∈ own, okS y) ∧ own.length ≤ 1000 ∧ loose.length ≤ 1000 ∧ M.length < 40 ∧ (∀ i l, IsLine M (some i) l → (sel M (·.own) l.reverse).length ≤ 100000) ∧
  (∀ n y, Bad M x e own loose n y → ∀ t H1, Same H H1 → H1 t = some (.tup [.str (wordOf n), .str y]) → Q (.ref t) H1) ∧
  (∀ i, Good M x e own loose i → ∀ A' H' t, Fp A H A' H' → Pln K A' p (M ++ [⟨x, some i, own, loose⟩]) → H' t = some (.tup [.str "told", .non]) → Q (.ref t) H')
theorem upN_old {M : List Kd} {k k' : Kd} {i : Nat} (w : Wf M) (h : M[i]? = some k) : upN (M ++ [k']) k = upN M k := by
  unfold upN
  cases he : k.elder with
  | none => rfl
  | some e =>
    have lt := w.up i k h e he
    have := (List.getElem?_eq_some_iff.mp h).1
    simp only []
    rw [List.getElem?_append_left (by omega)]
theorem upN_all {M : List Kd} {x : Str} {own loose : List Str} {i : Nat} {k : Kd} (w : Wf M) (h : M[i]? = some k) : (M ++ [(⟨x, some i, own, loose⟩ : Kd)]).map (upN (M ++ [⟨x, some i, own, loose⟩])) = M.map (upN M) ++ [.str k.name] := by
  rw [List.map_append]
  congr 1
  · apply List.ext_getElem?
    intro j
    rw [List.getElem?_map, List.getElem?_map]
    cases hj : M[j]? with
    | none => rfl
    | some kj => simp only [Option.map_some]; rw [upN_old w hj]
  · have : (M ++ [(⟨x, some i, own, loose⟩ : Kd)])[i]? = some k := by rw [List.getElem?_append_left (List.getElem?_eq_some_iff.mp h).1]; exact h
    simp [upN, this]
theorem pset_d {X : Cx} (hu : X.A.units + 1 < cLine) : PSet X (fun o i v H Q => ∃ (a : Addr) (H' : Hp), o = .ref a ∧ DPut H a i v H' ∧ Q H') := by
  intro pins s σ H o i v ov iv u Q I ro ri rv h
  obtain ⟨a, H', rfl, hp, q⟩ := h
  cases ro
  exact d_setItem hu I hp ri rv fun s' J => ⟨H', J, q⟩
section
variable {P : Program} {w : World} {K : PySem.W.Frag} {mg : Str → Option Value} {base : Heap} {f fN fAF : Addr} {fd dN dAF : FuncData}
theorem ok_nk (F : Fun K "_law_new_kind" "_law_new_kind" sNK f fd) (B : Bl mg)
    (G : FnOk P w K mg base CX0 1 fN dN ["_law_part"] (spNa K)) (bG : Binds K dN ["_law_part"] []) (kG : PySem.W.keepIn K (.ref fN) = true) (mG : mg "_law_named" = some (.ref fN))
    (GA : FnOk P w K mg base CX0 2 fAF dAF ["_law_plain", "_law_kind"] (spAF K)) (bA : Binds K dAF ["_law_plain", "_law_kind"] []) (kA : PySem.W.keepIn K (.ref fAF) = true) (mA : mg "_law_all_fields" = some (.ref fAF)) :
    FnOk P w K mg base CX0 3 f fd ["_law_plain", "_law_name", "_law_up_here", "_law_own", "_law_loose"] (spNK K) := by
  refine F.ok scNK (fun vs H Q E h => ?_) (fun cdv A0 outer s0 H vs Q E hr h => ?_)
  · obtain ⟨A, p, f, g, M, x, e, own, loose, rfl, _⟩ := h
    rfl
  obtain ⟨A, p, fa, ga, M, x, e, own, loose, rfl, PL, sm, hf, hg, hx, hox, hol, hll, hM, hsum, q1, q2⟩ := h
  have hu := hu_of hr
  have h1 := hr.mono (show 1 ≤ 2 by decide)
  refine ⟨_, (pss_cons (ps_if (pt_not (pt_val (pe_call G h1 rfl mG kG bG .nil pass0 (pa_cons (pv 1) pa_nil)))) (pss_one (ps_ret (pe_tup (pa_cons pe_str (pa_cons (pv 1) pa_nil))))) pss_nil) (pss_cons (ps_if (pt_cmpR op_in_seq (pv 1) (pe_dget hu (pv 0) pe_str (fun _ _ => rfl)) rfl) (pss_one (ps_ret (pe_tup (pa_cons pe_str (pa_cons (pv 1) pa_nil))))) pss_nil) (pss_cons (ps_if (pt_cmpR op_notIn_seq (pv 2) (pe_dget hu (pv 0) pe_str (fun _ _ => rfl)) rfl) (pss_one (ps_ret (pe_tup (pa_cons pe_str (pa_cons (pv 2) pa_nil))))) pss_nil) (pss_cons (ps_for PassesOwn.never rfl (pi_tup (pv 3)) (pg_name (i := 5) scNK.nd rfl (.inl rfl)) (pss_one (ps_if (PW.pt (pw_or (pt_not (pt_val (pe_call G h1 rfl mG kG bG .nil pass0 (pa_cons (pv 5) pa_nil)))) (pw_or (pt_cmpR op_gt (pe_cntT (pv 3) (pa_cons (pv 5) pa_nil)) pe_int (nomark _)) (pw_or1 (pt_cmpR op_in_seq (pv 5) (pe_call GA hr rfl mA kA bA .nil pass0 (pa_cons (pv 0) (pa_cons (pv 2) pa_nil))) rfl))))) (pss_one (ps_ret (pe_tup (pa_cons pe_str (pa_cons (pv 5) pa_nil))))) pss_nil))) (pss_cons (ps_for PassesOwn.never rfl (pi_tup (pv 4)) (pg_name (i := 5) scNK.nd rfl (.inl rfl)) (pss_one (ps_if (pt_cmpR op_notIn_seq (pv 5) (pv 3) rfl) (pss_one (ps_ret (pe_tup (pa_cons pe_str (pa_cons (pv 5) pa_nil))))) pss_nil))) (pss_cons (ps_expr (pe_bm PySem.F.plainAttrs_list PySem.F.slot_list_append PySem.F.type_list_append mt_append (pe_dget hu (pv 0) pe_str (fun _ _ => rfl)) (pa_cons (pv 1) pa_nil))) (pss_cons (ps_dput hu (pe_dget hu (pv 0) pe_str (fun _ _ => rfl)) (pv 1) (pv 2) rfl) (pss_cons (ps_asg (pe_tup (pa_cons (pe_callTy call_list_of rfl B.list bt_list (pa_cons (pv 3) pa_nil)) (pa_cons (pe_callTy call_list_of rfl B.list bt_list (pa_cons (pv 4) pa_nil)) pa_nil))) (pg_tup (by rfl) (pgs_cons (pg_sub (pe_dget hu (pv 0) pe_str (fun _ _ => rfl)) (pv 1) (pset_d hu)) (pgs_cons (pg_sub (pe_dget hu (pv 0) pe_str (fun _ _ => rfl)) (pv 1) (pset_d hu)) pgs_nil)))) (pss_cons (ps_dput hu (pe_dget hu (pv 0) pe_str (fun _ _ => rfl)) (pv 1) pe_dnewK rfl) (pss_one (ps_ret (pe_tup (pa_cons pe_str (pa_cons pe_non pa_nil)))))))))))))), ?_⟩
  obtain ⟨nt, a, os, ls, ws, kvs, S⟩ := PL
  have PL : Pln K A p M := ⟨nt, a, os, ls, ws, kvs, S⟩
  have few := S.wf.few
  have xN : ∀ y : Str, okS y → ∀ z, PyData.str y = .str z → PyData.strOk z = true ∧ z.length ≤ 1000000 := fun y hy z e => by cases e; exact ⟨hy.1, Nat.le_trans hy.2 (by decide)⟩
  refine ⟨_, rfl, _, .str x, rfl, .str x, xN x hx, fun H1 s1 => ⟨_, rfl, ?_⟩⟩
  have tell : ∀ (n : Nat) (y : Str) (H1 : Hp), Bad M x e own loose n y → Same H H1 → ∀ t, H1 t = none → Q (.ref t) (upd H1 t (.tup [.str (wordOf n), .str y])) := fun n y H1 b s1 t nt' => q1 n y b t _ (s1.trans (same_new nt' _)) upd_same
  refine ite2 (fun c1 => ?_) (fun c1 => ?_)
  · exact ⟨_, rfl, (by show 2 ≤ sizeLine; decide), tell 0 x H1 (.name (by simpa using c1)) s1⟩
  have c1' : nmOk x = true := by simpa using c1
  have k1 := sm.trans s1
  refine ⟨_, rfl, _, rfl, p, _, rfl, dg (k := .inr "kinds") (k1 _ _ S.at_) S.v1, a.kl, _, rfl, .inl (SqL.of (k1 _ _ S.kl)), rfl, strs_flat _, _, rfl, ?_⟩
  rw [if_neg Bool.false_ne_true, strs_in]
  refine ite2 (fun c2 => ?_) (fun c2 => ?_)
  · exact ⟨_, rfl, (by show 2 ≤ sizeLine; decide), tell 1 x H1 (.known c1' (of_decide_eq_true c2)) s1⟩
  have c2' : x ∉ M.map (·.name) := fun z => c2 (decide_eq_true z)
  refine ⟨_, rfl, _, rfl, p, _, rfl, dg (k := .inr "kinds") (k1 _ _ S.at_) S.v1, a.kl, _, rfl, .inl (SqL.of (k1 _ _ S.kl)), rfl, strs_flat _, _, rfl, ?_⟩
  rw [if_pos rfl, strs_in]
  refine ite2 (fun c3 => ?_) (fun c3 => ?_)
  · exact ⟨_, rfl, (by show 2 ≤ sizeLine; decide), tell 2 e H1 (.kind c1' c2' (of_decide_eq_false (by simpa using c3))) s1⟩
  have c3' : e ∈ M.map (·.name) := of_decide_eq_true (by simpa using c3)
  obtain ⟨k, hkm, hke⟩ := List.mem_map.mp c3'
  obtain ⟨i, hi⟩ := List.mem_iff_getElem?.mp hkm
  obtain ⟨l, hL, hll'⟩ := IsLine.ex S.wf i i (Nat.le_refl _) (List.getElem?_eq_some_iff.mp hi).1
  have hil := (List.getElem?_eq_some_iff.mp hi).1
  subst hke
  -- the own fields
  refine ⟨_, rfl, fa, rfl, ⟨_, (hf.same s1).sq⟩, for_tup (xs := own.map V.str) (fun j σ H' => ∃ y, σ = [some (.ref p), some (.str x), some (.str k.name), some (.ref fa), some (.ref ga), y] ∧ Same H H' ∧ ∀ z ∈ own.take j, badO own (sel M (·.own) l.reverse) z = false) ⟨_, rfl, s1, by simp⟩ (fun j σ H' _ ⟨y, _, s1, _⟩ => (hf.same s1).sq) ?_ ?_⟩
  · rintro j v σ H2 hv ⟨y, rfl, s2, hn⟩
    rw [List.getElem?_map] at hv
    obtain ⟨z, hz, rfl⟩ := Option.map_eq_some_iff.mp hv
    have hzo := hox z (List.mem_of_getElem? hz)
    refine ⟨_, rfl, _, .str z, rfl, .str z, xN z hzo, fun H3 s3 => ⟨_, rfl, ?_⟩⟩
    have s23 := s2.trans s3
    have bad : ∀ H4, Same H H4 → badO own (sel M (·.own) l.reverse) z = true → ∀ t, H4 t = none → Q (.ref t) (upd H4 t (.tup [.str (wordOf 3), .str z])) := fun H4 s4 hb => tell 3 z H4 (.own c1' c2' hi rfl hL (find_at hn hz hb)) s4
    refine ite2 (fun e1 => ?_) (fun e1 => ?_)
    · refine iteT ⟨_, rfl, (by show 2 ≤ sizeLine; decide), bad H3 s23 ?_⟩
      have e' : nmOk z = false := by simpa using e1
      unfold badO; rw [e']; rfl
    · have e' : nmOk z = true := by simpa using e1
      refine ⟨_, rfl, ⟨fa, _, rfl, hf.same s23⟩, _, rfl, fa, _, _, rfl, rfl, hf.same s23, rfl, strs_flat _, _, _, rfl, rfl, _, rfl, ?_⟩
      rw [strs_count]
      refine ite2 (fun e2 => ?_) (fun e2 => ?_)
      · refine iteT ⟨_, rfl, (by show 2 ≤ sizeLine; decide), bad H3 s23 ?_⟩
        have : 1 < own.count z := by have := of_decide_eq_true e2; omega
        unfold badO; rw [e', decide_eq_true this]; rfl
      · have hc : ¬ 1 < own.count z := fun y => e2 (decide_eq_true (by omega))
        refine ⟨_, rfl, _, rfl, _, rfl, A, p, M, i, k, l, rfl, PL, sm.trans s23, hi, hL, by omega, hsum i l hL, fun b H4 s4 hb4 => ⟨b, _, rfl, .inl (SqL.of hb4), rfl, strs_flat _, _, rfl, ?_⟩⟩
        have s24 := s23.trans s4
        rw [if_neg Bool.false_ne_true, strs_in]
        refine ite2 (fun e3 => ?_) (fun e3 => ?_)
        · refine ⟨_, rfl, (by show 2 ≤ sizeLine; decide), bad H4 s24 ?_⟩
          unfold badO; rw [e3]; simp
        · refine ⟨_, rfl, s24, take_all hn hz ?_⟩
          unfold badO
          rw [e', decide_eq_false hc, Bool.eq_false_iff.mpr e3]; rfl
  rintro σ H2 ⟨y, rfl, s2, hn⟩
  rw [List.length_map] at hn
  have fn := find_none hn
  refine ⟨_, rfl, ga, rfl, ⟨_, same_sqT s2 hg⟩, for_tup (xs := loose.map V.str) (fun j σ H' => ∃ y, σ = [some (.ref p), some (.str x), some (.str k.name), some (.ref fa), some (.ref ga), y] ∧ Same H H' ∧ ∀ z ∈ loose.take j, badW own z = false) ⟨_, rfl, s2, by simp⟩ (fun j σ H' _ ⟨y, _, s1, _⟩ => same_sqT s1 hg) ?_ ?_⟩
  · rintro j v σ H3 hv ⟨y, rfl, s3, hn2⟩
    rw [List.getElem?_map] at hv
    obtain ⟨z, hz, rfl⟩ := Option.map_eq_some_iff.mp hv
    refine ⟨_, rfl, _, rfl, fa, _, rfl, .inr (hf.same s3).sq, rfl, strs_flat _, _, rfl, ?_⟩
    rw [if_pos rfl, strs_in]
    refine ite2 (fun e3 => ?_) (fun e3 => ?_)
    · exact ⟨_, rfl, (by show 2 ≤ sizeLine; decide), tell 3 z H3 (.weak c1' c2' hi rfl hL fn (find_at hn2 hz e3)) s3⟩
    · exact ⟨_, rfl, s3, take_all hn2 hz (Bool.eq_false_iff.mpr e3)⟩
  rintro σ H3 ⟨y', rfl, s3, hn2⟩
  rw [List.length_map] at hn2
  have gd : Good M x k.name own loose i := ⟨c1', c2', ⟨k, l, hi, rfl, hL, fn⟩, find_none hn2⟩
  have sm3 := sm.trans s3
  have hf3 := hf.same s3
  have hg3 := same_sqT s3 hg
  have B0 : Bw H3 H3 [a.kl, a.ud, a.od, a.ld, a.wd] [(a.kl, .lst ((M.map (·.name)).map V.str)), (a.ud, .dK ((sk (M.map (·.name))).zip (M.map (upN M)))), (a.od, .dK ((sk (M.map (·.name))).zip (os.map V.ref))), (a.ld, .dK ((sk (M.map (·.name))).zip (ls.map V.ref))), (a.wd, .dK ((sk (M.map (·.name))).zip (ws.map V.ref)))] := by
    refine ⟨S.nd, fun p hp => ?_, fun p hp => ?_, fun b u e _ => e, fun b u e z => by rw [e] at z; cases z⟩
    · simp only [List.mem_cons, List.not_mem_nil, or_false] at hp
      rcases hp with rfl | rfl | rfl | rfl | rfl
      · exact sm3 _ _ S.kl
      · exact sm3 _ _ S.ud
      · exact sm3 _ _ S.od
      · exact sm3 _ _ S.ld
      · exact sm3 _ _ S.wd
    · left
      simp only [List.mem_cons, List.not_mem_nil, or_false] at hp
      rcases hp with rfl | rfl | rfl | rfl | rfl <;> simp
  have pAt : ∀ {H' : Hp}, (∀ c u, H3 c = some u → c ∉ ([a.kl, a.ud, a.od, a.ld, a.wd] : List Addr) → H' c = some u) → H' p = some (.dK kvs) := fun {H'} hk => hk _ _ (sm3 _ _ S.at_) S.np
  have disj : ∀ {b : Addr} {o : HO}, H3 b = some o → (∀ xs, o ≠ .lst xs) → (∀ xs, o ≠ .dK xs) → b ∉ ([a.kl, a.ud, a.od, a.ld, a.wd] : List Addr) := fun {b o} hb n1 n2 z => by
    simp only [List.mem_cons, List.not_mem_nil, or_false] at z
    rcases z with rfl | rfl | rfl | rfl | rfl
    · rw [sm3 _ _ S.kl] at hb; cases hb; exact n1 _ rfl
    · rw [sm3 _ _ S.ud] at hb; cases hb; exact n2 _ rfl
    · rw [sm3 _ _ S.od] at hb; cases hb; exact n2 _ rfl
    · rw [sm3 _ _ S.ld] at hb; cases hb; exact n2 _ rfl
    · rw [sm3 _ _ S.wd] at hb; cases hb; exact n2 _ rfl
  have keepT : ∀ {H' : Hp} {b : Addr} {xs : List V}, (∀ c u, H3 c = some u → c ∉ ([a.kl, a.ud, a.od, a.ld, a.wd] : List Addr) → H' c = some u) → SqT K H3 b xs → SqT K H' b xs := fun {H' b xs} hk hs => by
    rcases hs with (h | ⟨o, h⟩) | h
    · exact .inl (.inl (hk _ _ h (disj h (fun _ z => nomatch z) fun _ z => nomatch z)))
    · exact .inl (.inr ⟨o, hk _ _ h (disj h (fun _ z => nomatch z) fun _ z => nomatch z)⟩)
    · exact .inr h
  have sl : ∀ {vs : List V}, vs.length = M.length → ((sk (M.map (·.name))).zip vs).length < sizeLine := fun {vs} hv => by
    rw [zip_len (by simp [sk, hv])]
    simp only [sk, List.length_map]
    exact smallM (by omega)
  refine ⟨_, rfl, p, _, rfl, dg (k := .inr "kinds") (pAt B0.keep) S.v1, .inl ⟨rfl, _, SqL.of (B0.get 0)⟩, _, rfl, a.kl, _, _, rfl, rfl, B0.get 0, (by simp only [List.length_map]; exact smallM (by omega)), ?_⟩
  have B1 := B0.put 0 (.lst ((M.map (·.name)).map V.str ++ [.str x]))
  generalize upd H3 a.kl (.lst ((M.map (·.name)).map V.str ++ [.str x])) = H4 at B1 ⊢
  refine ⟨_, rfl, _, rfl, p, _, rfl, dg (k := .inr "up") (pAt B1.keep) S.v2, _, rfl, a.ud, _, rfl, DPut.k (k := .inr x) (B1.get 1) (sl (by simp)), ?_⟩
  have B2 := B1.put 1 (.dK (putK ((sk (M.map (·.name))).zip (M.map (upN M))) (.inr x) (.str k.name)))
  generalize upd H4 a.ud (.dK (putK ((sk (M.map (·.name))).zip (M.map (upN M))) (.inr x) (.str k.name))) = H5 at B2 ⊢
  refine ⟨_, rfl, fa, _, rfl, .inr (keepT B2.keep hf3.sq), fun lo nlo => ?_⟩
  have B3 := B2.new nlo (.lst (own.map V.str))
  have lo3 : H3 lo = none := by
    cases e : H3 lo with
    | none => rfl
    | some u => exact absurd nlo (B2.there lo u e)
  refine ⟨_, rfl, ga, _, rfl, .inr (keepT B3.keep hg3), fun ll nll => ⟨(by show 2 ≤ sizeLine; decide), fun tt ntt => ?_⟩⟩
  have ll3 : H3 ll = none := by
    cases e : H3 ll with
    | none => rfl
    | some u => exact absurd nll (B3.there ll u e)
  have B5 := (B3.new nll (.lst (loose.map V.str))).new ntt (.tup [.ref lo, .ref ll])
  generalize upd (upd (upd H5 lo (.lst (own.map V.str))) ll (.lst (loose.map V.str))) tt (.tup [.ref lo, .ref ll]) = H6 at B5 ⊢
  refine ⟨tt, _, rfl, SqT.of (B5.get 0), rfl, _, _, rfl, ?_⟩
  refine ⟨_, rfl, p, _, rfl, dg (k := .inr "own") (pAt B5.keep) S.v3, _, rfl, a.od, _, rfl, DPut.k (k := .inr x) (B5.get 5) (sl (by simp [S.lo])), ?_⟩
  have B6 := B5.put 5 (.dK (putK ((sk (M.map (·.name))).zip (os.map V.ref)) (.inr x) (.ref lo)))
  refine ⟨_, _, rfl, _, rfl, p, _, rfl, dg (k := .inr "loose") (pAt B6.keep) S.v4, _, rfl, a.ld, _, rfl, DPut.k (k := .inr x) (B6.get 6) (sl (by simp [S.ll])), ?_⟩
  have B7 := B6.put 6 (.dK (putK ((sk (M.map (·.name))).zip (ls.map V.ref)) (.inr x) (.ref ll)))
  generalize upd (upd H6 a.od (.dK (putK ((sk (M.map (·.name))).zip (os.map V.ref)) (.inr x) (.ref lo)))) a.ld (.dK (putK ((sk (M.map (·.name))).zip (ls.map V.ref)) (.inr x) (.ref ll))) = H7 at B7 ⊢
  refine ⟨rfl, fun w' nw' => ?_⟩
  have w3 : H3 w' = none := by
    cases e : H3 w' with
    | none => rfl
    | some u => exact absurd nw' (B7.there w' u e)
  have B8 := B7.new nw' (.dK [])
  refine ⟨_, rfl, p, _, rfl, dg (k := .inr "ways") (pAt B8.keep) S.v5, _, rfl, a.wd, _, rfl, DPut.k (k := .inr x) (B8.get 8) (sl (by simp [S.lw])), ?_⟩
  have B9 := B8.put 8 (.dK (putK ((sk (M.map (·.name))).zip (ws.map V.ref)) (.inr x) (.ref w')))
  generalize upd (upd H7 w' (.dK [])) a.wd (.dK (putK ((sk (M.map (·.name))).zip (ws.map V.ref)) (.inr x) (.ref w'))) = H8 at B9 ⊢
  refine ⟨(by show 2 ≤ sizeLine; decide), fun t nt' => ?_⟩
  have E := B9.new nt' (.tup [.str "told", .non])
  have ht9 : (upd H8 t (.tup [.str "told", .non])) t = some (.tup [.str "told", .non]) := upd_same
  generalize upd H8 t (.tup [.str "told", .non]) = H9 at E ht9 ⊢
  have fb := Fp.bulk (H' := H9) sm3 [a.kl, a.ud, a.od, a.ld, a.wd] [lo, ll, w'] (fun b hb => by
      simp only [List.mem_cons, List.not_mem_nil, or_false] at hb
      rcases hb with rfl | rfl | rfl | rfl | rfl
      · exact ⟨_, S.kl, id⟩
      · exact ⟨_, S.ud, id⟩
      · exact ⟨_, S.od, id⟩
      · exact ⟨_, S.ld, id⟩
      · exact ⟨_, S.wd, id⟩) (fun b hb => by
      simp only [List.mem_cons, List.not_mem_nil, or_false] at hb
      rcases hb with rfl | rfl | rfl
      · exact lo3
      · exact ll3
      · exact w3) E.keep
  generalize hA9 : (fun b => if b ∈ ([a.kl, a.ud, a.od, a.ld, a.wd] ++ [lo, ll, w'] : List Addr) then H9 b else A b) = A9 at fb
  have inA : ∀ b, b ∈ ([a.kl, a.ud, a.od, a.ld, a.wd] ++ [lo, ll, w'] : List Addr) → A9 b = H9 b := fun b hb => by rw [← hA9]; exact if_pos hb
  have out : ∀ b o, A b = some o → b ∉ ([a.kl, a.ud, a.od, a.ld, a.wd] : List Addr) → A9 b = some o := fun b o hb hn => by
    rw [← hA9]
    have : b ∉ ([a.kl, a.ud, a.od, a.ld, a.wd] ++ [lo, ll, w'] : List Addr) := fun z => by
      rcases List.mem_append.mp z with z | z
      · exact hn z
      · have h3 := sm3 _ _ hb
        simp only [List.mem_cons, List.not_mem_nil, or_false] at z
        rcases z with rfl | rfl | rfl
        · rw [lo3] at h3; cases h3
        · rw [ll3] at h3; cases h3
        · rw [w3] at h3; cases h3
    exact (if_neg this).trans hb
  have eL : (M ++ [(⟨x, some i, own, loose⟩ : Kd)]).length = M.length + 1 := by simp
  have eN : (M ++ [(⟨x, some i, own, loose⟩ : Kd)]).map (·.name) = M.map (·.name) ++ [x] := by simp
  have zp : ∀ {vs : List V} {v : V}, vs.length = M.length → putK ((sk (M.map (·.name))).zip vs) (.inr x) v = (sk (M.map (·.name) ++ [x])).zip (vs ++ [v]) := fun {vs v} hv => by
    rw [zip_put (sk_not c2') (by simp [sk, hv])]
    simp [sk]
  refine q2 i gd A9 H9 t ((Fp.same sm s3).trans fb) ⟨fun b o hb ps z => ?_, a, os ++ [lo], ls ++ [ll], ws ++ [w'], kvs, ?_⟩ ht9
  · by_cases hm : b ∈ ([a.kl, a.ud, a.od, a.ld, a.wd] ++ [lo, ll, w'] : List Addr)
    · rw [inA b hm] at hb
      simp only [List.cons_append, List.nil_append, List.mem_cons, List.not_mem_nil, or_false] at hm
      subst z
      rcases hm with rfl | rfl | rfl | rfl | rfl | rfl | rfl | rfl
      · cases (E.get 5).symm.trans hb
      · cases (E.get 6).symm.trans hb
      · cases (E.get 7).symm.trans hb
      · cases (E.get 8).symm.trans hb
      · cases (E.get 9).symm.trans hb
      · cases (E.get 4).symm.trans hb
      · cases (E.get 3).symm.trans hb
      · cases (E.get 1).symm.trans hb
    · rw [← hA9] at hb
      exact nt b o ((if_neg hm).symm.trans hb) ps z
  · have noN : ∀ b ∈ ([lo, ll, w'] : List Addr), b ∉ ([a.kl, a.ud, a.od, a.ld, a.wd] : List Addr) := fun b hb z => by
      have hn : H3 b = none := by
        simp only [List.mem_cons, List.not_mem_nil, or_false] at hb
        rcases hb with rfl | rfl | rfl
        · exact lo3
        · exact ll3
        · exact w3
      simp only [List.mem_cons, List.not_mem_nil, or_false] at z
      rcases z with rfl | rfl | rfl | rfl | rfl
      · rw [sm3 _ _ S.kl] at hn; cases hn
      · rw [sm3 _ _ S.ud] at hn; cases hn
      · rw [sm3 _ _ S.od] at hn; cases hn
      · rw [sm3 _ _ S.ld] at hn; cases hn
      · rw [sm3 _ _ S.wd] at hn; cases hn
    have split : ∀ {L : List Addr} {c : Addr} {Z : Addr → Kd → Prop}, L.length = M.length → (∀ (j : Nat) (b : Addr) (kd : Kd), L[j]? = some b → M[j]? = some kd → Z b kd) → Z c ⟨x, some i, own, loose⟩ → ∀ (j : Nat) (b : Addr) (kd : Kd), (L ++ [c])[j]? = some b → (M ++ [(⟨x, some i, own, loose⟩ : Kd)])[j]? = some kd → Z b kd := fun {L c Z} hl h1 h2 j b kd hb hkd => by
      rcases Nat.lt_or_ge j M.length with lt | ge
      · rw [List.getElem?_append_left lt] at hkd
        rw [List.getElem?_append_left (by omega)] at hb
        exact h1 j b kd hb hkd
      · rw [List.getElem?_append_right ge] at hkd
        rw [List.getElem?_append_right (by omega), hl] at hb
        cases hz : j - M.length with
        | zero => rw [hz] at hkd hb; cases hkd; cases hb; exact h2
        | succ z => rw [hz] at hkd; simp at hkd
    refine ⟨out _ _ S.at_ S.np, S.v1, S.v2, S.v3, S.v4, S.v5, ?_, ?_, ?_, ?_, ?_, by simp [S.lo], by simp [S.ll], by simp [S.lw], split S.lo (fun j b kd hb hk => out _ _ (S.ros j b kd hb hk) (S.no b (List.mem_append_left _ (List.mem_of_getElem? hb)))) ((inA lo (by simp)).trans (E.get 4)), split S.ll (fun j b kd hb hk => out _ _ (S.rls j b kd hb hk) (S.no b (List.mem_append_right _ (List.mem_append_left _ (List.mem_of_getElem? hb))))) ((inA ll (by simp)).trans (E.get 3)), fun j b hb => ?_, S.nd, S.np, fun b hb => ?_, wf_snoc S.wf gd hM⟩
    · rw [inA a.kl (by simp), E.get 5, eN, List.map_append]; rfl
    · rw [inA a.ud (by simp), E.get 6, eN, zp (by simp), upN_all S.wf hi]
    · rw [inA a.od (by simp), E.get 7, eN, zp (by simp [S.lo]), List.map_append]; rfl
    · rw [inA a.ld (by simp), E.get 8, eN, zp (by simp [S.ll]), List.map_append]; rfl
    · rw [inA a.wd (by simp), E.get 9, eN, zp (by simp [S.lw]), List.map_append]; rfl
    · rcases Nat.lt_or_ge j ws.length with lt | ge
      · rw [List.getElem?_append_left lt] at hb
        exact out _ _ (S.rws j b hb) (S.no b (List.mem_append_right _ (List.mem_append_right _ (List.mem_of_getElem? hb))))
      · rw [List.getElem?_append_right ge] at hb
        cases hz : j - ws.length with
        | zero => rw [hz] at hb; cases hb; exact (inA w' (by simp)).trans (E.get 1)
        | succ z => rw [hz] at hb; simp at hb
    · have : b ∈ os ++ (ls ++ ws) ∨ b ∈ ([lo, ll, w'] : List Addr) := by
        simp only [List.mem_append, List.mem_cons, List.not_mem_nil, or_false] at hb ⊢
        rcases hb with (h | h) | (h | h) | (h | h)
        · exact .inl (.inl h)
        · exact .inr (.inl h)
        · exact .inl (.inr (.inl h))
        · exact .inr (.inr (.inl h))
        · exact .inl (.inr (.inr h))
        · exact .inr (.inr (.inr h))
      rcases this with h | h
      · exact S.no b h
      · exact noN b h
end
end B1

set_option maxRecDepth 100000
set_option maxHeartbeats 1000000
namespace B1
open PySem PySem.Spec PyProof.Rows L2
/-! ### what stands of the kinds -/
structure Iv (M : List Kd) : Prop where
  wf : Wf M
  nd : ∀ i l, IsLine M (some i) l → (sel M (·.own) l.reverse).Nodup
  lo : ∀ k ∈ M, ∀ y ∈ k.loose, y ∈ k.own
  sm : ∀ k ∈ M, okS k.name ∧ k.own.length ≤ 10 ∧ (∀ y ∈ k.own, okS y) ∧ k.loose.length ≤ 10
theorem iv0 : Iv [kd0] := by
  refine ⟨wf0, fun i l h => ?_, fun k hk y hy => ?_, fun k hk => ?_⟩
  · have : sel [kd0] (·.own) l.reverse = [] := by
      unfold sel
      rw [List.flatMap_eq_nil_iff]
      intro k hk
      obtain ⟨j, _, hj⟩ := List.mem_filterMap.mp hk
      have := List.mem_of_getElem? hj
      rw [List.mem_singleton.mp this]; rfl
    rw [this]; exact List.nodup_nil
  · rw [List.mem_singleton.mp hk] at hy; cases hy
  · rw [List.mem_singleton.mp hk]
    exact ⟨⟨by decide +kernel, by decide +kernel⟩, by decide, (fun y hy => nomatch hy), by decide⟩
theorem sel_len {M : List Kd} {g : Kd → List Str} {n : Nat} (h : ∀ k ∈ M, (g k).length ≤ n) : ∀ (l : List Nat), (sel M g l).length ≤ l.length * n
  | [] => by simp [sel]
  | i :: l => by
    have ih := sel_len h l
    unfold sel at ih ⊢
    rw [List.filterMap_cons, List.length_cons]
    cases e : M[i]? with
    | none =>
      have := Nat.le_trans ih (Nat.mul_le_mul_right n (Nat.le_succ l.length))
      exact this
    | some k =>
      have hk := h k (List.mem_of_getElem? e)
      simp only [List.flatMap_cons]
      rw [List.length_append, Nat.succ_mul]
      omega
theorem Iv.sums {M : List Kd} (v : Iv M) (i : Nat) (l : List Nat) (h : IsLine M (some i) l) : (sel M (·.own) l.reverse).length ≤ 100000 ∧ (sel M Kd.weak l.reverse).length ≤ 100000 := by
  have few := v.wf.few
  have hi : i < M.length := by
    cases h with
    | cons h1 _ => exact (List.getElem?_eq_some_iff.mp h1).1
  obtain ⟨l', h', hl'⟩ := IsLine.ex v.wf i i (Nat.le_refl _) hi
  rw [IsLine.fn h h']
  have a := sel_len (g := (·.own)) (n := 10) (fun k hk => (v.sm k hk).2.1) l'.reverse
  have b := sel_len (g := Kd.weak) (n := 10) (fun k hk => Nat.le_trans (List.length_filter_le _ _) (v.sm k hk).2.1) l'.reverse
  rw [List.length_reverse] at a b
  exact ⟨by omega, by omega⟩
theorem isLine_of {M : List Kd} {k : Kd} : ∀ {o : Option Nat} {l : List Nat}, IsLine (M ++ [k]) o l → (∀ i, o = some i → i < M.length) → Wf M → IsLine M o l
  | _, _, .nil, _, _ => .nil
  | _, _, .cons (i := i) (k := k') h t, ho, w => by
    have hi := ho i rfl
    rw [List.getElem?_append_left hi] at h
    exact .cons h (isLine_of t (fun e he => Nat.lt_trans (w.up i k' h e he) hi) w)
theorem sel_mono {M : List Kd} {k : Kd} {g : Kd → List Str} : ∀ {l : List Nat}, (∀ i ∈ l, i < M.length) → sel (M ++ [k]) g l = sel M g l
  | [], _ => rfl
  | i :: l, h => by
    have e : (M ++ [k])[i]? = M[i]? := List.getElem?_append_left (h i List.mem_cons_self)
    have ih := sel_mono (k := k) (g := g) (l := l) fun j hj => h j (List.mem_cons_of_mem _ hj)
    unfold sel at ih ⊢
    rw [List.filterMap_cons, List.filterMap_cons, e]
    cases M[i]? with
    | none => exact ih
    | some k' =>
      show g k' ++ _ = g k' ++ _
      exact congrArg (g k' ++ ·) ih
theorem nodup_count {l : List Str} (h : ∀ x ∈ l, ¬ 1 < l.count x) : l.Nodup := by
  rw [List.nodup_iff_count]
  intro x
  by_cases hx : x ∈ l
  · have := h x hx; omega
  · rw [List.count_eq_zero_of_not_mem hx]; omega
theorem Iv.snoc {M : List Kd} {x e : Str} {own loose : List Str} {i : Nat} (v : Iv M) (g : Good M x e own loose i) (hM : M.length < 40) (hx : okS x) (ho : own.length ≤ 10) (hoy : ∀ y ∈ own, okS y) (hlo : loose.length ≤ 10) : Iv (M ++ [⟨x, some i, own, loose⟩]) := by
  have w2 := wf_snoc v.wf g hM
  obtain ⟨k, l, hk, hke, hL, hfi⟩ := g.up
  have allO := List.find?_eq_none.mp hfi
  refine ⟨w2, fun j l' hl' => ?_, fun k' hk' y hy => ?_, fun k' hk' => ?_⟩
  · have hj : j < (M ++ [(⟨x, some i, own, loose⟩ : Kd)]).length := by
      cases hl' with
      | cons h1 _ => exact (List.getElem?_eq_some_iff.mp h1).1
    rcases Nat.lt_or_ge j M.length with lt | ge
    · have hm := isLine_of hl' (fun z hz => by cases hz; exact lt) v.wf
      rw [sel_mono (fun z hz => isLine_lt hm z (List.mem_reverse.mp hz))]
      exact v.nd j l' hm
    · have ej : j = M.length := by simp at hj; omega
      subst ej
      cases hl' with
      | @cons _ k' r h1 h2 =>
        have e1 : k' = ⟨x, some i, own, loose⟩ := by simpa using h1.symm
        subst e1
        have hil := (List.getElem?_eq_some_iff.mp hk).1
        have hr := isLine_of h2 (fun z hz => by cases hz; exact hil) v.wf
        have er := IsLine.fn hL hr
        subst er
        rw [List.reverse_cons, sel_snoc h1, sel_mono (fun z hz => isLine_lt hL z (List.mem_reverse.mp hz))]
        refine List.nodup_append.mpr ⟨v.nd i l hL, nodup_count fun y hy => ?_, fun a ha b hb e => ?_⟩
        · have := allO y hy
          unfold badO at this
          simp only [Bool.or_eq_true, not_or, decide_eq_true_eq] at this
          exact this.1.2
        · have := allO b hb
          unfold badO at this
          simp only [Bool.or_eq_true, not_or, decide_eq_true_eq] at this
          exact this.2 (e ▸ ha)
  · rcases List.mem_append.mp hk' with h | h
    · exact v.lo k' h y hy
    · rw [List.mem_singleton.mp h] at hy ⊢
      have := List.find?_eq_none.mp g.weak y hy
      unfold badW at this
      simpa using this
  · rcases List.mem_append.mp hk' with h | h
    · exact v.sm k' h
    · rw [List.mem_singleton.mp h]
      exact ⟨hx, ho, hoy, hlo⟩
/-! ### weak ones -/
theorem flat_uniq {L : List Kd} (h : (L.flatMap (·.own)).Nodup) : ∀ {k k' : Kd} {y : Str}, k ∈ L → k' ∈ L → y ∈ k.own → y ∈ k'.own → k = k' := by
  induction L with
  | nil => intro k k' y hk; cases hk
  | cons a L ih =>
    intro k k' y hk hk' h1 h2
    rw [List.flatMap_cons] at h
    obtain ⟨n1, n2, n3⟩ := List.nodup_append.mp h
    rcases List.mem_cons.mp hk with e1 | m1
    · rcases List.mem_cons.mp hk' with e2 | m2
      · exact e1.trans e2.symm
      · exact absurd rfl (n3 y (e1 ▸ h1) y (List.mem_flatMap.mpr ⟨k', m2, h2⟩))
    · rcases List.mem_cons.mp hk' with e2 | m2
      · exact absurd rfl (n3 y (e2 ▸ h2) y (List.mem_flatMap.mpr ⟨k, m1, h1⟩))
      · exact ih n2 m1 m2 h1 h2
theorem weak_eq {M : List Kd} {i : Nat} {l : List Nat} (v : Iv M) (h : IsLine M (some i) l) : (sel M (·.own) l.reverse).filter (fun y => decide (y ∈ sel M (·.loose) l)) = sel M Kd.weak l.reverse := by
  have nd := v.nd i l h
  have mm : ∀ k, k ∈ l.reverse.filterMap (fun (i : Nat) => M[i]?) ↔ k ∈ l.filterMap (fun (i : Nat) => M[i]?) := fun k => by
    simp only [List.mem_filterMap, List.mem_reverse]
  have inM : ∀ k ∈ l.filterMap (fun (i : Nat) => M[i]?), k ∈ M := fun k hk => by
    obtain ⟨j, _, hj⟩ := List.mem_filterMap.mp hk
    exact List.mem_of_getElem? hj
  unfold sel at nd ⊢
  rw [List.filter_flatMap]
  generalize hR : l.reverse.filterMap (fun (i : Nat) => M[i]?) = R at nd mm
  have key : ∀ k ∈ R, (List.filter (fun y => decide (y ∈ List.flatMap (fun x => x.loose) (List.filterMap (fun (i : Nat) => M[i]?) l))) k.own) = k.weak := fun k hk => by
    unfold Kd.weak
    apply List.filter_congr
    intro y hy
    apply decide_eq_decide.mpr
    constructor
    · intro hz
      obtain ⟨k', hk', hy'⟩ := List.mem_flatMap.mp hz
      have := flat_uniq nd hk ((mm k').mpr hk') hy (v.lo k' (inM k' hk') y hy')
      exact this ▸ hy'
    · exact fun hz => List.mem_flatMap.mpr ⟨k, (mm k).mp hk, hz⟩
  clear hR mm inM nd
  induction R with
  | nil => rfl
  | cons a R ih =>
    rw [List.flatMap_cons, List.flatMap_cons, key a List.mem_cons_self, ih fun k hk => key k (List.mem_cons_of_mem _ hk)]
/-! ### heirs -/
theorem heirs_eq {M : List Kd} {i : Nat} {k : Kd} (w : Wf M) (hk : M[i]? = some k) : nmsOf M (hs M M.length (some i)) = (M.filter fun k' => decide (upN M k' = .str k.name)).map (·.name) := by
  have key : ∀ (n : Nat), n ≤ M.length → (hs M n (some i)).filterMap (fun (j : Nat) => M[j]?) = (M.take n).filter fun k' => decide (upN M k' = .str k.name) := by
    intro n
    induction n with
    | zero => intro _; rfl
    | succ n ih =>
      intro hn
      have hl : n < M.length := hn
      have e := List.getElem?_eq_getElem hl
      rw [hs_succ e, List.take_add_one, e]
      simp only [Option.toList_some, List.filter_append]
      have test : (M[n].elder = some i) ↔ (upN M M[n] = .str k.name) := by
        unfold upN
        constructor
        · intro he; rw [he]; simp only [hk]
        · intro he
          cases h0 : M[n].elder with
          | none => rw [h0] at he; cases he
          | some e' =>
            rw [h0] at he
            have le := w.up n _ e e' h0
            have e'' := List.getElem?_eq_getElem (show e' < M.length by omega)
            simp only [e''] at he
            injection he with he
            rw [name_inj w e'' hk he]
      by_cases h : M[n].elder = some i
      · rw [if_pos h, List.filterMap_append, ih (by omega)]
        simp [e, test.mp h]
      · rw [if_neg h, ih (by omega)]
        have : ¬ upN M M[n] = .str k.name := fun z => h (test.mpr z)
        simp [this]
  unfold nmsOf
  rw [key M.length (Nat.le_refl _), List.take_length]
/-! ### rows of texts are equal -/
theorem strs_lay {xs : List Str} (h : ∀ x ∈ xs, PyData.strOk x = true) : SeqAt.shaped (.tuple (xs.map PyData.str)) = true := by
  have h1 : PyData.canLayAll0 (xs.map PyData.str) = true := by
    induction xs with
    | nil => simp [PyData.canLayAll0]
    | cons c xs ih =>
      rw [List.map_cons, PyData.canLayAll0, ih (fun d hd => h d (List.mem_cons_of_mem _ hd)), Bool.and_true]
      simp only [PyData.canLay0]
      exact h c List.mem_cons_self
  have h2 : PyData.depthAll (xs.map PyData.str) = 0 := by
    clear h h1
    induction xs with
    | nil => simp [PyData.depthAll]
    | cons c xs ih => rw [List.map_cons, PyData.depthAll, ih]; simp [PyData.depth]
  unfold SeqAt.shaped
  simp only [PyData.canLay0, PyData.depth, h1, h2]
  decide
theorem strs_dps {K : PySem.W.Frag} {H : Hp} : ∀ xs : List Str, DpAll K H (xs.map V.str) (xs.map PyData.str)
  | [] => .nil
  | _ :: xs => .cons (.str _) (strs_dps xs)
theorem strs_eqv : ∀ xs : List Str, PyData.eqvAll (xs.map PyData.str) (xs.map PyData.str) = true
  | [] => by simp [PyData.eqvAll]
  | x :: xs => by rw [List.map_cons, PyData.eqvAll, strs_eqv xs]; simp [PyData.eqv]
theorem ne_go {K : PySem.W.Frag} {H : Hp} {a b : Addr} {xs : List Str} {Q : VK} (ha : SqT K H a (xs.map V.str)) (hb : SqT K H b (xs.map V.str)) (h : ∀ x ∈ xs, PyData.strOk x = true) (q : Q (.bl false) H) : rNeD K (.ref a) (.ref b) H Q := by
  refine ⟨.tuple (xs.map PyData.str), .tuple (xs.map PyData.str), .tup ha (strs_dps xs), .tup hb (strs_dps xs), strs_lay h, strs_lay h, ?_⟩
  have : PyData.eqv (.tuple (xs.map PyData.str)) (.tuple (xs.map PyData.str)) = true := by
    unfold PyData.eqv
    exact strs_eqv xs
  rw [this]
  exact q
end B1

set_option maxRecDepth 100000
set_option maxHeartbeats 1000000
namespace B1
open PySem PySem.Spec PyProof.Rows L2
abbrev sKR : Stmt := top 200
abbrev nKR : List Str := ["_law_hall", "_law_plain", "_law_kind", "_law_line", "_law_loose", "_law_one", "_law_own", "_law_word"]
theorem scKR : FnScope nKR ["_law_hall", "_law_plain"] (defScope sKR) := ⟨rfl, rfl, rfl, by decide +kernel, rfl, by decide +kernel, by decide +kernel⟩
def EF : XK := fun _ _ _ => False
theorem passF {X : Cx} : Passes (L2.CX X.prog X.w) X EF := fun _ _ _ _ _ _ _ h => by
  obtain ⟨_, _, _, _, _, _, _, _, _, _, _, _, h⟩ := h
  exact h.elim
def spKR (K : PySem.W.Frag) (CH CS CK : Addr) : Sp := fun vs H Q _ => ∃ (A B : Hp) (h p : Addr) (M : List Kd), vs = [.ref h, .ref p] ∧ Hal K CH CS CK A h M ∧ Same A H ∧ Pln K B p M ∧ Same B H ∧ Iv M ∧ ∀ H', Same H H' → Q (.bl true) H'
theorem scal_up (M : List Kd) (k : Kd) (x : Str) : scal (upN M k) (.str x) = true := by
  unfold upN
  split
  · rfl
  · split <;> rfl
section
variable {P : Program} {w : World} {K : PySem.W.Frag} {mg : Str → Option Value} {base : Heap} {f fU fAF fk fl fh ff fw : Addr} {fd dU dAF dk dl dh df dw : FuncData} {CH CS CK CN : Addr}
theorem ok_kr (F : Fun K "_law_kinds_right" "_law_kinds_right" sKR f fd) (T : Tx K mg CH CS CK)
    (GU : FnOk P w K mg base CX0 1 fU dU ["_law_plain", "_law_kind"] (spUp K)) (bU : Binds K dU ["_law_plain", "_law_kind"] []) (kU : PySem.W.keepIn K (.ref fU) = true) (mU : mg "_law_up" = some (.ref fU))
    (GA : FnOk P w K mg base CX0 2 fAF dAF ["_law_plain", "_law_kind"] (spAF K)) (bA : Binds K dAF ["_law_plain", "_law_kind"] []) (kA : PySem.W.keepIn K (.ref fAF) = true) (mA : mg "_law_all_fields" = some (.ref fAF))
    (Gk : FnOk P w K mg base CX0 2 fk dk ["self"] (spHk K CH CS CK)) (bk : Binds K dk ["self"] []) (mk : Meth K CH "kinds" fk)
    (Gl : FnOk P w K mg base (L2.CX P w) 4 fl dl ["self", "kind"] (spRd K CH CS CK CN fun M i l => nmsOf M l)) (bl : Binds K dl ["self", "kind"] []) (ml : Meth K CH "line" fl)
    (Gh : FnOk P w K mg base (L2.CX P w) 4 fh dh ["self", "kind"] (spRd K CH CS CK CN fun M i l => nmsOf M (hs M M.length (some i)))) (bh : Binds K dh ["self", "kind"] []) (mh : Meth K CH "heirs" fh)
    (Gf : FnOk P w K mg base (L2.CX P w) 4 ff df ["self", "kind"] (spRd K CH CS CK CN fun M i l => sel M (·.own) l.reverse)) (bf : Binds K df ["self", "kind"] []) (mf : Meth K CH "fields_of" ff)
    (Gw : FnOk P w K mg base (L2.CX P w) 4 fw dw ["self", "kind"] (spRd K CH CS CK CN fun M i l => sel M Kd.weak l.reverse)) (bw : Binds K dw ["self", "kind"] []) (mw : Meth K CH "weak_of" fw) :
    FnOk P w K mg base CX0 5 f fd ["_law_hall", "_law_plain"] (spKR K CH CS CK) := by
  refine F.ok scKR (fun vs H Q E h => ?_) (fun cdv A0 outer s0 H vs Q E hr h => ?_)
  · obtain ⟨A, B, h, p, M, rfl, _⟩ := h
    rfl
  obtain ⟨A, B, h, p, M, rfl, HL, sA, PL, sB, iv, q⟩ := h
  have hu := hu_of hr
  have h1 := hr.mono (show 1 ≤ 4 by decide)
  have h2 := hr.mono (show 2 ≤ 4 by decide)
  have Bl := T.B
  refine ⟨_, (pss_cons (ps_if (pt_cmpR (op_neD hr.units) (pe_meth0 (pv 0) T.cH mk Gk h2 bk .nil pass0) (pe_callTy call_tuple_of rfl Bl.tuple bt_tuple (pa_cons (pe_dget hu (pv 1) pe_str (fun _ _ => rfl)) pa_nil)) (nomark _)) (pss_one (ps_ret pe_bl)) pss_nil) (pss_cons (ps_for PassesOwn.never rfl (pi_list (pe_dget hu (pv 1) pe_str (fun _ _ => rfl))) (pg_name (i := 2) scKR.nd rfl (.inr rfl)) (pss_cons (ps_asg (pe_tup (pa_cons (pe_call GU h1 rfl mU kU bU .nil pass0 (pa_cons (pv 1) (pa_cons (pv 2) pa_nil))) (pa_cons (pe_lst pa_nil) pa_nil))) (pg_tup (by rfl) (pgs_cons (pg_name (i := 3) scKR.nd rfl (.inl rfl)) (pgs_cons (pg_name (i := 4) scKR.nd rfl (.inr rfl)) pgs_nil)))) (pss_cons (ps_for PassesOwn.never rfl (pi_list (pv 3)) (pg_name (i := 5) scKR.nd rfl (.inl rfl)) (pss_one (ps_set (i := 4) scKR.nd rfl (.inr rfl) (pe_op op_cat (pv 4) (pe_dget hu (pe_dget hu (pv 1) pe_str (fun _ _ => rfl)) (pv 5) (fun _ _ => rfl)))))) (pss_cons (ps_set (i := 6) scKR.nd rfl (.inl rfl) (pe_call GA h2 rfl mA kA bA .nil pass0 (pa_cons (pv 1) (pa_cons (pv 2) pa_nil)))) (pss_cons (ps_if (PW.pt (pw_or (pt_cmpR (op_neD hr.units) (pe_meth (pv 0) T.cH ml Gl hr bl .nil passF (pa_cons (pv 2) pa_nil)) (pe_callTy call_tuple_of rfl Bl.tuple bt_tuple (pa_cons (pv 3) pa_nil)) (nomark _)) (pw_or1 (pt_cmpR (op_neD hr.units) (pe_meth (pv 0) T.cH mf Gf hr bf .nil passF (pa_cons (pv 2) pa_nil)) (pe_callTy call_tuple_of rfl Bl.tuple bt_tuple (pa_cons (pv 6) pa_nil)) (nomark _))))) (pss_one (ps_ret pe_bl)) pss_nil) (pss_cons (ps_if (pt_cmpR (op_neD hr.units) (pe_meth (pv 0) T.cH mh Gh hr bh .nil passF (pa_cons (pv 2) pa_nil)) (pe_callTy call_tuple_of rfl Bl.tuple bt_tuple (pa_cons (pe_lc (own := [("_law_one", 5)]) (g := (gName 5)) (by rfl) scKR.nd (pi_list (pe_dget hu (pv 1) pe_str (fun _ _ => rfl))) (blkOk_by (own := [("_law_one", 5)]) (N := nKR) (sc := defScope sKR) (by decide +kernel)) (fun _ _ _ _ _ => (pg_name (i := 5) scKR.nd rfl (Or.inl rfl))) (fun _ _ _ _ _ => pts_one (pt_cmpR op_eq (pe_dget hu (pe_dget hu (pv 1) pe_str (fun _ _ => rfl)) (pv 5) (fun _ _ => rfl)) (pv 2) (nomark _))) (fun _ _ _ _ _ => (pv 5))) pa_nil)) (nomark _)) (pss_one (ps_ret pe_bl)) pss_nil) (pss_cons (ps_if (pt_cmpR (op_neD hr.units) (pe_meth (pv 0) T.cH mw Gw hr bw .nil passF (pa_cons (pv 2) pa_nil)) (pe_callTy call_tuple_of rfl Bl.tuple bt_tuple (pa_cons (pe_lc (own := [("_law_one", 5)]) (g := (gName 5)) (by rfl) scKR.nd (pi_list (pv 6)) (blkOk_by (own := [("_law_one", 5)]) (N := nKR) (sc := defScope sKR) (by decide +kernel)) (fun _ _ _ _ _ => (pg_name (i := 5) scKR.nd rfl (Or.inl rfl))) (fun _ _ _ _ _ => pts_one (pt_cmpR (op_in_seqK (K := K) rfl) (pv 5) (pv 4) rfl)) (fun _ _ _ _ _ => (pv 5))) pa_nil)) (nomark _)) (pss_one (ps_ret pe_bl)) pss_nil) (pss_one (ps_lock (ps_for PassesOwn.never rfl (pi_keys (pe_dget hu (pe_dget hu (pv 1) pe_str (fun _ _ => rfl)) (pv 2) (fun _ _ => rfl))) (pg_name (i := 7) scKR.nd rfl (.inl rfl)) pss_never)))))))))) (pss_one (ps_ret pe_bl)))), ?_⟩
  obtain ⟨nt, a, os, ls, ws, kvs, S⟩ := PL
  have PL : Pln K B p M := ⟨nt, a, os, ls, ws, kvs, S⟩
  have hall : ∃ dh' s' pl' fl', ∀ {Hx : Hp}, Same H Hx → Hx h = some (.ins CH dh' [("store", .ref s'), ("past", .ref pl'), ("future", .ref fl')]) := by
    obtain ⟨As, R, s, rfl, HA⟩ := HL
    obtain ⟨dh, pl, fl, xs, eh, _⟩ := HA.at_
    exact ⟨dh, s, pl, fl, fun {Hx} e => e _ _ (same_r HA.ag sA _ _ eh)⟩
  obtain ⟨dh', s', pl', fl', hh⟩ := hall
  have few := iv.wf.few
  have okN : ∀ x ∈ M.map (·.name), PyData.strOk x = true := fun x hx => by
    obtain ⟨k, hk, rfl⟩ := List.mem_map.mp hx
    exact (iv.sm k hk).1.1
  have okM : ∀ {l : List Nat}, ∀ x ∈ nmsOf M l, PyData.strOk x = true := fun {l} x hx => by
    obtain ⟨k, hk, rfl⟩ := List.mem_map.mp hx
    obtain ⟨j, _, hj⟩ := List.mem_filterMap.mp hk
    exact (iv.sm k (List.mem_of_getElem? hj)).1.1
  have okO : ∀ {l : List Nat}, ∀ x ∈ sel M (·.own) l, PyData.strOk x = true := fun {l} x hx => by
    obtain ⟨k, hk, hy⟩ := List.mem_flatMap.mp hx
    obtain ⟨j, _, hj⟩ := List.mem_filterMap.mp hk
    exact ((iv.sm k (List.mem_of_getElem? hj)).2.2.1 x hy).1
  refine ⟨_, rfl, h, dh', _, rfl, hh (Same.refl H), by rfl, A, h, M, rfl, HL, sA, fun t1 H1 s1 ht1 => ?_⟩
  have u1 := sB.trans s1
  refine ⟨_, rfl, p, _, rfl, dg (k := .inr "kinds") (u1 _ _ S.at_) S.v1, a.kl, _, rfl, .inl ⟨SqL.of (u1 _ _ S.kl), fun t2 nt2 => ?_⟩⟩
  have n2 := same_new nt2 (.tup ((M.map (·.name)).map V.str))
  refine ne_go (SqT.of (n2 _ _ ht1)) (SqT.of upd_same) okN ⟨_, rfl, iteF ?_⟩
  have s2 := s1.trans n2
  generalize upd H1 t2 (.tup ((M.map (·.name)).map V.str)) = H2 at s2 ⊢
  clear n2 ht1 u1
  have u2 := sB.trans s2
  refine ⟨_, rfl, p, _, rfl, dg (k := .inr "kinds") (u2 _ _ S.at_) S.v1, a.kl, rfl, ⟨_, SqL.of (u2 _ _ S.kl)⟩, for_list (xs := (M.map (·.name)).map V.str) (fun j σ H' => ∃ y2 y3 y4 y5 y6 y7, σ = [some (.ref h), some (.ref p), y2, y3, y4, y5, y6, y7] ∧ Same H H') ⟨_, _, _, _, _, _, rfl, s2⟩ (fun j σ H' _ ⟨_, _, _, _, _, _, _, s3⟩ => SqL.of (s3 _ _ (sB _ _ S.kl))) ?_ ?_⟩
  · rintro j v σ H3 hv ⟨y2, y3, y4, y5, y6, y7, rfl, s3⟩
    rw [List.getElem?_map, List.getElem?_map] at hv
    cases hk : M[j]? with
    | none => rw [hk] at hv; cases hv
    | some k =>
    rw [hk] at hv
    cases hv
    have hj := (List.getElem?_eq_some_iff.mp hk).1
    obtain ⟨l, hL, hll⟩ := IsLine.ex iv.wf j j (Nat.le_refl _) hj
    have hlt : ∀ i ∈ l, i < M.length := isLine_lt hL
    have knm : k.name ∈ M.map (·.name) := List.mem_map.mpr ⟨k, List.mem_of_getElem? hk, rfl⟩
    refine ⟨_, rfl, _, rfl, B, p, M, j, k, l, rfl, PL, sB.trans s3, hk, hL, by omega, fun c H4 s4 hc => ⟨(by show 0 ≤ sizeLine; decide), fun d nd => ⟨(by show 2 ≤ sizeLine; decide), fun t nt4 => ⟨t, _, rfl, SqT.of upd_same, rfl, _, _, rfl, _, _, rfl, rfl, ?_⟩⟩⟩⟩
    have s5 : Same H4 (upd (upd H4 d (.lst [])) t (.tup [.ref c, .ref d])) := (same_new nd _).trans (same_new nt4 _)
    have hd5 : (upd (upd H4 d (.lst [])) t (.tup [.ref c, .ref d])) d = some (.lst []) := (same_new nt4 _) _ _ upd_same
    have hc5 := s5 _ _ hc
    have s05 := (s3.trans s4).trans s5
    generalize upd (upd H4 d (.lst [])) t (.tup [.ref c, .ref d]) = H5 at hd5 hc5 s05 ⊢
    clear s5
    -- the loose ones
    refine ⟨_, rfl, c, rfl, ⟨_, SqL.of hc5⟩, for_list (xs := (nmsOf M l).map V.str) (fun n σ H' => ∃ y5 e, σ = [some (.ref h), some (.ref p), some (.str k.name), some (.ref c), some (.ref e), y5, y6, y7] ∧ Same H5 H' ∧ H' e = some (.lst ((sel M (·.loose) (l.take n)).map V.str))) ⟨_, d, rfl, Same.refl _, hd5⟩ (fun n σ H' _ ⟨_, _, _, s6, _⟩ => SqL.of (s6 _ _ hc5)) ?_ ?_⟩
    · rintro n v σ H6 hv ⟨z5, e, rfl, s6, he⟩
      rw [List.getElem?_map] at hv
      obtain ⟨x, hx, rfl⟩ := Option.map_eq_some_iff.mp hv
      obtain ⟨i', k', hi', hk', rfl⟩ := nms_get hlt hx
      have u6 := (sB.trans s05).trans s6
      have ho : i' < ls.length := by rw [S.ll]; exact (List.getElem?_eq_some_iff.mp hk').1
      have hoe := List.getElem?_eq_getElem ho
      have hvo : valV ((sk (M.map (·.name))).zip (ls.map V.ref)) (.inr k'.name) = some (.ref ls[i']) := S.val hk' (by rw [List.getElem?_map, hoe]; rfl)
      have e2 : sel M (·.loose) (l.take (n + 1)) = sel M (·.loose) (l.take n) ++ k'.loose := by rw [List.take_add_one, hi']; exact sel_snoc hk'
      have hlen : ((sel M (·.loose) (l.take n)).map V.str).length + (k'.loose.map V.str).length ≤ sizeLine := by
        have a1 := sel_take (M := M) (g := (·.loose)) l (n + 1)
        have a2 := sel_len (M := M) (g := (·.loose)) (n := 10) (fun k hk => (iv.sm k hk).2.2.2) l
        rw [e2, List.length_append] at a1
        rw [List.length_map, List.length_map]
        exact Nat.le_of_lt (smallM (by omega))
      refine ⟨_, rfl, _, rfl, p, _, rfl, dg (k := .inr "loose") (u6 _ _ S.at_) S.v4, _, rfl, a.ld, _, rfl, dg (k := .inr k'.name) (u6 _ _ S.ld) hvo, e, _, _, _, rfl, rfl, he, u6 _ _ (S.rls i' _ k' hoe hk'), hlen, fun e' ne' => ?_⟩
      refine ⟨_, e', rfl, s6.trans (same_new ne' _), ?_⟩
      rw [upd_same, e2, List.map_append]
    rintro σ H6 ⟨z5, e, rfl, s6, he⟩
    rw [List.length_map, nms_len hlt, List.take_length] at he
    have s06 := s05.trans s6
    have hc6 := s6 _ _ hc5
    clear hd5 hc5
    refine ⟨_, rfl, _, rfl, B, p, M, j, k, l, rfl, PL, sB.trans s06, hk, hL, by omega, (iv.sums j l hL).1, fun o H7 s7 ho => ?_⟩
    have same' : ∀ {i' : Nat} {k' : Kd} {l' : List Nat}, M[i']? = some k' → k'.name = k.name → IsLine M (some i') l' → j = i' ∧ l = l' := fun {i' k' l'} h1 h2 h3 => by
      have e := name_inj iv.wf hk h1 h2.symm
      subst e
      exact ⟨rfl, IsLine.fn hL h3⟩
    have s07 := s06.trans s7
    refine ⟨_, rfl, h, dh', _, rfl, hh s07, by rfl, _, rfl, ?_⟩
    refine ⟨A, h, M, k.name, rfl, HL, sA.trans s07, iv.sums, (fun hn => absurd knm hn), fun i' k' l' q1 q2 q3 t1 H8 s8 ht1 => ?_⟩
    obtain ⟨rfl, rfl⟩ := same' q1 q2 q3
    refine ⟨_, rfl, c, _, rfl, .inl ⟨SqL.of (s8 _ _ (s7 _ _ hc6)), fun t2 nt2 => ?_⟩⟩
    have n8 := same_new nt2 (.tup ((nmsOf M l).map V.str))
    refine ne_go (SqT.of (n8 _ _ ht1)) (SqT.of upd_same) okM ⟨_, rfl, iteF ?_⟩
    have s78 := s8.trans n8
    have s08 := s07.trans s78
    generalize upd H8 t2 (.tup ((nmsOf M l).map V.str)) = H9 at s78 s08 ⊢
    refine ⟨_, rfl, h, dh', _, rfl, hh s08, by rfl, _, rfl, ?_⟩
    refine ⟨A, h, M, k.name, rfl, HL, sA.trans s08, iv.sums, (fun hn => absurd knm hn), fun i' k' l' q1 q2 q3 t3 Ha sa ht3 => ?_⟩
    obtain ⟨rfl, rfl⟩ := same' q1 q2 q3
    refine ⟨_, rfl, o, _, rfl, .inl ⟨SqL.of (sa _ _ (s78 _ _ ho)), fun t4 nt4 => ?_⟩⟩
    have nA := same_new nt4 (.tup ((sel M (·.own) l.reverse).map V.str))
    refine ne_go (SqT.of (nA _ _ ht3)) (SqT.of upd_same) okO ⟨_, rfl, iteF ?_⟩
    have sb := s78.trans (sa.trans nA)
    have s0b := s08.trans (sa.trans nA)
    generalize upd Ha t4 (.tup ((sel M (·.own) l.reverse).map V.str)) = Hb at sb s0b ⊢
    clear n8 nA
    -- heirs
    refine ⟨_, rfl, h, dh', _, rfl, hh s0b, by rfl, _, rfl, ?_⟩
    refine ⟨A, h, M, k.name, rfl, HL, sA.trans s0b, iv.sums, (fun hn => absurd knm hn), fun i' k' l' q1 q2 q3 t5 Hc sc ht5 => ?_⟩
    obtain ⟨rfl, rfl⟩ := same' q1 q2 q3
    have uc := sB.trans (s0b.trans sc)
    refine ⟨_, rfl, p, _, rfl, dg (k := .inr "kinds") (uc _ _ S.at_) S.v1, a.kl, rfl, ⟨_, SqL.of (uc _ _ S.kl)⟩, fun D nD => ?_⟩
    have nDk : ∀ ys, (upd Hc D (.lst ys)) a.kl = some (.lst ((M.map (·.name)).map V.str)) := fun ys => (same_new nD _) _ _ (uc _ _ S.kl)
    refine lc_list (xs := (M.map (·.name)).map V.str) (fun n H' => H' = upd Hc D (.lst ((((M.take n).filter fun k' => decide (upN M k' = .str k.name)).map (·.name)).map V.str))) (by rfl) (fun n H' _ e => by subst e; exact SqL.of (nDk _)) ?_ ?_
    · rintro n v H' hv rfl
      rw [List.getElem?_map, List.getElem?_map] at hv
      cases hkn : M[n]? with
      | none => rw [hkn] at hv; cases hv
      | some kn =>
      rw [hkn] at hv
      cases hv
      have un := uc.trans (same_new nD (.lst ((((M.take n).filter fun k' => decide (upN M k' = .str k.name)).map (·.name)).map V.str)))
      refine ⟨rfl, _, rfl, p, _, rfl, dg (k := .inr "up") (un _ _ S.at_) S.v2, _, rfl, a.ud, _, rfl, dg (k := .inr kn.name) (un _ _ S.ud) (S.up hkn), _, rfl, scal_up M kn k.name, _, rfl, ?_⟩
      have tk : M.take (n + 1) = M.take n ++ [kn] := by rw [List.take_add_one, hkn]; rfl
      refine ite2 (fun e3 => ?_) (fun e3 => ?_)
      · refine ⟨_, rfl, _, upd_same, ?_, ?_⟩
        · simp only [List.length_map]
          exact smallM (Nat.le_trans (List.length_filter_le _ _) (Nat.le_trans (List.length_take_le' _ _) (by omega)))
        · rw [upd_upd, tk, List.filter_append]
          simp [e3]
      · rw [tk, List.filter_append]
        simp [e3]
    rintro H' rfl
    rw [List.length_map, List.length_map, List.take_length, ← heirs_eq iv.wf hk]
    refine ⟨D, _, rfl, .inl ⟨SqL.of upd_same, fun t6 nt6 => ?_⟩⟩
    have nC := (same_new nD (.lst ((nmsOf M (hs M M.length (some j))).map V.str))).trans (same_new nt6 (.tup ((nmsOf M (hs M M.length (some j))).map V.str)))
    refine ne_go (SqT.of (nC _ _ ht5)) (SqT.of upd_same) okM ⟨_, rfl, iteF ?_⟩
    have sd := sb.trans (sc.trans nC)
    have s0d := s0b.trans (sc.trans nC)
    generalize upd (upd Hc D (.lst ((nmsOf M (hs M M.length (some j))).map V.str))) t6 (.tup ((nmsOf M (hs M M.length (some j))).map V.str)) = Hd at sd s0d ⊢
    clear nC nDk
    -- weak ones
    refine ⟨_, rfl, h, dh', _, rfl, hh s0d, by rfl, _, rfl, ?_⟩
    refine ⟨A, h, M, k.name, rfl, HL, sA.trans s0d, iv.sums, (fun hn => absurd knm hn), fun i' k' l' q1 q2 q3 t7 He se ht7 => ?_⟩
    obtain ⟨rfl, rfl⟩ := same' q1 q2 q3
    have ho' := se _ _ (sd _ _ ho)
    have he' := se _ _ (sd _ _ (s7 _ _ he))
    refine ⟨_, rfl, o, rfl, ⟨_, SqL.of ho'⟩, fun D2 nD2 => ?_⟩
    have nDo : ∀ ys, (upd He D2 (.lst ys)) o = some (.lst ((sel M (·.own) l.reverse).map V.str)) := fun ys => (same_new nD2 _) _ _ ho'
    refine lc_list (xs := (sel M (·.own) l.reverse).map V.str) (fun n H' => H' = upd He D2 (.lst ((((sel M (·.own) l.reverse).take n).filter fun y => decide (y ∈ sel M (·.loose) l)).map V.str))) (by rfl) (fun n H' _ e => by subst e; exact SqL.of (nDo _)) ?_ ?_
    · rintro n v H' hv rfl
      rw [List.getElem?_map] at hv
      obtain ⟨y, hy, rfl⟩ := Option.map_eq_some_iff.mp hv
      refine ⟨rfl, _, rfl, _, rfl, e, _, rfl, .inl (SqL.of ((same_new nD2 _) _ _ he')), rfl, strs_flat _, _, rfl, ?_⟩
      rw [if_neg Bool.false_ne_true, strs_in]
      have tk : (sel M (·.own) l.reverse).take (n + 1) = (sel M (·.own) l.reverse).take n ++ [y] := by rw [List.take_add_one, hy]; rfl
      refine ite2 (fun e3 => ?_) (fun e3 => ?_)
      · refine ⟨_, rfl, _, upd_same, ?_, ?_⟩
        · rw [List.length_map]
          have := (iv.sums j l hL).1
          exact smallM (Nat.le_trans (List.length_filter_le _ _) (Nat.le_trans (List.length_take_le' _ _) (by omega)))
        · rw [upd_upd, tk, List.filter_append, List.map_append]
          simp [e3]
      · rw [tk, List.filter_append]
        simp [e3]
    rintro H' rfl
    rw [List.length_map, List.take_length, weak_eq iv hL]
    refine ⟨D2, _, rfl, .inl ⟨SqL.of upd_same, fun t8 nt8 => ?_⟩⟩
    have nE := (same_new nD2 (.lst ((sel M Kd.weak l.reverse).map V.str))).trans (same_new nt8 (.tup ((sel M Kd.weak l.reverse).map V.str)))
    refine ne_go (SqT.of (nE _ _ ht7)) (SqT.of upd_same) (fun x hx => ?_) ⟨_, rfl, iteF ?_⟩
    · obtain ⟨k', hk', hy'⟩ := List.mem_flatMap.mp hx
      obtain ⟨j', _, hj'⟩ := List.mem_filterMap.mp hk'
      exact ((iv.sm k' (List.mem_of_getElem? hj')).2.2.1 x (List.mem_filter.mp hy').1).1
    have sf := s0d.trans (se.trans nE)
    generalize upd (upd He D2 (.lst ((sel M Kd.weak l.reverse).map V.str))) t8 (.tup ((sel M Kd.weak l.reverse).map V.str)) = Hf at sf ⊢
    -- the ways
    have hw : j < ws.length := by rw [S.lw]; exact hj
    have hwe := List.getElem?_eq_getElem hw
    have uf := sB.trans sf
    have hwv : valV ((sk (M.map (·.name))).zip (ws.map V.ref)) (.inr k.name) = some (.ref ws[j]) := S.val hk (by rw [List.getElem?_map, hwe]; rfl)
    have hwj := uf _ _ (S.rws j _ hwe)
    have np : p ≠ ws[j] := fun z => by
      have e1 := S.at_
      rw [z, S.rws j _ hwe] at e1
      cases e1
      have := S.v1
      cases this
    have nw : a.wd ≠ ws[j] := fun z => S.no ws[j] (List.mem_append_right _ (List.mem_append_right _ (List.mem_of_getElem? hwe))) (by rw [← z]; simp)
    refine ⟨ws[j], .dK [], hwj, True.intro, fun od => ?_⟩
    refine ⟨_, rfl, p, _, rfl, dg (k := .inr "ways") (by rw [upd_ne np]; exact uf _ _ S.at_) S.v5, _, rfl, a.wd, _, rfl, dg (k := .inr k.name) (by rw [upd_ne nw]; exact uf _ _ S.wd) hwv, ws[j], od, rfl, .inl ⟨[], upd_same, ?_⟩⟩
    refine for_it walk_keys (fun n σ H' => σ = [some (.ref h), some (.ref p), some (.str k.name), some (.ref c), some (.ref e), z5, some (.ref o), y7] ∧ H' = upd Hf ws[j] (.frz od (.dK []))) ⟨rfl, rfl⟩ (fun n σ H' _ ⟨_, e'⟩ => by subst e'; exact upd_same) (fun n x σ H' H'' hn => absurd hn (Nat.not_lt_zero _)) ?_
    rintro σ H' ⟨rfl, rfl⟩
    refine ⟨upd_same, _, _, _, _, _, _, rfl, ?_⟩
    rw [upd_upd, upd_id hwj]
    exact sf
  · rintro σ H3 ⟨y2, y3, y4, y5, y6, y7, rfl, s3⟩
    exact q H3 s3
end
end B1

set_option maxRecDepth 100000
set_option maxHeartbeats 4000000

namespace B1
open PySem PySem.Spec PyProof.Rows L2 TL
/-! ### an exception that is kept behind its suite -/
/-- the exception of the class cls at a -/
def ExK (cls : Value) (d : Option Addr) (a : Addr) : HO := .ext fun h => ∃ (oe : Obj) (vs : Array Value), h.get? a = some oe ∧ Zc cls d oe ∧ oe.data = .fields vs
theorem exK_ok {P : Program} {w : World} {H : Hp} {h : Heap} {a : Addr} {cls : Value} {d : Option Addr} {oe : Obj} {vs : Array Value} (e : h.get? a = some oe) (z : Zc cls d oe) (dt : oe.data = .fields vs) : ObjOk P w H h a (ExK cls d a) :=
  ⟨⟨oe, vs, e, z, dt⟩, ⟨oe, e⟩, fun _ _ ⟨oe, vs, e, z, dt⟩ k => ⟨oe, vs, k _ e, z, dt⟩⟩
section
variable {X : Cx} {pins : List (Addr × Obj)} {σ : L2.St} {H : Hp} {s : Shared}
/-- what stands there already, and was not there at the entry, is tracked from now on -/
theorem inv_track {a : Addr} {o : HO} {oe : Obj} {vs : Array Value} (I : Inv X pins σ H s) (he : s.heap.get? a = some oe) (hd : oe.data = .fields vs) (na : H a = none) (n0 : X.s_0.heap.get? a = none) (nL : a ≠ X.env.locals) (np : ∀ p ∈ X.pn ++ pins, p.1 ≠ a) (new : ObjOk X.prog X.w (upd H a o) s.heap a o) : Inv X pins σ (upd H a o) s := by
  have nn : ∀ b u, H b = some u → b ≠ a := fun b u e z => by rw [z, na] at e; cases e
  refine ⟨I.ok, I.os, I.bare, ⟨I.base.keep, I.base.slot, fun b u e n hx => ?_, I.base.there, fun b xs e => ?_, fun b u v e => ?_, fun b ps e => ?_⟩, I.loc, I.cell, ?_, fun x c e => ?_, fun p hp => ?_, L2.HOk.laidN I.hok (fun _ _ z => z) na new, I.len⟩
  · rw [upd_ne (fun z => by rw [z, n0] at e; cases e)]; exact I.base.free b u e n hx
  · have q := I.base.tups b xs e
    rw [upd_ne (nn _ _ q)]; exact q
  · have q := I.base.frzs b u v e
    rw [upd_ne (nn _ _ q)]; exact q
  · obtain ⟨m, q⟩ := I.base.tbls b ps e
    exact ⟨m, by rw [upd_ne (nn _ _ q)]; exact q⟩
  · rw [upd_ne nL.symm]; exact I.free
  · obtain ⟨v, oc, q1, q2⟩ := I.cell x c e
    rw [upd_ne (fun z => by rw [z, he] at q1; cases q1; rw [hd] at q2; cases q2)]
    exact I.freeC x c e
  · obtain ⟨p1, p2, p3⟩ := I.pin p hp
    exact ⟨p1, by rw [upd_ne (np p hp)]; exact p2, p3⟩
end
/-- try .. except C as n: suite, the exception being tracked behind it; all that comes is of C -/
def wKept (N : Nat) (K : PySem.W.Frag) (c : Value) (i : Nat) (ts : Addr → Value → Option Addr → TS) (D : Ends) : WX := fun cls d σ H =>
  PySem.W.exmOne K cls c = some true ∧ ∀ a, H a = none → σ.length = N → ts a cls d { nx := fun σ' H' => H' a = none → D.nx (σ'.set i none) (upd H' a (ExK cls d a)), rt := fun _ _ => False, bk := fun _ _ => False, ct := fun _ _ => False } (σ.set i (some (.ref a))) H
section
variable {X : Cx} {x n : Str} {c : Value} {i : Nat} {body suite : List Stmt} {s0 : Stmt} {p1 p2 p3 : Pos} {tb : WX → TS} {ts : Addr → Value → Option Addr → TS}
theorem ps_try_kept (st : X.stack = X.env :: X.outer) (fr : X.env.frame = some X.env.locals) (nd : X.N.Nodup) (hi : X.N[i]? = some n) (loc : X.env.kindOf n = some .local) (hex : X.ex = []) (hc : Names X x c)
    (hb : ∀ W pn xe, Takes (X.tr pn xe) W → PassesOwn (model X.prog X.w) X.A X.env xe → PSs (X.tr pn xe) body (tb W))
    (hsu : ∀ a oe cls d pn, Zc cls d oe → (∃ vs, oe.data = .fields vs) → PSs (X.suite a ((a, oe) :: pn)) (s0 :: suite) (ts a cls d)) :
    PS X (.Try body [.ExceptHandler (some (.Name x p1)) (some n) (s0 :: suite) p2] [] [] p3) (fun D σ H => tb (wKept X.N.length X.K c i ts D) D σ H) := by
  refine ⟨fun pins s σ H D I h => wpAny_Try_except ?_⟩
  have ok := I.ok
  have frames : X.A.frames = some (X.env :: X.outer) := by rw [ok.frames, st]
  have run := hb (wKept X.N.length X.K c i ts D) (X.pn ++ pins) (fun e s1 => wpAny (model X.prog X.w) X.A (noteFrame e X.env) (fun _ s2 => wpAny (model X.prog X.w) X.A (setFlight e none)
    (fun _ s3 => wpAny (model X.prog X.w) X.A (handleBy e X.env [.ExceptHandler (some (.Name x p1)) (some n) (s0 :: suite) p2]) (SP X pins D) X.xe s3) X.xe s2) X.xe s1)
  refine wpAny_mono ((run (fun u s' xx => ?_) PassesOwn.looking).run [] s σ H D (I.toTry _) h) (fun f s1 q => ?_) (fun _ _ q => q)
  · obtain ⟨a, B, sI, pins', σ', H', cls, d, rfl, J0, grd, up, sky, na, os, ag, yes, go⟩ := xx
    have J : Inv X pins σ' H' sI := J0.ofTry ok
    show wpAny _ X.A (noteFrame (.ref a) X.env) _ _ _
    rw [show (X.tr (X.pn ++ pins) _).stack = X.env :: X.outer from st] at sky
    refine Sky.land Zc.steady frames fr sky fun h3 fl3 up3 => ?_
    obtain ⟨oe3, vs3, e3, z3, d3⟩ := fl3.there
    have outF : a ∉ frs (X.env :: X.outer) := fun hm => by
      obtain ⟨_, o', e', hnf⟩ := fl3.2.2.1.mem hm
      rw [e3] at e'; cases e'
      exact hnf _ d3
    have nL : a ≠ X.env.locals := fun z => outF (List.mem_filterMap.mpr ⟨X.env, List.mem_cons_self, by rw [fr, z]⟩)
    have nF : a ∉ X.fs := fun hm => by
      obtain ⟨e, he, q⟩ := List.mem_filterMap.mp hm
      exact outF (List.mem_filterMap.mpr ⟨e, List.mem_cons_of_mem _ he, q⟩)
    -- it was not there before
    have nI : sI.heap.get? a = none := by
      cases q : sI.heap.get? a with
      | none => rfl
      | some o =>
        have z := grd a o q (by show a ∉ frs X.stack; rw [st]; exact outF)
        rw [fl3.2.1] at z; cases z
    have n0 : X.s_0.heap.get? a = none := by
      cases q : X.s_0.heap.get? a with
      | none => rfl
      | some o =>
        obtain ⟨o', z⟩ := J.base.there a o q (by rw [hex]; exact fun z => nomatch z)
        rw [nI] at z; cases z
    have npin : ∀ p ∈ X.pn ++ pins, p.1 ≠ a := fun p hp z => by
      have q := (J.pin p hp).1
      rw [z, nI] at q; cases q
    have J3 : Inv X pins σ' H' { s' with heap := h3 } := J.landed grd fl3.1 (up.trans up3) os ag
    have S3 := J3.suite e3 d3 na nL nF
    refine wpAny_handleBy_cons (codeAny_handlers_test ?_) (by intro q; cases q)
    have ty : PySem.W.Looks (model X.prog X.w) h3 (typeOf (.ref a)) cls := fun A Q E s k q => wpAny_typeOf_ref (k _ _ e3) (by rw [z3.1]; exact q)
    have fits := PySem.W.exm_one (M := model X.prog X.w) J3.kIn ty yes
    have named : ∀ {Q : Value → Shared → Prop} {E : Value → Shared → Prop}, Q c { s' with heap := h3 } → wpAny (model X.prog X.w) (X.A.mark (some (.ref a))) (eval (.Name x p1) X.env) Q E { s' with heap := h3 } := fun {Q E} q => by
      obtain ⟨g, db, m | ⟨m, v, nn⟩⟩ := hc
      · exact ld_glob (X := X.suite a ((a, oe3) :: (X.pn ++ pins))) S3 g m q db
      · exact ld_blt (X := X.suite a ((a, oe3) :: (X.pn ++ pins))) S3 g m v q nn db
    refine named (fits.here (codeAny_handlers_suite_as (HandSPX.lands_againZ fl3 fun h4 fl4 up4 => ?_)))
    have J4 : Inv X pins σ' H' { s' with heap := h4 } := J.landed grd fl4.1 ((up.trans up3).trans up4) os ag
    obtain ⟨oe4, vs4, e4, z4, d4⟩ := fl4.there
    refine store_ok (X := X.suite a ((a, oe4) :: (X.pn ++ pins))) (v := .ref a) (J4.suite e4 d4 na nL nF) nd hi (.inl loc) rfl (fun s5 S5 => ?_) (.inr loc)
    refine wpAny_mono ((hsu a oe4 cls d (X.pn ++ pins) z4 ⟨_, d4⟩).run [] s5 _ H' _ S5 (go a na J.len)) (fun f s6 q => ?_) (fun _ _ z => z.elim)
    cases f with
    | next =>
      obtain ⟨σ6, H6, S6, q6⟩ := q
      obtain ⟨g1, g2, _⟩ := S6.pin (a, oe4) (List.mem_append_left _ List.mem_cons_self)
      have T6 : Inv X pins σ6 (upd H6 a (ExK cls d a)) s6 := inv_track (S6.unsuite ok) g1 d4 g2 n0 nL npin (exK_ok g1 z4 d4)
      exact gone_ok T6 nd hi loc fun s7 J7 => ⟨_, _, J7, q6 g2⟩
    | brk => obtain ⟨_, _, _, z⟩ := q; exact False.elim z
    | cont => obtain ⟨_, _, _, z⟩ := q; exact False.elim z
    | ret u => obtain ⟨_, _, _, _, _, z⟩ := q; exact False.elim z
  · cases f with
    | next =>
      obtain ⟨σ', H', J', z⟩ := q
      exact wpAny_execs_nil ⟨σ', H', J'.ofTry ok, z⟩
    | brk => obtain ⟨σ', H', J', z⟩ := q; exact ⟨σ', H', J'.ofTry ok, z⟩
    | cont => obtain ⟨σ', H', J', z⟩ := q; exact ⟨σ', H', J'.ofTry ok, z⟩
    | ret u => obtain ⟨v, σ', H', J', r, z⟩ := q; exact ⟨v, σ', H', J'.ofTry ok, r, z⟩
end
section
variable {X : Cx} {pins : List (Addr × Obj)} {σ : L2.St} {H : Hp} {s : Shared}
/-- isinstance(e, c), e a kept exception of the class D, with its dict -/
def rIsK (K : PySem.W.Frag) (D : Addr) : List V → Hp → VK → Prop := fun xs H Q => ∃ (a dd : Addr) (fs : List (Str × V)) (cl : V) (cv : Value) (b : Bool), xs = [.ref a, cl] ∧ H a = some (ExK (.ref D) (some dd) a) ∧ H dd = some (.xd fs) ∧ (∀ u, RelV cl u → u = cv) ∧ PySem.W.kitOne K (.ref D) cv = some b ∧ Q (.bl b) H
theorem exk_inst {a dd D : Addr} {fs : List (Str × V)} (I : Inv X pins σ H s) (ha : H a = some (ExK (.ref D) (some dd) a)) (hd : H dd = some (.xd fs)) : ∃ oe od, PySem.W.InstAt s.heap a oe D (some od) ∧ ∃ mA, s.heap.Ns1 dd mA ∧ (∀ f, RelO (fs.lookup f) (mA f)) ∧ s.heap.get? dd = some od ∧ ∀ n, PySem.W.lookIn n od = some (mA n) := by
  obtain ⟨oe, vs, g, z, dt⟩ := (I.hok a _ ha).1
  obtain ⟨mA, hns, hr⟩ := (show ObjOk X.prog X.w H s.heap dd (.xd fs) from I.hok dd _ hd)
  obtain ⟨od, ho, hl⟩ := lookIn_ns hns
  exact ⟨oe, od, ⟨g, z.1, by unfold PySem.W.notCls; rw [dt] <;> rfl, by rw [z.2]; exact ho⟩, mA, hns, hr, ho, hl⟩
theorem cr_isK {D : Addr} (C : ExcC X.K D) : CallR X (.builtin "isinstance") (rIsK X.K D) := by
  intro pins s σ H xs us Q I r h
  obtain ⟨a, dd, fs, cl, cv, b, rfl, ha, hd, hcv, e, q⟩ := h
  cases r with
  | cons rx rr =>
    cases rr with
    | cons rt rr =>
      cases rr
      cases rx
      cases hcv _ rt
      obtain ⟨oe, od, J, _⟩ := exk_inst I ha hd
      exact PySem.W.kia_one (PySem.W.kitx_exc (by obtain ⟨cd, hc, _⟩ := PySem.W.any_some C.hd; rw [hc]; rfl) C.hg C.hk C.hs C.ha C.hn C.ht C.hm) I.kIn J e (fun z => nomatch z) fun tk => ⟨.bl b, H, I.kept (t' := tk) fun _ _ z => z, rfl, q⟩
/-- e.n, e a kept exception -/
def tXk (K : PySem.W.Frag) (n : Str) (te : TE) : TE := fun σ H Q => te σ H fun x H1 => ∃ (a dd C : Addr) (fs : List (Str × V)) (v : V), x = .ref a ∧ H1 a = some (ExK (.ref C) (some dd) a) ∧ H1 dd = some (.xd fs) ∧ XfC K C ∧ PySem.W.findIn K (.ref C) n = some none ∧ fs.lookup n = some v ∧ Q v H1
theorem pe_xk {e : Expr} {te : TE} {pos : Pos} {n : Str} (he : PE X e te) (hb : attributeBase e n X.env (eval e X.env) = eval e X.env := by rfl) : PE X (.Attribute e n pos) (tXk X.K n te) := by
  refine ⟨fun pins s σ H Q I h => ?_⟩
  refine attr_of hb (thn (he.run pins s σ H _ I h) fun u s1 hh => ?_)
  obtain ⟨x, H1, I1, rx, a, dd, C, fs, v, ex, ea, ed, T, hno, l, q⟩ := hh
  subst ex
  obtain rfl : u = Value.ref a := rx
  obtain ⟨oe, od, J, mA, hns, hr, ho, hl⟩ := exk_inst I1 ea ed
  obtain ⟨u, hu, ru⟩ := RelO.some_of (v := v) (o := mA n) (by rw [← l]; exact hr n)
  exact HandSPX.exc_get I1.kIn J T.ga T.gg T.exC (PySem.W.findObj_own T.hdC hno rfl (by rw [hl, hu])) (handed_of ru) ⟨v, H1, I1.tok _, ru, q⟩
/-- xs.count(y), all of them flat -/
def rCntF (K : PySem.W.Frag) : V → List V → Hp → VK → Prop := fun x xs H Q => ∃ (a : Addr) (ys : List V) (y : V), x = .ref a ∧ xs = [y] ∧ SqL K H a ys ∧ flatV y = true ∧ ys.all flatV = true ∧ Q (.int (ys.countP (fun z => eqV z y) : Nat)) H
theorem mt_countF : MtR X "list.count" (rCntF X.K) := by
  intro pins s σ H x xs v us Q I rx rxs h
  obtain ⟨a, ys, y, rfl, rfl, hs, fy, fys, q⟩ := h
  cases rx
  obtain ⟨uy, rfl, ry⟩ := rxs.one
  obtain ⟨its, rv, ⟨⟨cls, dd, data, sl⟩, n, ho, hc, hdn, hd⟩, hlen⟩ := I.list hs
  simp only at hc hd
  subst hc hd
  refine call_meets PySem.F.slot_list_count ⟨_, ho, rfl⟩ PySem.F.entry_list_count (PySem.F.args_list_count_2 _ _) (SeqAt.list_countAt a its.toArray n dd sl uy (eqU y)) ⟨ho, fun u' hu' => mem_eqAt ry fy rv fys u' (by simpa using hu'), ?_⟩
  refine ⟨.int (ys.countP (fun z => eqV z y) : Nat), H, I.tok _, ⟨s.toks, ?_⟩, q⟩
  show Value.int ((its.toArray.toList.countP (eqU y) : Nat) : Int) s.toks = _
  rw [← count_vals (uy := uy) rv fys]
end
end B1

set_option maxRecDepth 100000
set_option maxHeartbeats 4000000
namespace B1
open PySem PySem.Spec PyProof.Rows L2 TL
def posOf : Nat → Nat
  | 0 => 0
  | 1 => 1
  | 2 => 2
  | _ => 5
def cls20 : List Str := ["BadName", "Known", "NoKind", "NoName", "NoField", "BadField", "Fixed", "Ring", "InUse", "BadBody", "NoWay", "NoThing", "BadValue", "Same", "NoRun", "NoBack", "NoText", "Ended", "NoAsk", "NoFrame"]
def bit (n j : Nat) : Bool := decide (posOf n = j)
structure Klx (K : PySem.W.Frag) (mg : Str → Option Value) (c : Cs) (ad : Nat → Addr) : Prop where
  g : ∀ j x, cls20[j]? = some x → mg x = some (.ref (ad j))
  ex : ∀ n, ExcC K (c.at n)
  kk : ∀ n j, j < 20 → PySem.W.kitOne K (.ref (c.at n)) (.ref (ad j)) = some (bit n j)
  ve : ∀ n, PySem.W.kitOne K (.ref (c.at n)) (.type "ValueError") = some true
  mve : mg "ValueError" = none
theorem bt_ve : bootBuiltins "ValueError" = some (.type "ValueError") := by decide +kernel
abbrev sCl : Stmt := top 193
theorem scCl : FnScope ["_law_kept", "_law_kinds", "_law_found"] ["_law_kept"] (defScope sCl) := ⟨rfl, rfl, rfl, by decide +kernel, rfl, by decide +kernel, by decide +kernel⟩
def spCl (c : Cs) : Sp := fun vs H Q _ => ∃ (n : Nat) (a dd : Addr) (fs : List (Str × V)), vs = [.ref a] ∧ H a = some (ExK (.ref (c.at n)) (some dd) a) ∧ H dd = some (.xd fs) ∧ ∀ H', Same H H' → Q (.str (wordOf n)) H'
def bits (n : Nat) : List V := [V.bl (bit n 0), V.bl (bit n 1), V.bl (bit n 2), V.bl (bit n 3), V.bl (bit n 4), V.bl (bit n 5), V.bl (bit n 6), V.bl (bit n 7), V.bl (bit n 8), V.bl (bit n 9), V.bl (bit n 10), V.bl (bit n 11), V.bl (bit n 12), V.bl (bit n 13), V.bl (bit n 14), V.bl (bit n 15), V.bl (bit n 16), V.bl (bit n 17), V.bl (bit n 18), V.bl (bit n 19)]
theorem bits_flat (n : Nat) : (bits n).all flatV = true := rfl
theorem bits_cnt (n : Nat) : ((bits n).countP (fun z => eqV z (.bl true)) : Nat) = 1 := by
  match n with
  | 0 => rfl
  | 1 => rfl
  | 2 => rfl
  | k + 3 => rfl
theorem bits_at (n : Nat) : (bits n)[posOf n]? = some (.bl true) := by
  match n with
  | 0 => rfl
  | 1 => rfl
  | 2 => rfl
  | k + 3 => rfl
theorem bits_word (n : Nat) : atI ([V.str "bad name", V.str "known", V.str "no kind", V.str "no name", V.str "no field", V.str "bad field", V.str "fixed", V.str "ring", V.str "in use", V.str "bad body"] ++ [V.str "no way", V.str "no thing", V.str "bad value", V.str "same", V.str "no run", V.str "no back", V.str "no text", V.str "ended", V.str "no ask"] ++ [V.str "no frame"]) (posOf n : Nat) = some (V.str (wordOf n)) := by
  match n with
  | 0 => rfl
  | 1 => rfl
  | 2 => rfl
  | k + 3 => rfl
theorem bits_no (n : Nat) : ∀ (m : Nat) (z' : V), m < posOf n → (bits n)[m]? = some z' → eqV z' (.bl true) = false := by
  match n with
  | 0 => intro m z' hm; exact absurd hm (Nat.not_lt_zero _)
  | 1 =>
    intro m z' hm hz
    have hm : m < 1 := hm
    have : m = 0 := by omega
    rcases this with rfl <;> (cases hz; rfl)
  | 2 =>
    intro m z' hm hz
    have hm : m < 2 := hm
    have : m = 0 ∨ m = 1 := by omega
    rcases this with rfl | rfl <;> (cases hz; rfl)
  | k + 3 =>
    intro m z' hm hz
    have hm : m < 5 := hm
    have : m = 0 ∨ m = 1 ∨ m = 2 ∨ m = 3 ∨ m = 4 := by omega
    rcases this with rfl | rfl | rfl | rfl | rfl <;> (cases hz; rfl)
section
variable {P : Program} {w : World} {K : PySem.W.Frag} {mg : Str → Option Value} {base : Heap} {f : Addr} {fd : FuncData} {c : Cs} {ad : Nat → Addr}
theorem ok_cl (F : Fun K "_law_class" "_law_class" sCl f fd) (B : Bl mg) (L : Klx K mg c ad) : FnOk P w K mg base CX0 1 f fd ["_law_kept"] (spCl c) := by
  refine F.ok scCl (fun vs H Q E h => ?_) (fun cdv A outer s H vs Q E hr h => ?_)
  · obtain ⟨n, a, dd, fs, rfl, _⟩ := h
    rfl
  obtain ⟨n, a, dd, fs, rfl, ha, hd, q⟩ := h
  have mBadName : mg "BadName" = some (.ref (ad 0)) := L.g 0 _ rfl
  have mKnown : mg "Known" = some (.ref (ad 1)) := L.g 1 _ rfl
  have mNoKind : mg "NoKind" = some (.ref (ad 2)) := L.g 2 _ rfl
  have mNoName : mg "NoName" = some (.ref (ad 3)) := L.g 3 _ rfl
  have mNoField : mg "NoField" = some (.ref (ad 4)) := L.g 4 _ rfl
  have mBadField : mg "BadField" = some (.ref (ad 5)) := L.g 5 _ rfl
  have mFixed : mg "Fixed" = some (.ref (ad 6)) := L.g 6 _ rfl
  have mRing : mg "Ring" = some (.ref (ad 7)) := L.g 7 _ rfl
  have mInUse : mg "InUse" = some (.ref (ad 8)) := L.g 8 _ rfl
  have mBadBody : mg "BadBody" = some (.ref (ad 9)) := L.g 9 _ rfl
  have mNoWay : mg "NoWay" = some (.ref (ad 10)) := L.g 10 _ rfl
  have mNoThing : mg "NoThing" = some (.ref (ad 11)) := L.g 11 _ rfl
  have mBadValue : mg "BadValue" = some (.ref (ad 12)) := L.g 12 _ rfl
  have mSame : mg "Same" = some (.ref (ad 13)) := L.g 13 _ rfl
  have mNoRun : mg "NoRun" = some (.ref (ad 14)) := L.g 14 _ rfl
  have mNoBack : mg "NoBack" = some (.ref (ad 15)) := L.g 15 _ rfl
  have mNoText : mg "NoText" = some (.ref (ad 16)) := L.g 16 _ rfl
  have mEnded : mg "Ended" = some (.ref (ad 17)) := L.g 17 _ rfl
  have mNoAsk : mg "NoAsk" = some (.ref (ad 18)) := L.g 18 _ rfl
  have mNoFrame : mg "NoFrame" = some (.ref (ad 19)) := L.g 19 _ rfl
  refine ⟨_, (pss_cons (ps_set (i := 1) scCl.nd rfl (.inl rfl) (pe_lst (pa_cons (pe_callB (cr_isK (X := _) (D := c.at n) (L.ex n)) rfl B.isi bt_isi (pa_cons (pv 0) (pa_cons (pe_glob (v := .ref (ad 0)) rfl mBadName rfl) pa_nil))) (pa_cons (pe_callB (cr_isK (X := _) (D := c.at n) (L.ex n)) rfl B.isi bt_isi (pa_cons (pv 0) (pa_cons (pe_glob (v := .ref (ad 1)) rfl mKnown rfl) pa_nil))) (pa_cons (pe_callB (cr_isK (X := _) (D := c.at n) (L.ex n)) rfl B.isi bt_isi (pa_cons (pv 0) (pa_cons (pe_glob (v := .ref (ad 2)) rfl mNoKind rfl) pa_nil))) (pa_cons (pe_callB (cr_isK (X := _) (D := c.at n) (L.ex n)) rfl B.isi bt_isi (pa_cons (pv 0) (pa_cons (pe_glob (v := .ref (ad 3)) rfl mNoName rfl) pa_nil))) pa_nil)))))) (pss_cons (ps_set (i := 1) scCl.nd rfl (.inl rfl) (pe_op op_cat (pv 1) (pe_lst (pa_cons (pe_callB (cr_isK (X := _) (D := c.at n) (L.ex n)) rfl B.isi bt_isi (pa_cons (pv 0) (pa_cons (pe_glob (v := .ref (ad 4)) rfl mNoField rfl) pa_nil))) (pa_cons (pe_callB (cr_isK (X := _) (D := c.at n) (L.ex n)) rfl B.isi bt_isi (pa_cons (pv 0) (pa_cons (pe_glob (v := .ref (ad 5)) rfl mBadField rfl) pa_nil))) (pa_cons (pe_callB (cr_isK (X := _) (D := c.at n) (L.ex n)) rfl B.isi bt_isi (pa_cons (pv 0) (pa_cons (pe_glob (v := .ref (ad 6)) rfl mFixed rfl) pa_nil))) pa_nil)))))) (pss_cons (ps_set (i := 1) scCl.nd rfl (.inl rfl) (pe_op op_cat (pv 1) (pe_lst (pa_cons (pe_callB (cr_isK (X := _) (D := c.at n) (L.ex n)) rfl B.isi bt_isi (pa_cons (pv 0) (pa_cons (pe_glob (v := .ref (ad 7)) rfl mRing rfl) pa_nil))) (pa_cons (pe_callB (cr_isK (X := _) (D := c.at n) (L.ex n)) rfl B.isi bt_isi (pa_cons (pv 0) (pa_cons (pe_glob (v := .ref (ad 8)) rfl mInUse rfl) pa_nil))) (pa_cons (pe_callB (cr_isK (X := _) (D := c.at n) (L.ex n)) rfl B.isi bt_isi (pa_cons (pv 0) (pa_cons (pe_glob (v := .ref (ad 9)) rfl mBadBody rfl) pa_nil))) pa_nil)))))) (pss_cons (ps_set (i := 1) scCl.nd rfl (.inl rfl) (pe_op op_cat (pv 1) (pe_lst (pa_cons (pe_callB (cr_isK (X := _) (D := c.at n) (L.ex n)) rfl B.isi bt_isi (pa_cons (pv 0) (pa_cons (pe_glob (v := .ref (ad 10)) rfl mNoWay rfl) pa_nil))) (pa_cons (pe_callB (cr_isK (X := _) (D := c.at n) (L.ex n)) rfl B.isi bt_isi (pa_cons (pv 0) (pa_cons (pe_glob (v := .ref (ad 11)) rfl mNoThing rfl) pa_nil))) (pa_cons (pe_callB (cr_isK (X := _) (D := c.at n) (L.ex n)) rfl B.isi bt_isi (pa_cons (pv 0) (pa_cons (pe_glob (v := .ref (ad 12)) rfl mBadValue rfl) pa_nil))) pa_nil)))))) (pss_cons (ps_set (i := 1) scCl.nd rfl (.inl rfl) (pe_op op_cat (pv 1) (pe_lst (pa_cons (pe_callB (cr_isK (X := _) (D := c.at n) (L.ex n)) rfl B.isi bt_isi (pa_cons (pv 0) (pa_cons (pe_glob (v := .ref (ad 13)) rfl mSame rfl) pa_nil))) (pa_cons (pe_callB (cr_isK (X := _) (D := c.at n) (L.ex n)) rfl B.isi bt_isi (pa_cons (pv 0) (pa_cons (pe_glob (v := .ref (ad 14)) rfl mNoRun rfl) pa_nil))) (pa_cons (pe_callB (cr_isK (X := _) (D := c.at n) (L.ex n)) rfl B.isi bt_isi (pa_cons (pv 0) (pa_cons (pe_glob (v := .ref (ad 15)) rfl mNoBack rfl) pa_nil))) pa_nil)))))) (pss_cons (ps_set (i := 1) scCl.nd rfl (.inl rfl) (pe_op op_cat (pv 1) (pe_lst (pa_cons (pe_callB (cr_isK (X := _) (D := c.at n) (L.ex n)) rfl B.isi bt_isi (pa_cons (pv 0) (pa_cons (pe_glob (v := .ref (ad 16)) rfl mNoText rfl) pa_nil))) (pa_cons (pe_callB (cr_isK (X := _) (D := c.at n) (L.ex n)) rfl B.isi bt_isi (pa_cons (pv 0) (pa_cons (pe_glob (v := .ref (ad 17)) rfl mEnded rfl) pa_nil))) (pa_cons (pe_callB (cr_isK (X := _) (D := c.at n) (L.ex n)) rfl B.isi bt_isi (pa_cons (pv 0) (pa_cons (pe_glob (v := .ref (ad 18)) rfl mNoAsk rfl) pa_nil))) pa_nil)))))) (pss_cons (ps_expr (pe_bm PySem.F.plainAttrs_list PySem.F.slot_list_append PySem.F.type_list_append mt_append (pv 1) (pa_cons (pe_callB (cr_isK (X := _) (D := c.at n) (L.ex n)) rfl B.isi bt_isi (pa_cons (pv 0) (pa_cons (pe_glob (v := .ref (ad 19)) rfl mNoFrame rfl) pa_nil))) pa_nil))) (pss_cons (ps_if (PW.pt (pw_or (pt_cmpR op_ne (pe_bm PySem.F.plainAttrs_list PySem.F.slot_list_count PySem.F.type_list_count mt_countF (pv 1) (pa_cons pe_bl pa_nil)) pe_int (nomark _)) (pw_or1 (pt_not (pt_val (pe_callB (cr_isK (X := _) (D := c.at n) (L.ex n)) rfl B.isi bt_isi (pa_cons (pv 0) (pa_cons (pe_bltn (v := .ty "ValueError") rfl L.mve bt_ve rfl) pa_nil)))))))) (pss_one (ps_ret pe_str)) pss_nil) (pss_cons (ps_set (i := 2) scCl.nd rfl (.inl rfl) (pe_lst (pa_cons pe_str (pa_cons pe_str (pa_cons pe_str (pa_cons pe_str (pa_cons pe_str (pa_cons pe_str (pa_cons pe_str (pa_cons pe_str (pa_cons pe_str (pa_cons pe_str pa_nil)))))))))))) (pss_cons (ps_set (i := 2) scCl.nd rfl (.inl rfl) (pe_op op_cat (pv 2) (pe_lst (pa_cons pe_str (pa_cons pe_str (pa_cons pe_str (pa_cons pe_str (pa_cons pe_str (pa_cons pe_str (pa_cons pe_str (pa_cons pe_str (pa_cons pe_str pa_nil)))))))))))) (pss_one (ps_ret (pe_ix ix_list (pe_op op_cat (pv 2) (pe_lst (pa_cons pe_str pa_nil))) (pe_bm PySem.F.plainAttrs_list PySem.F.slot_list_index PySem.F.type_list_index mt_index (pv 1) (pa_cons pe_bl pa_nil)) (fun _ _ => rfl)))))))))))))), ?_⟩
  refine ⟨_, rfl, a, dd, fs, _, _, bit n 0, rfl, ha, hd, (fun _ h => h), L.kk n 0 (by decide), _, rfl, a, dd, fs, _, _, bit n 1, rfl, ha, hd, (fun _ h => h), L.kk n 1 (by decide), _, rfl, a, dd, fs, _, _, bit n 2, rfl, ha, hd, (fun _ h => h), L.kk n 2 (by decide), _, rfl, a, dd, fs, _, _, bit n 3, rfl, ha, hd, (fun _ h => h), L.kk n 3 (by decide), (by show 4 ≤ sizeLine; decide), fun p0 n0 => ?_⟩
  have s0 := same_new n0 (.lst [V.bl (bit n 0), V.bl (bit n 1), V.bl (bit n 2), V.bl (bit n 3)])
  have a0 := s0 _ _ ha
  have d0 := s0 _ _ hd
  have l0 : (upd H p0 (.lst [V.bl (bit n 0), V.bl (bit n 1), V.bl (bit n 2), V.bl (bit n 3)])) p0 = some (.lst [V.bl (bit n 0), V.bl (bit n 1), V.bl (bit n 2), V.bl (bit n 3)]) := upd_same
  generalize upd H p0 (.lst [V.bl (bit n 0), V.bl (bit n 1), V.bl (bit n 2), V.bl (bit n 3)]) = H0 at s0 a0 d0 l0 ⊢
  refine ⟨_, rfl, _, rfl, a, dd, fs, _, _, bit n 4, rfl, a0, d0, (fun _ h => h), L.kk n 4 (by decide), _, rfl, a, dd, fs, _, _, bit n 5, rfl, a0, d0, (fun _ h => h), L.kk n 5 (by decide), _, rfl, a, dd, fs, _, _, bit n 6, rfl, a0, d0, (fun _ h => h), L.kk n 6 (by decide), (by show 3 ≤ sizeLine; decide), fun t1 nt1 => ?_⟩
  have u1 := same_new nt1 (.lst [V.bl (bit n 4), V.bl (bit n 5), V.bl (bit n 6)])
  refine ⟨p0, t1, _, _, rfl, rfl, u1 _ _ l0, upd_same, (by show 7 ≤ sizeLine; decide), fun p1 n1 => ?_⟩
  have s1 : Same H (upd (upd H0 t1 (.lst [V.bl (bit n 4), V.bl (bit n 5), V.bl (bit n 6)])) p1 (.lst [V.bl (bit n 0), V.bl (bit n 1), V.bl (bit n 2), V.bl (bit n 3), V.bl (bit n 4), V.bl (bit n 5), V.bl (bit n 6)])) := s0.trans (u1.trans (same_new n1 _))
  have a1 := s1 _ _ ha
  have d1 := s1 _ _ hd
  have l1 : (upd (upd H0 t1 (.lst [V.bl (bit n 4), V.bl (bit n 5), V.bl (bit n 6)])) p1 (.lst [V.bl (bit n 0), V.bl (bit n 1), V.bl (bit n 2), V.bl (bit n 3), V.bl (bit n 4), V.bl (bit n 5), V.bl (bit n 6)])) p1 = some (.lst [V.bl (bit n 0), V.bl (bit n 1), V.bl (bit n 2), V.bl (bit n 3), V.bl (bit n 4), V.bl (bit n 5), V.bl (bit n 6)]) := upd_same
  change tSeq _ _ _ _ (upd (upd H0 t1 (.lst [V.bl (bit n 4), V.bl (bit n 5), V.bl (bit n 6)])) p1 (.lst [V.bl (bit n 0), V.bl (bit n 1), V.bl (bit n 2), V.bl (bit n 3), V.bl (bit n 4), V.bl (bit n 5), V.bl (bit n 6)]))
  generalize upd (upd H0 t1 (.lst [V.bl (bit n 4), V.bl (bit n 5), V.bl (bit n 6)])) p1 (.lst [V.bl (bit n 0), V.bl (bit n 1), V.bl (bit n 2), V.bl (bit n 3), V.bl (bit n 4), V.bl (bit n 5), V.bl (bit n 6)]) = H1 at s1 a1 d1 l1 ⊢
  refine ⟨_, rfl, _, rfl, a, dd, fs, _, _, bit n 7, rfl, a1, d1, (fun _ h => h), L.kk n 7 (by decide), _, rfl, a, dd, fs, _, _, bit n 8, rfl, a1, d1, (fun _ h => h), L.kk n 8 (by decide), _, rfl, a, dd, fs, _, _, bit n 9, rfl, a1, d1, (fun _ h => h), L.kk n 9 (by decide), (by show 3 ≤ sizeLine; decide), fun t2 nt2 => ?_⟩
  have u2 := same_new nt2 (.lst [V.bl (bit n 7), V.bl (bit n 8), V.bl (bit n 9)])
  refine ⟨p1, t2, _, _, rfl, rfl, u2 _ _ l1, upd_same, (by show 10 ≤ sizeLine; decide), fun p2 n2 => ?_⟩
  have s2 : Same H (upd (upd H1 t2 (.lst [V.bl (bit n 7), V.bl (bit n 8), V.bl (bit n 9)])) p2 (.lst [V.bl (bit n 0), V.bl (bit n 1), V.bl (bit n 2), V.bl (bit n 3), V.bl (bit n 4), V.bl (bit n 5), V.bl (bit n 6), V.bl (bit n 7), V.bl (bit n 8), V.bl (bit n 9)])) := s1.trans (u2.trans (same_new n2 _))
  have a2 := s2 _ _ ha
  have d2 := s2 _ _ hd
  have l2 : (upd (upd H1 t2 (.lst [V.bl (bit n 7), V.bl (bit n 8), V.bl (bit n 9)])) p2 (.lst [V.bl (bit n 0), V.bl (bit n 1), V.bl (bit n 2), V.bl (bit n 3), V.bl (bit n 4), V.bl (bit n 5), V.bl (bit n 6), V.bl (bit n 7), V.bl (bit n 8), V.bl (bit n 9)])) p2 = some (.lst [V.bl (bit n 0), V.bl (bit n 1), V.bl (bit n 2), V.bl (bit n 3), V.bl (bit n 4), V.bl (bit n 5), V.bl (bit n 6), V.bl (bit n 7), V.bl (bit n 8), V.bl (bit n 9)]) := upd_same
  change tSeq _ _ _ _ (upd (upd H1 t2 (.lst [V.bl (bit n 7), V.bl (bit n 8), V.bl (bit n 9)])) p2 (.lst [V.bl (bit n 0), V.bl (bit n 1), V.bl (bit n 2), V.bl (bit n 3), V.bl (bit n 4), V.bl (bit n 5), V.bl (bit n 6), V.bl (bit n 7), V.bl (bit n 8), V.bl (bit n 9)]))
  generalize upd (upd H1 t2 (.lst [V.bl (bit n 7), V.bl (bit n 8), V.bl (bit n 9)])) p2 (.lst [V.bl (bit n 0), V.bl (bit n 1), V.bl (bit n 2), V.bl (bit n 3), V.bl (bit n 4), V.bl (bit n 5), V.bl (bit n 6), V.bl (bit n 7), V.bl (bit n 8), V.bl (bit n 9)]) = H2 at s2 a2 d2 l2 ⊢
  refine ⟨_, rfl, _, rfl, a, dd, fs, _, _, bit n 10, rfl, a2, d2, (fun _ h => h), L.kk n 10 (by decide), _, rfl, a, dd, fs, _, _, bit n 11, rfl, a2, d2, (fun _ h => h), L.kk n 11 (by decide), _, rfl, a, dd, fs, _, _, bit n 12, rfl, a2, d2, (fun _ h => h), L.kk n 12 (by decide), (by show 3 ≤ sizeLine; decide), fun t3 nt3 => ?_⟩
  have u3 := same_new nt3 (.lst [V.bl (bit n 10), V.bl (bit n 11), V.bl (bit n 12)])
  refine ⟨p2, t3, _, _, rfl, rfl, u3 _ _ l2, upd_same, (by show 13 ≤ sizeLine; decide), fun p3 n3 => ?_⟩
  have s3 : Same H (upd (upd H2 t3 (.lst [V.bl (bit n 10), V.bl (bit n 11), V.bl (bit n 12)])) p3 (.lst [V.bl (bit n 0), V.bl (bit n 1), V.bl (bit n 2), V.bl (bit n 3), V.bl (bit n 4), V.bl (bit n 5), V.bl (bit n 6), V.bl (bit n 7), V.bl (bit n 8), V.bl (bit n 9), V.bl (bit n 10), V.bl (bit n 11), V.bl (bit n 12)])) := s2.trans (u3.trans (same_new n3 _))
  have a3 := s3 _ _ ha
  have d3 := s3 _ _ hd
  have l3 : (upd (upd H2 t3 (.lst [V.bl (bit n 10), V.bl (bit n 11), V.bl (bit n 12)])) p3 (.lst [V.bl (bit n 0), V.bl (bit n 1), V.bl (bit n 2), V.bl (bit n 3), V.bl (bit n 4), V.bl (bit n 5), V.bl (bit n 6), V.bl (bit n 7), V.bl (bit n 8), V.bl (bit n 9), V.bl (bit n 10), V.bl (bit n 11), V.bl (bit n 12)])) p3 = some (.lst [V.bl (bit n 0), V.bl (bit n 1), V.bl (bit n 2), V.bl (bit n 3), V.bl (bit n 4), V.bl (bit n 5), V.bl (bit n 6), V.bl (bit n 7), V.bl (bit n 8), V.bl (bit n 9), V.bl (bit n 10), V.bl (bit n 11), V.bl (bit n 12)]) := upd_same
  change tSeq _ _ _ _ (upd (upd H2 t3 (.lst [V.bl (bit n 10), V.bl (bit n 11), V.bl (bit n 12)])) p3 (.lst [V.bl (bit n 0), V.bl (bit n 1), V.bl (bit n 2), V.bl (bit n 3), V.bl (bit n 4), V.bl (bit n 5), V.bl (bit n 6), V.bl (bit n 7), V.bl (bit n 8), V.bl (bit n 9), V.bl (bit n 10), V.bl (bit n 11), V.bl (bit n 12)]))
  generalize upd (upd H2 t3 (.lst [V.bl (bit n 10), V.bl (bit n 11), V.bl (bit n 12)])) p3 (.lst [V.bl (bit n 0), V.bl (bit n 1), V.bl (bit n 2), V.bl (bit n 3), V.bl (bit n 4), V.bl (bit n 5), V.bl (bit n 6), V.bl (bit n 7), V.bl (bit n 8), V.bl (bit n 9), V.bl (bit n 10), V.bl (bit n 11), V.bl (bit n 12)]) = H3 at s3 a3 d3 l3 ⊢
  refine ⟨_, rfl, _, rfl, a, dd, fs, _, _, bit n 13, rfl, a3, d3, (fun _ h => h), L.kk n 13 (by decide), _, rfl, a, dd, fs, _, _, bit n 14, rfl, a3, d3, (fun _ h => h), L.kk n 14 (by decide), _, rfl, a, dd, fs, _, _, bit n 15, rfl, a3, d3, (fun _ h => h), L.kk n 15 (by decide), (by show 3 ≤ sizeLine; decide), fun t4 nt4 => ?_⟩
  have u4 := same_new nt4 (.lst [V.bl (bit n 13), V.bl (bit n 14), V.bl (bit n 15)])
  refine ⟨p3, t4, _, _, rfl, rfl, u4 _ _ l3, upd_same, (by show 16 ≤ sizeLine; decide), fun p4 n4 => ?_⟩
  have s4 : Same H (upd (upd H3 t4 (.lst [V.bl (bit n 13), V.bl (bit n 14), V.bl (bit n 15)])) p4 (.lst [V.bl (bit n 0), V.bl (bit n 1), V.bl (bit n 2), V.bl (bit n 3), V.bl (bit n 4), V.bl (bit n 5), V.bl (bit n 6), V.bl (bit n 7), V.bl (bit n 8), V.bl (bit n 9), V.bl (bit n 10), V.bl (bit n 11), V.bl (bit n 12), V.bl (bit n 13), V.bl (bit n 14), V.bl (bit n 15)])) := s3.trans (u4.trans (same_new n4 _))
  have a4 := s4 _ _ ha
  have d4 := s4 _ _ hd
  have l4 : (upd (upd H3 t4 (.lst [V.bl (bit n 13), V.bl (bit n 14), V.bl (bit n 15)])) p4 (.lst [V.bl (bit n 0), V.bl (bit n 1), V.bl (bit n 2), V.bl (bit n 3), V.bl (bit n 4), V.bl (bit n 5), V.bl (bit n 6), V.bl (bit n 7), V.bl (bit n 8), V.bl (bit n 9), V.bl (bit n 10), V.bl (bit n 11), V.bl (bit n 12), V.bl (bit n 13), V.bl (bit n 14), V.bl (bit n 15)])) p4 = some (.lst [V.bl (bit n 0), V.bl (bit n 1), V.bl (bit n 2), V.bl (bit n 3), V.bl (bit n 4), V.bl (bit n 5), V.bl (bit n 6), V.bl (bit n 7), V.bl (bit n 8), V.bl (bit n 9), V.bl (bit n 10), V.bl (bit n 11), V.bl (bit n 12), V.bl (bit n 13), V.bl (bit n 14), V.bl (bit n 15)]) := upd_same
  change tSeq _ _ _ _ (upd (upd H3 t4 (.lst [V.bl (bit n 13), V.bl (bit n 14), V.bl (bit n 15)])) p4 (.lst [V.bl (bit n 0), V.bl (bit n 1), V.bl (bit n 2), V.bl (bit n 3), V.bl (bit n 4), V.bl (bit n 5), V.bl (bit n 6), V.bl (bit n 7), V.bl (bit n 8), V.bl (bit n 9), V.bl (bit n 10), V.bl (bit n 11), V.bl (bit n 12), V.bl (bit n 13), V.bl (bit n 14), V.bl (bit n 15)]))
  generalize upd (upd H3 t4 (.lst [V.bl (bit n 13), V.bl (bit n 14), V.bl (bit n 15)])) p4 (.lst [V.bl (bit n 0), V.bl (bit n 1), V.bl (bit n 2), V.bl (bit n 3), V.bl (bit n 4), V.bl (bit n 5), V.bl (bit n 6), V.bl (bit n 7), V.bl (bit n 8), V.bl (bit n 9), V.bl (bit n 10), V.bl (bit n 11), V.bl (bit n 12), V.bl (bit n 13), V.bl (bit n 14), V.bl (bit n 15)]) = H4 at s4 a4 d4 l4 ⊢
  refine ⟨_, rfl, _, rfl, a, dd, fs, _, _, bit n 16, rfl, a4, d4, (fun _ h => h), L.kk n 16 (by decide), _, rfl, a, dd, fs, _, _, bit n 17, rfl, a4, d4, (fun _ h => h), L.kk n 17 (by decide), _, rfl, a, dd, fs, _, _, bit n 18, rfl, a4, d4, (fun _ h => h), L.kk n 18 (by decide), (by show 3 ≤ sizeLine; decide), fun t5 nt5 => ?_⟩
  have u5 := same_new nt5 (.lst [V.bl (bit n 16), V.bl (bit n 17), V.bl (bit n 18)])
  refine ⟨p4, t5, _, _, rfl, rfl, u5 _ _ l4, upd_same, (by show 19 ≤ sizeLine; decide), fun p5 n5 => ?_⟩
  have s5 : Same H (upd (upd H4 t5 (.lst [V.bl (bit n 16), V.bl (bit n 17), V.bl (bit n 18)])) p5 (.lst [V.bl (bit n 0), V.bl (bit n 1), V.bl (bit n 2), V.bl (bit n 3), V.bl (bit n 4), V.bl (bit n 5), V.bl (bit n 6), V.bl (bit n 7), V.bl (bit n 8), V.bl (bit n 9), V.bl (bit n 10), V.bl (bit n 11), V.bl (bit n 12), V.bl (bit n 13), V.bl (bit n 14), V.bl (bit n 15), V.bl (bit n 16), V.bl (bit n 17), V.bl (bit n 18)])) := s4.trans (u5.trans (same_new n5 _))
  have a5 := s5 _ _ ha
  have d5 := s5 _ _ hd
  have l5 : (upd (upd H4 t5 (.lst [V.bl (bit n 16), V.bl (bit n 17), V.bl (bit n 18)])) p5 (.lst [V.bl (bit n 0), V.bl (bit n 1), V.bl (bit n 2), V.bl (bit n 3), V.bl (bit n 4), V.bl (bit n 5), V.bl (bit n 6), V.bl (bit n 7), V.bl (bit n 8), V.bl (bit n 9), V.bl (bit n 10), V.bl (bit n 11), V.bl (bit n 12), V.bl (bit n 13), V.bl (bit n 14), V.bl (bit n 15), V.bl (bit n 16), V.bl (bit n 17), V.bl (bit n 18)])) p5 = some (.lst [V.bl (bit n 0), V.bl (bit n 1), V.bl (bit n 2), V.bl (bit n 3), V.bl (bit n 4), V.bl (bit n 5), V.bl (bit n 6), V.bl (bit n 7), V.bl (bit n 8), V.bl (bit n 9), V.bl (bit n 10), V.bl (bit n 11), V.bl (bit n 12), V.bl (bit n 13), V.bl (bit n 14), V.bl (bit n 15), V.bl (bit n 16), V.bl (bit n 17), V.bl (bit n 18)]) := upd_same
  change tSeq _ _ _ _ (upd (upd H4 t5 (.lst [V.bl (bit n 16), V.bl (bit n 17), V.bl (bit n 18)])) p5 (.lst [V.bl (bit n 0), V.bl (bit n 1), V.bl (bit n 2), V.bl (bit n 3), V.bl (bit n 4), V.bl (bit n 5), V.bl (bit n 6), V.bl (bit n 7), V.bl (bit n 8), V.bl (bit n 9), V.bl (bit n 10), V.bl (bit n 11), V.bl (bit n 12), V.bl (bit n 13), V.bl (bit n 14), V.bl (bit n 15), V.bl (bit n 16), V.bl (bit n 17), V.bl (bit n 18)]))
  generalize upd (upd H4 t5 (.lst [V.bl (bit n 16), V.bl (bit n 17), V.bl (bit n 18)])) p5 (.lst [V.bl (bit n 0), V.bl (bit n 1), V.bl (bit n 2), V.bl (bit n 3), V.bl (bit n 4), V.bl (bit n 5), V.bl (bit n 6), V.bl (bit n 7), V.bl (bit n 8), V.bl (bit n 9), V.bl (bit n 10), V.bl (bit n 11), V.bl (bit n 12), V.bl (bit n 13), V.bl (bit n 14), V.bl (bit n 15), V.bl (bit n 16), V.bl (bit n 17), V.bl (bit n 18)]) = H5 at s5 a5 d5 l5 ⊢
  refine ⟨_, rfl, .inl ⟨rfl, _, SqL.of l5⟩, _, rfl, a, dd, fs, _, _, bit n 19, rfl, a5, d5, (fun _ h => h), L.kk n 19 (by decide), p5, _, _, rfl, rfl, l5, (by show 19 < sizeLine; decide), ?_⟩
  have new5 : H p5 = none := by
    cases e : H p5 with
    | none => rfl
    | some o => exact absurd (((s4.trans u5) _ _ e).symm.trans n5) (fun z => nomatch z)
  have s6 : Same H (upd H5 p5 (.lst (bits n))) := same_over s5 new5
  have a6 := s6 _ _ ha
  have d6 := s6 _ _ hd
  have l6 : (upd H5 p5 (.lst (bits n))) p5 = some (.lst (bits n)) := upd_same
  change tSeq _ _ _ _ (upd H5 p5 (.lst (bits n)))
  generalize upd H5 p5 (.lst (bits n)) = H6 at s6 a6 d6 l6 ⊢
  refine ⟨_, rfl, .inl ⟨rfl, _, SqL.of l6⟩, p5, _, _, rfl, rfl, SqL.of l6, rfl, bits_flat n, ?_⟩
  rw [bits_cnt]
  refine ⟨rfl, _, rfl, ?_⟩
  refine iteF ?_
  refine ⟨_, rfl, a, dd, fs, _, _, true, rfl, a6, d6, (fun _ h => h), L.ve n, _, rfl, ?_⟩
  refine iteF ?_
  refine ⟨(by show 10 ≤ sizeLine; decide), fun q1 m1 => ?_⟩
  have s7 := s6.trans (same_new m1 (.lst [V.str "bad name", V.str "known", V.str "no kind", V.str "no name", V.str "no field", V.str "bad field", V.str "fixed", V.str "ring", V.str "in use", V.str "bad body"]))
  have l7 := (same_new m1 (.lst [V.str "bad name", V.str "known", V.str "no kind", V.str "no name", V.str "no field", V.str "bad field", V.str "fixed", V.str "ring", V.str "in use", V.str "bad body"])) _ _ l6
  have r7 : (upd H6 q1 (.lst [V.str "bad name", V.str "known", V.str "no kind", V.str "no name", V.str "no field", V.str "bad field", V.str "fixed", V.str "ring", V.str "in use", V.str "bad body"])) q1 = some (.lst [V.str "bad name", V.str "known", V.str "no kind", V.str "no name", V.str "no field", V.str "bad field", V.str "fixed", V.str "ring", V.str "in use", V.str "bad body"]) := upd_same
  generalize upd H6 q1 (.lst [V.str "bad name", V.str "known", V.str "no kind", V.str "no name", V.str "no field", V.str "bad field", V.str "fixed", V.str "ring", V.str "in use", V.str "bad body"]) = H7 at s7 l7 r7 ⊢
  refine ⟨_, rfl, (by show 9 ≤ sizeLine; decide), fun q2 m2 => ?_⟩
  have u8 := same_new m2 (.lst [V.str "no way", V.str "no thing", V.str "bad value", V.str "same", V.str "no run", V.str "no back", V.str "no text", V.str "ended", V.str "no ask"])
  refine ⟨q1, q2, _, _, rfl, rfl, u8 _ _ r7, upd_same, (by show 19 ≤ sizeLine; decide), fun q3 m3 => ?_⟩
  have s8 : Same H7 (upd (upd H7 q2 (.lst [V.str "no way", V.str "no thing", V.str "bad value", V.str "same", V.str "no run", V.str "no back", V.str "no text", V.str "ended", V.str "no ask"])) q3 (.lst ([V.str "bad name", V.str "known", V.str "no kind", V.str "no name", V.str "no field", V.str "bad field", V.str "fixed", V.str "ring", V.str "in use", V.str "bad body"] ++ [V.str "no way", V.str "no thing", V.str "bad value", V.str "same", V.str "no run", V.str "no back", V.str "no text", V.str "ended", V.str "no ask"]))) := u8.trans (same_new m3 _)
  have l8 := s8 _ _ l7
  have r8 : (upd (upd H7 q2 (.lst [V.str "no way", V.str "no thing", V.str "bad value", V.str "same", V.str "no run", V.str "no back", V.str "no text", V.str "ended", V.str "no ask"])) q3 (.lst ([V.str "bad name", V.str "known", V.str "no kind", V.str "no name", V.str "no field", V.str "bad field", V.str "fixed", V.str "ring", V.str "in use", V.str "bad body"] ++ [V.str "no way", V.str "no thing", V.str "bad value", V.str "same", V.str "no run", V.str "no back", V.str "no text", V.str "ended", V.str "no ask"]))) q3 = some (.lst ([V.str "bad name", V.str "known", V.str "no kind", V.str "no name", V.str "no field", V.str "bad field", V.str "fixed", V.str "ring", V.str "in use", V.str "bad body"] ++ [V.str "no way", V.str "no thing", V.str "bad value", V.str "same", V.str "no run", V.str "no back", V.str "no text", V.str "ended", V.str "no ask"])) := upd_same
  replace s8 := s7.trans s8
  generalize upd (upd H7 q2 (.lst [V.str "no way", V.str "no thing", V.str "bad value", V.str "same", V.str "no run", V.str "no back", V.str "no text", V.str "ended", V.str "no ask"])) q3 (.lst ([V.str "bad name", V.str "known", V.str "no kind", V.str "no name", V.str "no field", V.str "bad field", V.str "fixed", V.str "ring", V.str "in use", V.str "bad body"] ++ [V.str "no way", V.str "no thing", V.str "bad value", V.str "same", V.str "no run", V.str "no back", V.str "no text", V.str "ended", V.str "no ask"])) = H8 at s8 l8 r8 ⊢
  refine ⟨_, rfl, (by show 1 ≤ sizeLine; decide), fun q4 m4 => ?_⟩
  have u9 := same_new m4 (.lst [V.str "no frame"])
  refine ⟨q3, q4, _, _, rfl, rfl, u9 _ _ r8, upd_same, (by show 20 ≤ sizeLine; decide), fun q5 m5 => ?_⟩
  have u10 := u9.trans (same_new m5 (.lst (([V.str "bad name", V.str "known", V.str "no kind", V.str "no name", V.str "no field", V.str "bad field", V.str "fixed", V.str "ring", V.str "in use", V.str "bad body"] ++ [V.str "no way", V.str "no thing", V.str "bad value", V.str "same", V.str "no run", V.str "no back", V.str "no text", V.str "ended", V.str "no ask"]) ++ [V.str "no frame"])))
  have l9 := u10 _ _ l8
  exact ⟨_, rfl, .inl ⟨rfl, _, SqL.of l9⟩, p5, _, _, posOf n, _, rfl, rfl, SqL.of l9, rfl, bits_flat n, bits_at n, rfl, bits_no n, q5, _, _, _, rfl, rfl, SqL.of upd_same, bits_word n, q _ (s8.trans u10)⟩
end
end B1

set_option maxRecDepth 100000
set_option maxHeartbeats 4000000
namespace B1
open PySem PySem.Spec PyProof.Rows L2 TL
abbrev sHe : Stmt := top 194
abbrev nHe : List Str := ["_law_deed", "_law_kept", "_law_found", "e", "_law_kind"]
theorem scHe : FnScope nHe ["_law_deed"] (defScope sHe) := ⟨rfl, rfl, rfl, by decide +kernel, rfl, by decide +kernel, by decide +kernel⟩
/-- what the lambda may raise -/
def XHeard (c : Cs) (Q : VK) : XK := fun cls d H' => ∃ (n : Nat) (dd : Addr) (y : Str), n ≤ 3 ∧ cls = .ref (c.at n) ∧ d = some dd ∧ H' dd = some (.xd [(fOf n, .str y)]) ∧ ∀ (p : Addr) (H2 : Hp), Same H' H2 → H2 p = some (.tup [.str (wordOf n), .str y]) → Q (.ref p) H2
/-- what is made of what the lambda tells, or raises -/
def THeard (c : Cs) : (XK → Hp → VK → Prop) → Hp → VK → Prop := fun tl H Q => ∀ H1, Same H H1 →
  tl (XHeard c Q) H1 (fun v H' => ∀ p, H' p = none → Q (.ref p) (upd H' p (.tup [.str "told", v])))
theorem len5 {σ : L2.St} (h : σ.length = nHe.length) : ∃ y0 y1 y2 y3 y4, σ = [y0, y1, y2, y3, y4] := by
  match σ, h with
  | [y0, y1, y2, y3, y4], _ => exact ⟨y0, y1, y2, y3, y4, rfl⟩
theorem in4 (n : Nat) : inV (V.str (wordOf n)) [V.str "bad name", V.str "known", V.str "no kind", V.str "no name"] = !decide (3 ≤ n) := by
  match n with
  | 0 => decide +kernel
  | 1 => decide +kernel
  | 2 => decide +kernel
  | k + 3 => rw [decide_eq_true (by omega)]; show inV (V.str "bad field") _ = _; decide +kernel
theorem in2 (n : Nat) (h : 3 ≤ n) : inV (V.str (wordOf n)) [V.str "no field", V.str "bad field"] = true := by
  match n, h with
  | k + 3, _ => show inV (V.str "bad field") _ = _; decide +kernel
theorem fOf_lt {n : Nat} (h : n < 3) : fOf n = "name" := by
  match n, h with
  | 0, _ => rfl
  | 1, _ => rfl
  | 2, _ => rfl
structure Hx (K : PySem.W.Frag) (c : Cs) (CH : Addr) : Prop where
  xf : ∀ n, XfC K (c.at n)
  no : ∀ n, n ≤ 3 → PySem.W.findIn K (.ref (c.at n)) (fOf n) = some none
  hE : ∀ n, PySem.W.exmOne K (.ref (c.at n)) (.ref CH) = some true
def tMon (t : TE) : TE := fun σ H Q => ∃ Q0 : VK, t σ H Q0 ∧ ∀ v H', Q0 v H' → Q v H'
theorem pe_mon {X : Cx} {e : Expr} {t : TE} (h : PE X e t) : PE X e (tMon t) := ⟨fun pins s σ H Q I ⟨Q0, h0, k⟩ => thn (h.run pins s σ H Q0 I h0) fun v s' ⟨x, H', I', r, q⟩ => ⟨x, H', I', r, k _ _ q⟩⟩
section
variable {X : Cx} {q : Str} {g fC : Addr} {dC : FuncData} {cdg : Value} {c : Cs} {CH : Addr}
theorem heard_gives (GC : FnOk X.prog X.w X.K X.mg X.base CX0 1 fC dC ["_law_kept"] (spCl c)) (bC : Binds X.K dC ["_law_kept"] []) (kC : PySem.W.keepIn X.K (.ref fC) = true) (mC : X.mg "_law_class" = some (.ref fC))
    (gH : X.mg "HallError" = some (.ref CH)) (L : Hx X.K c CH) (hr : Room 2 X.A) : LamX.GivesTo X nHe "_law_heard" (defScope sHe) g cdg (defBody sHe) "_law_deed" q (THeard c) := by
  intro f c' s H Q tl act hc h
  refine ⟨_, (pss_cons (ps_asg (pe_tup (pa_cons pe_non (pa_cons pe_non pa_nil))) (pg_tup (by rfl) (pgs_cons (pg_name (i := 1) scHe.nd rfl (.inl rfl)) (pgs_cons (pg_name (i := 2) scHe.nd rfl (.inl rfl)) pgs_nil)))) (pss_cons (ps_try_kept (X := (cxOf C8.CX0 X.prog X.w X.K X.mg X.base nHe "_law_heard" (defScope sHe) g cdg X.A X.stack s H C8.E0).nox) (i := 3) (c := .ref CH) (tb := fun W D σ H => ∃ Ech : XK, (∀ cls d σ' H', Ech cls d H' → W cls d σ' H') ∧ σ[0]? = some (some (.ref f)) ∧ H c' = some (LamX.CodeO c' q) ∧ ∃ Q0 : VK, tl Ech H Q0 ∧ ∀ v H', Q0 v H' → D.nx (σ.set 2 (some v)) H') rfl rfl scHe.nd rfl rfl rfl ⟨rfl, by decide, .inl gH⟩ (fun W pn xe tk _ => ?_) (fun a oe cls d pn hz hf => pss_one (ps_set (i := 1) scHe.nd rfl (.inl rfl) (pv 3)))) (pss_cons (ps_if (pt_cmpR op_isN (pv 1) pe_non (nomark _)) (pss_one (ps_ret (pe_tup (pa_cons pe_str (pa_cons (pv 2) pa_nil))))) pss_nil) (pss_cons (ps_set (i := 4) scHe.nd rfl (.inl rfl) (pe_call GC (show Room 1 _ from hr.deeper _) rfl mC kC bC .nil pass0 (pa_cons (pv 1) pa_nil))) (pss_cons (ps_if (pt_cmpR op_in_seq (pv 4) (pe_tup (pa_cons pe_str (pa_cons pe_str (pa_cons pe_str (pa_cons pe_str pa_nil))))) rfl) (pss_one (ps_ret (pe_tup (pa_cons (pv 4) (pa_cons (pe_xk (pv 1)) pa_nil))))) pss_nil) (pss_one (ps_ret (pe_ifExp (pt_cmpR op_in_seq (pv 4) (pe_tup (pa_cons pe_str (pa_cons pe_str pa_nil))) rfl) (pe_tup (pa_cons (pv 4) (pa_cons (pe_xk (pv 1)) pa_nil))) (pe_tup (pa_cons (pv 4) pa_nil)))))))))), ?_⟩
  · refine ⟨fun pins s' σ H' D I h' => ?_⟩
    obtain ⟨Ech, hW, h1, h2, Q0, h3, h4⟩ := h'
    exact (pss_one (ps_set (i := 2) scHe.nd rfl (.inl rfl) (pe_mon (act W pn xe Ech _ _ tk hW)))).run pins s' σ H' D I ⟨Q0, ⟨h1, h2, h3⟩, h4⟩
  · refine ⟨(by show 2 ≤ sizeLine; decide), fun p0 np0 => ⟨p0, _, rfl, SqT.of upd_same, rfl, _, _, rfl, _, _, rfl, rfl, XHeard c Q, fun cls d σ' H' hx => ?_, rfl, (same_new np0 _) _ _ hc, _, h _ (same_new np0 (.tup [.non, .non])), fun v H' hv => ?_⟩⟩
    · obtain ⟨n, dd, y, h3, rfl, rfl, hdd, go⟩ := hx
      refine ⟨L.hE n, fun a na hl => ?_⟩
      obtain ⟨y0, y1, y2, y3, y4, rfl⟩ := len5 hl
      refine ⟨_, rfl, fun na2 => ?_⟩
      have s1 := same_new na2 (ExK (.ref (c.at n)) (some dd) a)
      refine ⟨_, rfl, rfl, _, rfl, iteF ?_⟩
      refine ⟨_, rfl, n, a, dd, _, rfl, upd_same, s1 _ _ hdd, fun H2 s2 => ?_⟩
      have ea := s2 _ _ (upd_same (H := H') (a := a) (o := ExK (.ref (c.at n)) (some dd) a))
      have ed := s2 _ _ (s1 _ _ hdd)
      refine ⟨_, rfl, (by show 4 ≤ sizeLine; decide), fun p np => ⟨p, _, rfl, .inr (SqT.of upd_same), rfl, rfl, _, rfl, ?_⟩⟩
      have s3 := same_new np (.tup [V.str "bad name", V.str "known", V.str "no kind", V.str "no name"])
      rw [in4]
      by_cases hn : 3 ≤ n
      · have hf3 : PySem.W.findIn X.K (.ref (c.at n)) "field" = some none := by
          obtain rfl : n = 3 := by omega
          exact L.no 3 h3
        rw [decide_eq_true hn]
        refine iteF ?_
        refine ⟨_, rfl, (by show 2 ≤ sizeLine; decide), fun p2 np2 => ⟨p2, _, rfl, .inr (SqT.of upd_same), rfl, rfl, _, rfl, ?_⟩⟩
        have s4 := s3.trans (same_new np2 (.tup [V.str "no field", V.str "bad field"]))
        rw [in2 n hn]
        refine iteT ⟨_, rfl, _, rfl, a, dd, c.at n, _, .str y, rfl, s4 _ _ ea, s4 _ _ ed, L.xf n, hf3, ?_, (by show 2 ≤ sizeLine; decide), fun p3 np3 => ?_⟩
        · obtain rfl : n = 3 := by omega
          rfl
        · exact go p3 _ (s1.trans (s2.trans (s4.trans (same_new np3 _)))) upd_same
      · have hf3 : PySem.W.findIn X.K (.ref (c.at n)) "name" = some none := by
          have := L.no n h3
          rw [fOf_lt (by omega)] at this
          exact this
        rw [decide_eq_false hn]
        refine iteT ⟨_, rfl, _, rfl, a, dd, c.at n, _, .str y, rfl, s3 _ _ ea, s3 _ _ ed, L.xf n, hf3, ?_, (by show 2 ≤ sizeLine; decide), fun p3 np3 => ?_⟩
        · rw [fOf_lt (by omega)]; rfl
        · exact go p3 _ (s1.trans (s2.trans (s3.trans (same_new np3 _)))) upd_same
    · refine ⟨_, rfl, rfl, _, rfl, iteT ⟨_, rfl, (by show 2 ≤ sizeLine; decide), fun p np => hv p np⟩⟩
end
end B1

set_option maxRecDepth 100000
set_option maxHeartbeats 4000000
namespace B1
open PySem PySem.Spec PyProof.Rows L2
abbrev sFN : Stmt := top 201
abbrev sAK : Stmt := top 202
abbrev nFN : List Str := ["_law_script", "_law_town", "_law_most", "_law_found", "_law_k", "_law_size"]
theorem scFN : FnScope nFN ["_law_script", "_law_town", "_law_most"] (defScope sFN) := ⟨rfl, rfl, rfl, by decide +kernel, rfl, by decide +kernel, by decide +kernel⟩
theorem scAK : FnScope ["_law_script", "_law_town", "_law_plain", "_law_kinds"] ["_law_script", "_law_town", "_law_plain"] (defScope sAK) := ⟨rfl, rfl, rfl, by decide +kernel, rfl, by decide +kernel, by decide +kernel⟩
def ten : List Str := ["u", "v", "w", "x", "y", "z", "u", "v", "", "Q"]
theorem ten_ok : ∀ x ∈ ten, PyData.strOk x = true ∧ x.length ≤ 1000 := by decide +kernel
/-- names of fields -/
def spFN (K : PySem.W.Frag) : Sp := fun vs H Q _ => ∃ (A : Hp) (a t : Addr), vs = [.ref a, .ref t, .int 3] ∧ TwS K A a t ∧ Same A H ∧ ∀ (A' H' : Hp) (p : Addr) (own : List Str), Fp A H A' H' → TwS K A' a t → TupD H' p (own.map V.str) → own.length ≤ 3 → (∀ y ∈ own, okS y) → Q (.ref p) H'
/-- a name of a kind -/
def spAK (K : PySem.W.Frag) : Sp := fun vs H Q _ => ∃ (A B : Hp) (a t p : Addr) (M : List Kd), vs = [.ref a, .ref t, .ref p] ∧ TwS K A a t ∧ Same A H ∧ Pln K B p M ∧ Same B H ∧ Dj A B ∧ (∀ k ∈ M, okS k.name) ∧ ∀ (A' H' : Hp) (x : Str), Fp A H A' H' → TwS K A' a t → okS x → Q (.str x) H'
theorem fp_tupD {A H A' H' : Hp} {a : Addr} {xs : List V} (f : Fp A H A' H') (h : TupD H a xs) : TupD H' a xs := by
  obtain ⟨o, h1, h2⟩ := h
  exact ⟨o, f.frame _ _ h1 (.inr trivial), h2⟩
section
variable {P : Program} {w : World} {K : PySem.W.Frag} {mg : Str → Option Value} {base : Heap} {f fD : Addr} {fd dD : FuncData}
theorem ok_fn (F : Fun K "_law_some_names" "_law_some_names" sFN f fd) (B : Bl mg)
    (G : FnOk P w K mg base CX0 1 fD dD ["_law_script", "_law_town", "_law_many"] (spDraw K)) (bG : Binds K dD ["_law_script", "_law_town", "_law_many"] []) (kG : PySem.W.keepIn K (.ref fD) = true) (mG : mg "_law_draw" = some (.ref fD)) :
    FnOk P w K mg base CX0 2 f fd ["_law_script", "_law_town", "_law_most"] (spFN K) := by
  refine F.ok scFN (fun vs H Q E h => ?_) (fun cdv A0 outer s0 H vs Q E hr h => ?_)
  · obtain ⟨A, a, t, rfl, _⟩ := h
    rfl
  obtain ⟨A, a, t, rfl, TW, sA, q⟩ := h
  refine ⟨_, (pss_cons (ps_set (i := 3) scFN.nd rfl (.inl rfl) (pe_tupF pa_nil)) (pss_cons (ps_for PassesOwn.never rfl (pi_range1 rfl B.range (pa_cons (pe_call G hr rfl mG kG bG .nil pass0 (pa_cons (pv 0) (pa_cons (pv 1) (pa_cons (pe_op op_add (pv 2) pe_int) pa_nil)))) pa_nil)) (pg_name (i := 4) scFN.nd rfl (.inl rfl)) (pss_cons (ps_set (i := 5) scFN.nd rfl (.inl rfl) (pe_ifExp (pt_cmpR op_eq (pe_call G hr rfl mG kG bG .nil pass0 (pa_cons (pv 0) (pa_cons (pv 1) (pa_cons pe_int pa_nil)))) pe_int (nomark _)) pe_int pe_int)) (pss_one (ps_set (i := 3) scFN.nd rfl (.inl rfl) (pe_op op_catF (pv 3) (pe_tupF (pa_cons (pe_ix ix_list (pe_lst (pa_cons pe_str (pa_cons pe_str (pa_cons pe_str (pa_cons pe_str (pa_cons pe_str (pa_cons pe_str (pa_cons pe_str (pa_cons pe_str (pa_cons pe_str (pa_cons pe_str pa_nil))))))))))) (pe_call G hr rfl mG kG bG .nil pass0 (pa_cons (pv 0) (pa_cons (pv 1) (pa_cons (pv 5) pa_nil)))) (fun _ _ => rfl)) pa_nil))))))) (pss_one (ps_ret (pv 3))))), ?_⟩
  have none_of : ∀ {A1 H1 : Hp} {l : Addr}, Same A1 H1 → H1 l = none → A1 l = none := fun {A1 H1 l} s n => by
    cases e : A1 l with
    | none => rfl
    | some o => rw [s _ _ e] at n; cases n
  refine ⟨Nat.zero_le _, fun p0 o0 np0 ho0 => ?_⟩
  have f0 : Fp A H A (upd H p0 (.frz o0 (.tup []))) := .same sA (same_new np0 _)
  refine ⟨_, rfl, _, rfl, _, rfl, _, _, rfl, rfl, A, a, t, _, rfl, TW, f0.sub, by decide, by decide, fun n A1 H1 n0 n1 f1 T1 => ?_⟩
  obtain ⟨n, rfl⟩ := Int.eq_ofNat_of_zero_le n0
  have t0 : TupD (upd H p0 (.frz o0 (.tup []))) p0 (([] : List Str).map V.str) := ⟨o0, upd_same, ho0⟩
  refine ⟨_, rfl, by omega, by omega, for_it walk_range (fun i σ H' => ∃ y4 y5 p own A', σ = [some (.ref a), some (.ref t), some (.int 3), some (.ref p), y4, y5] ∧ Fp A H A' H' ∧ TwS K A' a t ∧ TupD H' p (own.map V.str) ∧ own.length ≤ i ∧ ∀ y ∈ own, okS y)
    ⟨_, _, p0, [], A1, rfl, f0.trans f1, T1, fp_tupD f1 t0, Nat.le_refl _, (fun _ h => nomatch h)⟩ (fun _ _ _ _ _ => trivial) ?_ ?_⟩
  · rintro i x σ H2 H2' hi ⟨y4, y5, p, own, A2, rfl, f2, T2, t2, l2, o2⟩ ⟨rfl, rfl⟩
    have i3 : i < 3 := by have : (n : Int).toNat = n := Int.toNat_natCast n; omega
    refine ⟨_, rfl, _, rfl, A2, a, t, _, rfl, T2, f2.sub, by decide, by decide, fun k A3 H3 k0 k1 f3 T3 => ⟨rfl, _, rfl, ?_⟩⟩
    have f23 := f2.trans f3
    have t3 := fp_tupD f3 t2
    refine ite2 (fun _ => ?_) (fun _ => ?_)
    all_goals
      refine ⟨_, rfl, (by show 10 ≤ sizeLine; decide), fun l nl => ?_⟩
      have s4 := same_new nl (.lst (ten.map V.str))
      have f4 : Fp A3 H3 A3 (upd H3 l (.lst (ten.map V.str))) := .same f3.sub s4
      refine ⟨_, rfl, _, rfl, _, rfl, A3, a, t, _, rfl, T3, f4.sub, by decide, by decide, fun j A5 H5 j0 j1 f5 T5 => ?_⟩
      obtain ⟨j, rfl⟩ := Int.eq_ofNat_of_zero_le j0
      have jl : j < ten.length := by show j < 10; omega
      have hl5 : H5 l = some (.lst (ten.map V.str)) := f5.frame _ _ upd_same (.inl (none_of f3.sub nl))
      have hy := ten_ok ten[j] (List.getElem_mem jl)
      refine ⟨l, _, _, .str ten[j], rfl, rfl, SqL.of hl5, atI_nat (by rw [List.getElem?_map, List.getElem?_eq_getElem jl]; rfl), (by show 1 ≤ sizeLine; decide), fun b ob nb hob => ?_⟩
      have t5 := fp_tupD f5 (fp_tupD f4 t3)
      have s6 := same_new nb (.frz ob (.tup [V.str ten[j]]))
      have f6 : Fp A5 H5 A5 _ := .same f5.sub s6
      have F6 := f23.trans (f4.trans (f5.trans f6))
      have tb : TupD (upd H5 b (.frz ob (.tup [V.str ten[j]]))) b ([ten[j]].map V.str) := ⟨ob, upd_same, hob⟩
      refine ⟨p, b, _, _, rfl, rfl, (t5.same s6).sq, tb.sq, (by rw [List.length_map]; show own.length + 1 ≤ sizeLine; exact Nat.le_of_lt (smallM (by omega))), fun e => ?_, fun _ e => (by cases e), fun e _ p7 o7 n7 h7 => ?_⟩
      · exact ⟨_, _, b, [ten[j]], A5, rfl, F6, T5, tb, by show 1 ≤ i + 1; omega, fun y hy' => by rw [List.mem_singleton.mp hy']; exact hy⟩
      · have s7 := same_new n7 (.frz o7 (.tup (own.map V.str ++ [V.str ten[j]])))
        exact ⟨_, _, p7, own ++ [ten[j]], A5, rfl, F6.trans (.same f6.sub s7), T5, ⟨o7, by rw [List.map_append]; exact upd_same, h7⟩, by rw [List.length_append]; show own.length + 1 ≤ i + 1; omega, fun y hy' => by
          rcases List.mem_append.mp hy' with h | h
          · exact o2 y h
          · rw [List.mem_singleton.mp h]; exact hy⟩
  · rintro σ H2 ⟨y4, y5, p, own, A2, rfl, f2, T2, t2, l2, o2⟩
    have : (n : Int).toNat = n := Int.toNat_natCast n
    exact ⟨_, rfl, q _ _ p own f2 T2 t2 (by omega) o2⟩
theorem ok_ak (F : Fun K "_law_a_kind" "_law_a_kind" sAK f fd) (B : Bl mg)
    (G : FnOk P w K mg base CX0 1 fD dD ["_law_script", "_law_town", "_law_many"] (spDraw K)) (bG : Binds K dD ["_law_script", "_law_town", "_law_many"] []) (kG : PySem.W.keepIn K (.ref fD) = true) (mG : mg "_law_draw" = some (.ref fD)) :
    FnOk P w K mg base CX0 2 f fd ["_law_script", "_law_town", "_law_plain"] (spAK K) := by
  refine F.ok scAK (fun vs H Q E h => ?_) (fun cdv A0 outer s0 H vs Q E hr h => ?_)
  · obtain ⟨A, B, a, t, p, M, rfl, _⟩ := h
    rfl
  obtain ⟨A, B', a, t, p, M, rfl, TW, sA, PL, sB, dj, hM, q⟩ := h
  have hu := hu_of hr
  refine ⟨_, (pss_cons (ps_set (i := 3) scAK.nd rfl (.inl rfl) (pe_dget hu (pv 2) pe_str (fun _ _ => rfl))) (pss_cons (ps_if (pt_cmpR op_eq (pe_call G hr rfl mG kG bG .nil pass0 (pa_cons (pv 0) (pa_cons (pv 1) (pa_cons pe_int pa_nil)))) pe_int (nomark _)) (pss_one (ps_ret (pe_ix ix_list (pe_lst (pa_cons pe_str (pa_cons pe_str pa_nil))) (pe_call G hr rfl mG kG bG .nil pass0 (pa_cons (pv 0) (pa_cons (pv 1) (pa_cons pe_int pa_nil)))) (fun _ _ => rfl)))) pss_nil) (pss_one (ps_ret (pe_ix ix_list (pv 3) (pe_call G hr rfl mG kG bG .nil pass0 (pa_cons (pv 0) (pa_cons (pv 1) (pa_cons (pe_callB call_len_seq rfl B.len bt_len (pa_cons (pv 3) pa_nil)) pa_nil)))) (fun _ _ => rfl)))))), ?_⟩
  obtain ⟨nt, a5, os, ls, ws, kvs, S⟩ := PL
  have few := S.wf.few
  have none_of : ∀ {A1 H1 : Hp} {l : Addr}, Same A1 H1 → H1 l = none → A1 l = none := fun {A1 H1 l} s n => by
    cases e : A1 l with
    | none => rfl
    | some o => rw [s _ _ e] at n; cases n
  refine ⟨_, rfl, p, _, rfl, dg (k := .inr "kinds") (sB _ _ S.at_) S.v1, ?_⟩
  refine ⟨_, rfl, _, rfl, A, a, t, _, rfl, TW, sA, by decide, by decide, fun k A3 H3 k0 k1 f3 T3 => ⟨rfl, _, rfl, ?_⟩⟩
  refine ite2 (fun _ => ?_) (fun _ => ?_)
  · refine ⟨(by show 2 ≤ sizeLine; decide), fun l nl => ?_⟩
    have s4 := same_new nl (.lst [V.str "zz", V.str "thin"])
    have f4 : Fp A3 H3 A3 (upd H3 l (.lst [V.str "zz", V.str "thin"])) := .same f3.sub s4
    refine ⟨_, rfl, _, rfl, A3, a, t, _, rfl, T3, f4.sub, by decide, by decide, fun j A5 H5 j0 j1 f5 T5 => ?_⟩
    obtain ⟨j, rfl⟩ := Int.eq_ofNat_of_zero_le j0
    have hl5 : H5 l = some (.lst [V.str "zz", V.str "thin"]) := f5.frame _ _ upd_same (.inl (none_of f3.sub nl))
    have : j = 0 ∨ j = 1 := by omega
    rcases this with rfl | rfl
    · exact ⟨l, _, _, .str "zz", rfl, rfl, SqL.of hl5, rfl, q _ _ _ (f3.trans (f4.trans f5)) T5 ⟨by decide +kernel, by decide +kernel⟩⟩
    · exact ⟨l, _, _, .str "thin", rfl, rfl, SqL.of hl5, rfl, q _ _ _ (f3.trans (f4.trans f5)) T5 ⟨by decide +kernel, by decide +kernel⟩⟩
  · have sB3 := f3.keep dj sA sB
    have dj3 := f3.dj dj sA sB
    have mp : 0 < M.length := by
      obtain ⟨k0, r, e0, _⟩ := S.wf.first
      rw [e0]; exact Nat.succ_pos _
    refine ⟨_, rfl, _, rfl, _, rfl, _, rfl, a5.kl, _, rfl, .inl (SqL.of (sB3 _ _ S.kl)), A3, a, t, _, rfl, T3, f3.sub, ?_, ?_, fun j A5 H5 j0 j1 f5 T5 => ?_⟩
    · rw [List.length_map, List.length_map]; omega
    · rw [List.length_map, List.length_map]; omega
    rw [List.length_map, List.length_map] at j1
    obtain ⟨j, rfl⟩ := Int.eq_ofNat_of_zero_le j0
    have jl : j < M.length := by omega
    have sB5 := f5.keep dj3 f3.sub sB3
    refine ⟨a5.kl, _, _, .str M[j].name, rfl, rfl, SqL.of (sB5 _ _ S.kl), atI_nat (by rw [List.getElem?_map, List.getElem?_map, List.getElem?_eq_getElem jl]; rfl), q _ _ _ (f3.trans f5) T5 (hM _ (List.getElem_mem jl))⟩
end
end B1

set_option maxRecDepth 100000
set_option maxHeartbeats 4000000
namespace B1
open PySem PySem.Spec PyProof.Rows L2
theorem ps_less {X : Cx} {st : Stmt} {t t' : TS} (h : PS X st t) (le : ∀ D σ H, t' D σ H → t D σ H) : PS X st t' := ⟨fun pins s σ H D I q => h.run pins s σ H D I (le _ _ _ q)⟩
theorem nox_of {X : Cx} {b : List Stmt} {D : Ends} {σ : L2.St} {H : Hp} (h : ∃ t, PSs X.nox b t ∧ t D σ H) : ∃ t, PSs X b t ∧ t D σ H := by
  obtain ⟨t, h1, h2⟩ := h
  exact ⟨t, h1.nox, h2⟩
abbrev sLaw : Stmt := top 203
abbrev nLaw : List Str := ["_law_script", "_law_town", "_law_plain", "_law_k", "_law_due", "_law_told", "_law_hall", "_law_loose", "_law_name", "_law_own", "_law_up_here"]
theorem scLaw : FnScope nLaw ["_law_script"] (defScope sLaw) := ⟨rfl, rfl, rfl, by decide +kernel, rfl, by decide +kernel, by decide +kernel⟩
abbrev qLam : Str := (envOfC "law" (defScope sLaw) 0 0 (.ref 0)).qual ++ "<lambda>"
theorem lm_mem {P : Addr} {q : Str} : (P, q) ∈ [(P, q)] := List.mem_singleton.mpr rfl
theorem lm_un {P : Addr} {q : Str} : ∀ p ∈ [(P, q)], p.1 = P → p.2 = q := fun p hp _ => by rw [List.mem_singleton.mp hp]
def names : List Str := ["ab", "cd", "ef", "gh", "ij", "kl", "thing", "", "aB", "abcdefghijklm"]
theorem names_ok : ∀ x ∈ names, PyData.strOk x = true ∧ x.length ≤ 1000 := by decide +kernel
theorem names_zz : Str.ofString "zz" ∉ names := by decide +kernel
theorem hal_nt {K : PySem.W.Frag} {CH CS CK : Addr} {A : Hp} {h : Addr} {M : List Kd} (a : Hal K CH CS CK A h M) : NoT A := by
  obtain ⟨As, R, s, rfl, HA⟩ := a
  exact HA.st.1.J HA.nt
theorem hal_at {K : PySem.W.Frag} {CH CS CK : Addr} {A : Hp} {h : Addr} {M : List Kd} (a : Hal K CH CS CK A h M) : ∃ dh s pl fl, A h = some (.ins CH dh [("store", .ref s), ("past", .ref pl), ("future", .ref fl)]) := by
  obtain ⟨As, R, s, rfl, HA⟩ := a
  obtain ⟨dh, pl, fl, xs, eh, _⟩ := HA.at_
  exact ⟨dh, s, pl, fl, J_r HA.ag eh⟩
/-- what stands all along: the hall's part, the plain rows' part, the script's part -/
structure LL (K : PySem.W.Frag) (CH CS CK P0 : Addr) (a t h p : Addr) (A B T H : Hp) (M N : List Kd) : Prop where
  hal : Hal K CH CS CK A h M
  sA : Same A H
  pln : Pln K B p N
  sB : Same B H
  tw : TwS K T a t
  sT : Same T H
  dTA : Dj T A
  dTB : Dj T B
  dAB : Dj A B
  tab : LamX.Tabs [(P0, qLam)] H
section
variable {K : PySem.W.Frag} {CH CS CK P0 a t h p : Addr} {A B T H H' : Hp} {M N : List Kd}
theorem LL.same (L : LL K CH CS CK P0 a t h p A B T H M N) (s : Same H H') : LL K CH CS CK P0 a t h p A B T H' M N := ⟨L.hal, L.sA.trans s, L.pln, L.sB.trans s, L.tw, L.sT.trans s, L.dTA, L.dTB, L.dAB, L.tab.ext s⟩
theorem LL.town {T' : Hp} (L : LL K CH CS CK P0 a t h p A B T H M N) (f : Fp T H T' H') (w : TwS K T' a t) : LL K CH CS CK P0 a t h p A B T' H' M N :=
  ⟨L.hal, f.keep L.dTA L.sT L.sA, L.pln, f.keep L.dTB L.sT L.sB, w, f.sub, f.dj L.dTA L.sT L.sA, f.dj L.dTB L.sT L.sB, L.dAB, f.tabs L.tab⟩
theorem LL.ext (L : LL K CH CS CK P0 a t h p A B T H M N) (e : LamX.ExtN H H') (tb : LamX.Tabs [(P0, qLam)] H') : LL K CH CS CK P0 a t h p A B T H' M N :=
  ⟨L.hal, (hal_nt L.hal).ext L.sA e, L.pln, L.pln.1.ext L.sB e, L.tw, L.tw.nt.ext L.sT e, L.dTA, L.dTB, L.dAB, tb⟩
theorem LL.plain {B' : Hp} {N' : List Kd} (L : LL K CH CS CK P0 a t h p A B T H M N) (f : Fp B H B' H') (w : Pln K B' p N') : LL K CH CS CK P0 a t h p A B' T H' M N' := by
  have dBA := L.dAB.symm L.sA L.sB
  have dBT := L.dTB.symm L.sT L.sB
  have sA := f.keep dBA L.sB L.sA
  have sT := f.keep dBT L.sB L.sT
  exact ⟨L.hal, sA, w, f.sub, L.tw, sT, L.dTA, (f.dj dBT L.sB L.sT).symm f.sub sT, (f.dj dBA L.sB L.sA).symm f.sub sA, f.tabs L.tab⟩
theorem LL.hall {A' : Hp} {M' : List Kd} (L : LL K CH CS CK P0 a t h p A B T H M N) (f : Fp A H A' H') (w : Hal K CH CS CK A' h M') : LL K CH CS CK P0 a t h p A' B T H' M' N := by
  have dAT := L.dTA.symm L.sT L.sA
  have sB := f.keep L.dAB L.sA L.sB
  have sT := f.keep dAT L.sA L.sT
  exact ⟨w, f.sub, L.pln, sB, L.tw, sT, (f.dj dAT L.sA L.sT).symm f.sub sT, L.dTB, f.dj L.dAB L.sA L.sB, f.tabs L.tab⟩
theorem LL.new (L : LL K CH CS CK P0 a t h p A B T H M N) {l : Addr} (n : H l = none) : T l = none := by
  cases e : T l with
  | none => rfl
  | some o => rw [L.sT _ _ e] at n; cases n
end
theorem extN_tupD {H H' : Hp} {q : Addr} {xs : List V} (h : TupD H q xs) (e : LamX.ExtN H H') : TupD H' q xs := by
  obtain ⟨o, h1, h2⟩ := h
  exact ⟨o, e _ _ h1 (fun _ z => nomatch z), h2⟩
theorem extN_sqT {K : PySem.W.Frag} {H H' : Hp} {q : Addr} {xs : List V} (h : SqT K H q xs) (e : LamX.ExtN H H') : SqT K H' q xs := by
  rcases h with (h | ⟨u, h⟩) | h
  · exact .inl (.inl (e _ _ h fun _ z => nomatch z))
  · exact .inl (.inr ⟨u, e _ _ h fun _ z => nomatch z⟩)
  · exact .inr h
/-! ### what was told and what was due -/
theorem pair_shaped {x y : Str} (hx : PyData.strOk x = true) (hy : PyData.strOk y = true) : SeqAt.shaped (.tuple [.str x, .str y]) = true := strs_lay (xs := [x, y]) fun z hz => by
  simp only [List.mem_cons, List.not_mem_nil, or_false] at hz
  rcases hz with rfl | rfl
  · exact hx
  · exact hy
theorem pair_eqv (x y : Str) : PyData.eqv (.tuple [.str x, .str y]) (.tuple [.str x, .str y]) = true := by
  have := strs_eqv [x, y]
  unfold PyData.eqv
  exact this
theorem told_shaped : SeqAt.shaped (.tuple [.str "told", .none]) = true := by decide +kernel
theorem told_eqv : PyData.eqv (.tuple [.str "told", .none]) (.tuple [.str "told", .none]) = true := by decide +kernel
theorem word_ok (n : Nat) : PyData.strOk (wordOf n) = true := by
  match n with
  | 0 => decide +kernel
  | 1 => decide +kernel
  | 2 => decide +kernel
  | k + 3 => show PyData.strOk "bad field" = true; decide +kernel
theorem isE_eqv : ∀ (own : List Str), PyData.eqv (.tuple (own.map PyData.str)) (.tuple []) = own.isEmpty
  | [] => by simp [PyData.eqv, PyData.eqvAll]
  | _ :: _ => by simp [PyData.eqv, PyData.eqvAll]
theorem nil_shaped : SeqAt.shaped (.tuple []) = true := by decide +kernel
theorem Bad.le {M : List Kd} {x e : Str} {own loose : List Str} {n : Nat} {y : Str} (b : Bad M x e own loose n y) : n ≤ 3 := by
  cases b <;> decide
theorem Bad.ok {M : List Kd} {x e : Str} {own loose : List Str} {n : Nat} {y : Str} (b : Bad M x e own loose n y) (hx : okS x) (he : okS e) (ho : ∀ z ∈ own, okS z) (hl : ∀ z ∈ loose, okS z) : okS y := by
  cases b with
  | name => exact hx
  | known => exact hx
  | kind => exact he
  | own _ _ _ _ _ h => exact ho _ (List.mem_of_find?_eq_some h)
  | weak _ _ _ _ _ _ h => exact hl _ (List.mem_of_find?_eq_some h)
theorem Good.fn {M : List Kd} (w : Wf M) {x e : Str} {own loose : List Str} {i j : Nat} (g : Good M x e own loose i) (g' : Good M x e own loose j) : i = j := by
  obtain ⟨k, l, h1, h2, _⟩ := g.up
  obtain ⟨k', l', h1', h2', _⟩ := g'.up
  exact name_inj w h1 h1' (h2.trans h2'.symm)
def Scr (K : PySem.W.Frag) (H : Hp) (a : Addr) : Prop := ∃ ns : List Int, SqL K H a (ns.map V.int) ∧ ns.length ≤ 63
def spLaw (K : PySem.W.Frag) (P : Addr) : Sp := fun vs H Q _ => ∃ a : Addr, vs = [.ref a] ∧ Scr K H a ∧ H P = some (.tbl #[]) ∧ ∀ H', Q (.bl true) H'
/-- the script's part at the start -/
theorem town_part {K : PySem.W.Frag} {H H' : Hp} {a t r : Addr} (hS : Scr K H a) (s : Same H H') (nt : H t = none) (nr : H r = none) (ntr : t ≠ r) (h1 : H' t = some (.dK (townD 0 r))) (h2 : H' r = some (.dK [])) : ∃ T, TwS K T a t ∧ Same T H' ∧ ∀ b, T b ≠ none → b = a ∨ H b = none := by
  obtain ⟨ns, hs, hl⟩ := hS
  have key : ∀ W : Hp, Same W H → NoT W → SqL K W a (ns.map V.int) → (∀ b, W b ≠ none → b = a) → ∃ T, TwS K T a t ∧ Same T H' ∧ ∀ b, T b ≠ none → b = a ∨ H b = none := fun W sW nW hW dW => by
    have wt : W t = none := by
      cases e : W t with
      | none => rfl
      | some o => rw [sW _ _ e] at nt; cases nt
    have wr : W r = none := by
      cases e : W r with
      | none => rfl
      | some o => rw [sW _ _ e] at nr; cases nr
    have e1 : Same W (upd (upd W r (.dK [])) t (.dK (townD 0 r))) := (same_new wr _).trans (same_new (by rw [upd_ne ntr]; exact wt) _)
    refine ⟨upd (upd W r (.dK [])) t (.dK (townD 0 r)), ⟨NoT.upd (o := .dK (townD 0 r)) (NoT.upd (o := .dK []) nW (fun _ z => nomatch z)) (fun _ z => nomatch z), ⟨0, r, [], upd_same, by rw [upd_ne ntr.symm, upd_same], ntr, ⟨List.nodup_nil, (fun _ z => nomatch z)⟩⟩, ns, same_sqL e1 hW, hl⟩, fun b o e => ?_, fun b hb => ?_⟩
    · by_cases z : b = t
      · subst z; rw [upd_same] at e; cases e; exact h1
      · rw [upd_ne z] at e
        by_cases z2 : b = r
        · subst z2; rw [upd_same] at e; cases e; exact h2
        · rw [upd_ne z2] at e; exact s _ _ (sW _ _ e)
    · by_cases z : b = t
      · subst z; exact .inr nt
      · rw [upd_ne z] at hb
        by_cases z2 : b = r
        · subst z2; exact .inr nr
        · rw [upd_ne z2] at hb; exact .inl (dW b hb)
  have emp : Same (fun _ => none : Hp) H := fun _ _ e => nomatch e
  have one : ∀ o, H a = some o → (∀ ps, o ≠ .tbl ps) → SqL K (upd (fun _ => none : Hp) a o) a (ns.map V.int) → ∃ T, TwS K T a t ∧ Same T H' ∧ ∀ b, T b ≠ none → b = a ∨ H b = none := fun o ho hn hq => by
    refine key (upd (fun _ => none) a o) (fun b u e => ?_) (fun b u e => ?_) hq (fun b hb => ?_)
    · by_cases z : b = a
      · subst z; rw [upd_same] at e; cases e; exact ho
      · rw [upd_ne z] at e; cases e
    · by_cases z : b = a
      · subst z; rw [upd_same] at e; cases e; exact hn
      · rw [upd_ne z] at e; cases e
    · by_cases z : b = a
      · exact z
      · rw [upd_ne z] at hb; exact absurd rfl hb
  rcases hs with (h | ⟨u, h⟩) | h
  · exact one _ h (fun _ z => nomatch z) (.inl (.inl upd_same))
  · exact one _ h (fun _ z => nomatch z) (.inl (.inr ⟨u, upd_same⟩))
  · exact key _ emp (fun _ _ e => nomatch e) (.inr h) (fun b hb => absurd rfl hb)
end B1

set_option maxRecDepth 100000
set_option maxHeartbeats 4000000
namespace B1
open PySem PySem.Spec PyProof.Rows L2 TL
section
variable {K : PySem.W.Frag} {CH CS CK P0 a t h p : Addr} {c : Cs}
/-- make_kind, told or refused -/
theorem mk_go {A B T H : Hp} {M N : List Kd} {x e : Str} {q9 q7 : Addr} {own loose : List Str} {Q : VK} (L : LL K CH CS CK P0 a t h p A B T H M N) (ask : Ask K H M x e q9 q7 own loose)
    (bad : ∀ n y, Bad M x e own loose n y → ∀ q H', Same H H' → H' q = some (.tup [.str (wordOf n), .str y]) → Q (.ref q) H')
    (good : ∀ i, Good M x e own loose i → ∀ A' H' q, LL K CH CS CK P0 a t h p A' B T H' (M ++ [⟨x, some i, own, loose⟩]) N → (∀ b o, H b = some o → im o → H' b = some o) → H' q = some (.tup [.str "told", .non]) → Q (.ref q) H')
    {H2 : Hp} (s2 : Same H H2) : spHM K CH CS CK c [.ref h, .str x, .str e, .ref q9, .ref q7] H2 (fun v H' => ∀ p, H' p = none → Q (.ref p) (upd H' p (.tup [.str "told", v]))) (XHeard c Q) := by
  have L2 := L.same s2
  refine ⟨A, h, q9, q7, M, x, e, own, loose, rfl, L.hal, L2.sA, ask.same s2, fun n y b d H3 s3 nd => ?_, fun i g A' H' fp hal q nq => ?_⟩
  · exact ⟨n, d, y, b.le, rfl, rfl, upd_same, fun q H4 s4 h4 => bad n y b q H4 (s2.trans (s3.trans ((same_new nd _).trans s4))) h4⟩
  · have s4 := same_new nq (.tup [.str "told", .non])
    exact good i g A' _ q ((L2.hall fp hal).same s4) (fun b o e i => s4 _ _ (fp.frame b o (s2 _ _ e) (.inr i))) upd_same
/-- the names that may be weak -/
def tLo (K : PySem.W.Frag) (CH CS CK P0 a t h p : Addr) : TS := fun D σ H => ∃ (A B T : Hp) (M : List Kd) (own : List Str) (q7 q9 : Addr) (y3 y4 y5 y8 y10 : Option V), σ = [some (.ref a), some (.ref t), some (.ref p), y3, y4, y5, some (.ref h), some (.ref q7), y8, some (.ref q9), y10] ∧
  LL K CH CS CK P0 a t h p A B T H M M ∧ TupD H q9 (own.map V.str) ∧ own.length ≤ 3 ∧ (∀ y ∈ own, okS y) ∧ SqT K H q7 [] ∧
  ∀ (T' H' : Hp) (g : Addr) (loose : List Str), LL K CH CS CK P0 a t h p A B T' H' M M → TupD H' q9 (own.map V.str) → SqT K H' g (loose.map V.str) → loose.length ≤ 10 → (∀ y ∈ loose, okS y) → D.nx [some (.ref a), some (.ref t), some (.ref p), y3, y4, y5, some (.ref h), some (.ref g), y8, some (.ref q9), y10] H'
/-- a kind is made or refused, twice -/
def tMkK (K : PySem.W.Frag) (CH CS CK P0 a t h p : Addr) : TS := fun D σ H => ∃ (A B T : Hp) (M : List Kd) (own loose : List Str) (x : Str) (q7 q9 : Addr) (y3 y4 y5 : Option V), σ = [some (.ref a), some (.ref t), some (.ref p), y3, y4, y5, some (.ref h), some (.ref q7), some (.str x), some (.ref q9), some (.str "thing")] ∧
  LL K CH CS CK P0 a t h p A B T H M M ∧ TupD H q9 (own.map V.str) ∧ own.length ≤ 3 ∧ (∀ y ∈ own, okS y) ∧ SqT K H q7 (loose.map V.str) ∧ loose.length ≤ 10 ∧ (∀ y ∈ loose, okS y) ∧ okS x ∧ Iv M ∧ M.length < 30 ∧
  ∀ (A' B' T' H' : Hp) (M' : List Kd) (z4 z5 : Addr) (z10 : Option V) (d : PyData), LL K CH CS CK P0 a t h p A' B' T' H' M' M' → Iv M' → (M' = M ∨ ∃ i o l, M' = M ++ [⟨x, i, o, l⟩]) → Dp K H' (.ref z4) d → Dp K H' (.ref z5) d → SeqAt.shaped d = true → PyData.eqv d d = true →
    D.nx [some (.ref a), some (.ref t), some (.ref p), y3, some (.ref z4), some (.ref z5), some (.ref h), some (.ref q7), some (.str x), some (.ref q9), z10] H'
/-- both ways of one deed -/
theorem due_go {A B T H : Hp} {M : List Kd} {x e : Str} {q9 q7 : Addr} {own loose : List Str} {Q : VK} (L : LL K CH CS CK P0 a t h p A B T H M M) (iv : Iv M) (hM : M.length < 30) (hf : TupD H q9 (own.map V.str)) (hg : SqT K H q7 (loose.map V.str)) (hx : okS x) (he : okS e) (ho : ∀ y ∈ own, okS y) (hol : own.length ≤ 3) (hlo : ∀ y ∈ loose, okS y) (hll : loose.length ≤ 10)
    (go : ∀ (B' H' : Hp) (N : List Kd) (z4 : Addr), LL K CH CS CK P0 a t h p A B' T H' M N → TupD H' q9 (own.map V.str) → SqT K H' q7 (loose.map V.str) →
      (∀ (H1 : Hp), LamX.ExtN H' H1 → LamX.Tabs [(P0, qLam)] H1 → ∀ (Q1 : VK), (∀ (A2 H2 : Hp) (M' : List Kd) (z5 : Addr) (d : PyData), LL K CH CS CK P0 a t h p A2 B' T H2 M' M' → Iv M' → (M' = M ∨ ∃ i o l, M' = M ++ [⟨x, i, o, l⟩]) → Dp K H2 (.ref z4) d → Dp K H2 (.ref z5) d → SeqAt.shaped d = true → PyData.eqv d d = true → Q1 (.ref z5) H2) →
        ∀ {H2 : Hp} {q8 : Addr}, SqT K H1 q8 (loose.map V.str) → Same H1 H2 → spHM K CH CS CK c [.ref h, .str x, .str e, .ref q9, .ref q8] H2 (fun v H' => ∀ p, H' p = none → Q1 (.ref p) (upd H' p (.tup [.str "told", v]))) (XHeard c Q1)) → Q (.ref z4) H') (E : XK) :
    spNK K [.ref p, .str x, .str e, .ref q9, .ref q7] H Q E := by
  have ask : ∀ {H' : Hp} {q8 : Addr}, TupD H' q9 (own.map V.str) → SqT K H' q8 (loose.map V.str) → Ask K H' M x e q9 q8 own loose := fun {H' q8} h1 h2 => ⟨h1, h2, hx.2, fun y hy => (ho y hy).2, by omega, by omega, fun i l h => (iv.sums i l h).1⟩
  refine ⟨B, p, q9, q7, M, x, e, own, loose, rfl, L.pln, L.sB, hf, hg, hx, ho, by omega, by omega, by omega, fun i l h => (iv.sums i l h).1, fun n y b z4 H1 s1 h1 => ?_, fun i g B' H' z4 fp pl h1 => ?_⟩
  · have L1 := L.same s1
    refine go B H1 M z4 L1 (hf.same s1) (same_sqT s1 hg) fun H2 e2 T2 Q1 q1 {H3 q8} g8 s3 => ?_
    have L2 := L1.ext e2 T2
    have h2 := e2 _ _ h1 fun _ z => nomatch z
    have oky := b.ok hx he ho hlo
    refine mk_go (N := M) L2 (ask (extN_tupD (hf.same s1) e2) g8) (fun n' y' b' z5 H4 s4 h4 => ?_) (fun i g => (g.not iv.wf b).elim) s3
    obtain ⟨rfl, rfl⟩ := Bad.fn iv.wf b b'
    exact q1 A H4 M z5 (.tuple [.str (wordOf n), .str y]) (L2.same s4) iv (.inl rfl) (.tup (SqT.of (s4 _ _ h2)) (.cons (.str _) (.cons (.str _) .nil))) (.tup (SqT.of h4) (.cons (.str _) (.cons (.str _) .nil))) (pair_shaped (word_ok n) oky.1) (pair_eqv _ _)
  · have L1 := L.plain fp pl
    have hf1 := fp_tupD fp hf
    refine go B' H' _ z4 L1 hf1 (fp.sqT hg) fun H2 e2 T2 Q1 q1 {H3 q8} g8 s3 => ?_
    have L2 := L1.ext e2 T2
    have h2 := e2 _ _ h1 fun _ z => nomatch z
    refine mk_go L2 (ask (extN_tupD hf1 e2) g8) (fun n' y' b' => (g.not iv.wf b').elim) (fun j g' A' H4 z5 L4 k4 h4 => ?_) s3
    obtain rfl := Good.fn iv.wf g g'
    exact q1 A' H4 _ z5 (.tuple [.str "told", .none]) L4 (iv.snoc g (by omega) hx (by omega) ho hll) (.inr ⟨_, _, _, rfl⟩) (.tup (SqT.of (k4 _ _ h2 trivial)) (.cons (.str _) (.cons .non .nil))) (.tup (SqT.of h4) (.cons (.str _) (.cons .non .nil))) told_shaped told_eqv
end
end B1

set_option maxRecDepth 100000
set_option maxHeartbeats 4000000
namespace B1
open PySem PySem.Spec PyProof.Rows L2 TL
abbrev psHM : List Str := ["self", "name", "elder", "fields", "weak"]
section
variable {K : PySem.W.Frag} {P : Program} {w : World} {mg : Str → Option Value} {base : Heap} {f c P0 fDr fBe fNw fHI fFN fAK fNK fHM fHe fCl fKR fl fh ff fw CH CS CK CE wE : Addr} {dDr dBe dNw dHI dFN dAK dNK dHM dHe dCl dKR dl dh df dw : FuncData} {oc kV doc pm ct : Value} {od an : Option Addr} {osl : Array (Option Value)} {cs : Cs}
  {g1 g2 : List Value → List Value → List Value} {gV1 gV2 : List V → List V → List V}
theorem zz_go {R : List Kd → Nat → List Nat → List Str} {a t h p : Addr} {A B T H : Hp} {M N : List Kd} {Q : VK} (L : LL K CH CS CK P0 a t h p A B T H M N) (iv : Iv M) (hn : ∀ k ∈ M, k.name ∈ names)
    (q : ∀ q8 H8, LL K CH CS CK P0 a t h p A B T H8 M N → H8 q8 = some (.tup [.str "no kind", .str "zz"]) → Q (.ref q8) H8) {H2 : Hp} (s2 : Same H H2) :
    spRd K CH CS CK cs.CN R [.ref h, .str "zz"] H2 (fun v H' => ∀ p, H' p = none → Q (.ref p) (upd H' p (.tup [.str "told", v]))) (XHeard cs Q) := by
  have L2 := L.same s2
  refine ⟨A, h, M, "zz", rfl, L.hal, L2.sA, fun i l h => iv.sums i l h, fun _ d nd => ⟨2, d, "zz", by decide, rfl, rfl, upd_same, fun q8 H8 s8 h8 => q q8 H8 (L2.same ((same_new nd _).trans s8)) h8⟩, fun i k l hk hkn => ?_⟩
  have := hn k (List.mem_of_getElem? hk)
  rw [hkn] at this
  exact absurd this names_zz
theorem ok_law (lk : K.lookup f = some ⟨oc, od, .func (PySem.W.fnOf "law" "law" (defArgs sLaw) (defBody sLaw) (defScope sLaw) .none kV doc pm an (.ref c) ct), osl⟩) (hcd : PySem.W.codeIn K (.ref c) "law" = true) (X : Tx K mg CH CS CK)
    (TB : LamX.TabB base mg c P0)
    (GDr : FnOk P w K mg base CX0 1 fDr dDr ["_law_script", "_law_town", "_law_many"] (spDraw K)) (bDr : Binds K dDr ["_law_script", "_law_town", "_law_many"] []) (kDr : PySem.W.keepIn K (.ref fDr) = true) (mDr : mg "_law_draw" = some (.ref fDr))
    (GBe : FnOk P w K mg base CX0 1 fBe dBe [] spBegun) (bBe : Binds K dBe [] []) (kBe : PySem.W.keepIn K (.ref fBe) = true) (mBe : mg "_law_begun" = some (.ref fBe))
    (GNw : FnOk P w K mg base CX0 1 fNw dNw [] (spNw K)) (bNw : Binds K dNw [] []) (kNw : PySem.W.keepIn K (.ref fNw) = true) (mNw : mg "_law_new" = some (.ref fNw))
    (MH : Mk K CH fHI) (GHI : FnOk P w K mg base CX0 5 fHI dHI ["self"] (spHI K CH CS CK)) (bHI : Binds K dHI ["self"] [])
    (GFN : FnOk P w K mg base CX0 2 fFN dFN ["_law_script", "_law_town", "_law_most"] (spFN K)) (bFN : Binds K dFN ["_law_script", "_law_town", "_law_most"] []) (kFN : PySem.W.keepIn K (.ref fFN) = true) (mFN : mg "_law_some_names" = some (.ref fFN))
    (GAK : FnOk P w K mg base CX0 2 fAK dAK ["_law_script", "_law_town", "_law_plain"] (spAK K)) (bAK : Binds K dAK ["_law_script", "_law_town", "_law_plain"] []) (kAK : PySem.W.keepIn K (.ref fAK) = true) (mAK : mg "_law_a_kind" = some (.ref fAK))
    (GNK : FnOk P w K mg base CX0 3 fNK dNK ["_law_plain", "_law_name", "_law_up_here", "_law_own", "_law_loose"] (spNK K)) (bNK : Binds K dNK ["_law_plain", "_law_name", "_law_up_here", "_law_own", "_law_loose"] []) (kNK : PySem.W.keepIn K (.ref fNK) = true) (mNK : mg "_law_new_kind" = some (.ref fNK))
    (GHM : FnOk P w K mg base (L2.CX P w) 8 fHM dHM psHM (spHM K CH CS CK cs)) (mHM : Meth K CH "make_kind" fHM)
    (k1 : KBn K dHM psHM 2 ["fields"] g1 gV1) (v1 : ∀ x y z, gV1 [x, y] [z] = [x, y, .str "thing", z, .ref wE]) (hwE : ∀ H : Hp, SqT K H wE [])
    (k2 : KBn K dHM psHM 2 ["weak", "elder", "fields"] g2 gV2) (v2 : ∀ x y u v z, gV2 [x, y] [u, v, z] = [x, y, v, z, u])
    (FHe : Fun K "_law_heard" "_law_heard" sHe fHe dHe) (bHe : Binds K dHe ["_law_deed"] []) (mHe : mg "_law_heard" = some (.ref fHe))
    (GCl : FnOk P w K mg base CX0 1 fCl dCl ["_law_kept"] (spCl cs)) (bCl : Binds K dCl ["_law_kept"] []) (kCl : PySem.W.keepIn K (.ref fCl) = true) (mCl : mg "_law_class" = some (.ref fCl))
    (gH : mg "HallError" = some (.ref CE)) (hx : Hx K cs CE)
    (GKR : FnOk P w K mg base CX0 5 fKR dKR ["_law_hall", "_law_plain"] (spKR K CH CS CK)) (bKR : Binds K dKR ["_law_hall", "_law_plain"] []) (kKR : PySem.W.keepIn K (.ref fKR) = true) (mKR : mg "_law_kinds_right" = some (.ref fKR))
    (Gl : FnOk P w K mg base (L2.CX P w) 4 fl dl ["self", "kind"] (spRd K CH CS CK cs.CN fun M i l => nmsOf M l)) (bl : Binds K dl ["self", "kind"] []) (ml : Meth K CH "line" fl)
    (Gh : FnOk P w K mg base (L2.CX P w) 4 fh dh ["self", "kind"] (spRd K CH CS CK cs.CN fun M i l => nmsOf M (hs M M.length (some i)))) (bh : Binds K dh ["self", "kind"] []) (mh : Meth K CH "heirs" fh)
    (Gf : FnOk P w K mg base (L2.CX P w) 4 ff df ["self", "kind"] (spRd K CH CS CK cs.CN fun M i l => sel M (·.own) l.reverse)) (bf : Binds K df ["self", "kind"] []) (mf : Meth K CH "fields_of" ff)
    (Gw : FnOk P w K mg base (L2.CX P w) 4 fw dw ["self", "kind"] (spRd K CH CS CK cs.CN fun M i l => sel M Kd.weak l.reverse)) (bw : Binds K dw ["self", "kind"] []) (mw : Meth K CH "weak_of" fw) :
    FnOk P w K mg base CX0 11 f (PySem.W.fnOf "law" "law" (defArgs sLaw) (defBody sLaw) (defScope sLaw) .none kV doc pm an (.ref c) ct) ["_law_script"] (spLaw K P0) := by
  obtain ⟨och, odh, kVh, doch, pmh, anh, cdvh, cth, oslh, rfl, lkh, hch⟩ := FHe.ex
  refine fn_of lk hcd scLaw (fun vs H Q E h => ?_) (fun A0 outer s0 H vs Q E hr h => ?_)
  · obtain ⟨a, rfl, _⟩ := h
    rfl
  obtain ⟨a, rfl, hS, hP, q⟩ := h
  have B := X.B
  have h1 := hr.mono (show 1 ≤ 10 by decide)
  have h2 := hr.mono (show 2 ≤ 10 by decide)
  have h3 := hr.mono (show 3 ≤ 10 by decide)
  have h5 := hr.mono (show 5 ≤ 10 by decide)
  have h6 := hr.mono (show 6 ≤ 10 by decide)
  refine nox_of (X := cxOf CX0 P w K mg base nLaw "law" (defScope sLaw) f (.ref c) A0 outer s0 H E) ?_
  refine ⟨_, (pss_cons (ps_set (i := 1) scLaw.nd rfl (.inl rfl) (pe_call0 GBe h1 rfl mBe kBe bBe .nil pass0)) (pss_cons (ps_asg (pe_tup (pa_cons (pe_make0 MH GHI h6 rfl X.mH bHI .nil pass0) (pa_cons (pe_call0 GNw h1 rfl mNw kNw bNw .nil pass0) pa_nil))) (pg_tup (by rfl) (pgs_cons (pg_name (i := 6) scLaw.nd rfl (.inr rfl)) (pgs_cons (pg_name (i := 2) scLaw.nd rfl (.inl rfl)) pgs_nil)))) (pss_cons (ps_for PassesOwn.never rfl (pi_range1 rfl B.range (pa_cons pe_int pa_nil)) (pg_name (i := 3) scLaw.nd rfl (.inl rfl)) (pss_cons (ps_set (i := 8) scLaw.nd rfl (.inr rfl) (pe_ix ix_list (pe_lst (pa_cons pe_str (pa_cons pe_str (pa_cons pe_str (pa_cons pe_str (pa_cons pe_str (pa_cons pe_str (pa_cons pe_str (pa_cons pe_str (pa_cons pe_str (pa_cons pe_str pa_nil))))))))))) (pe_call GDr h1 rfl mDr kDr bDr .nil pass0 (pa_cons (pv 0) (pa_cons (pv 1) (pa_cons pe_int pa_nil)))) (fun _ _ => rfl))) (pss_cons (ps_set (i := 10) scLaw.nd rfl (.inr rfl) pe_str) (pss_cons (ps_asg (pe_tup (pa_cons (pe_call GFN h2 rfl mFN kFN bFN .nil pass0 (pa_cons (pv 0) (pa_cons (pv 1) (pa_cons pe_int pa_nil)))) (pa_cons (pe_tup pa_nil) pa_nil))) (pg_tup (by rfl) (pgs_cons (pg_name (i := 9) scLaw.nd rfl (.inr rfl)) (pgs_cons (pg_name (i := 7) scLaw.nd rfl (.inr rfl)) pgs_nil)))) (pss_cons (ps_less (t' := fun D σ H => ∃ a t h p, tLo K CH CS CK P0 a t h p D σ H) (ps_if (PW.pt (pw_and (pt_cmpR (op_neD hr.units) (pv 9) (pe_tup pa_nil) (nomark _)) (pw_and1 (pt_cmpR op_eq (pe_call GDr h1 rfl mDr kDr bDr .nil pass0 (pa_cons (pv 0) (pa_cons (pv 1) (pa_cons pe_int pa_nil)))) pe_int (nomark _))))) (pss_one (ps_set (i := 7) scLaw.nd rfl (.inr rfl) (pe_ifExp (pt_cmpR op_gt (pe_call GDr h1 rfl mDr kDr bDr .nil pass0 (pa_cons (pv 0) (pa_cons (pv 1) (pa_cons pe_int pa_nil)))) pe_int (nomark _)) (pe_tup (pa_cons (pe_ix ix_tup (pv 9) (pe_call GDr h1 rfl mDr kDr bDr .nil pass0 (pa_cons (pv 0) (pa_cons (pv 1) (pa_cons (pe_callB call_len_seq rfl B.len bt_len (pa_cons (pv 9) pa_nil)) pa_nil)))) (fun _ _ => rfl)) pa_nil)) (pe_tup (pa_cons pe_str pa_nil))))) pss_nil) ?l1) (pss_cons (ps_less (t' := fun D σ H => ∃ a t h p, tMkK K CH CS CK P0 a t h p D σ H) (ps_if (pt_cmpR op_eq (pe_call GDr h1 rfl mDr kDr bDr .nil pass0 (pa_cons (pv 0) (pa_cons (pv 1) (pa_cons pe_int pa_nil)))) pe_int (nomark _)) (pss_cons (ps_set (i := 4) scLaw.nd rfl (.inl rfl) (pe_call GNK h3 rfl mNK kNK bNK .nil pass0 (pa_cons (pv 2) (pa_cons (pv 8) (pa_cons pe_str (pa_cons (pv 9) (pa_cons (pe_tup pa_nil) pa_nil))))))) (pss_one (ps_set (i := 5) scLaw.nd rfl (.inl rfl) (LamX.pe_lamcall (T := [(P0, qLam)]) (TT := THeard cs) (t := fun E => tMethN CH "make_kind" 2 (["fields"] : List Str).length (spHM K CH CS CK cs) gV1 E (tVar 6) (tCons (tVar 8) tNil) (tCons (tVar 9) tNil)) (c := c) (P := P0) (k := 8) rfl mHe FHe.kp lkh hch bHe scHe rfl (Or.inl rfl) (heard_gives GCl bCl kCl mCl gH hx h2) TB rfl lm_mem lm_un hr (LamX.lamS_by (sc := (defScope sLaw)) (by decide +kernel)) rfl (fun _ _ _ _ _ => rfl) (fun A outer s H E f c' hr2 => pe_methN (pv 6) X.cH mHM GHM hr2 k1 (passes_call (takes_of rfl rfl rfl rfl) (fun _ _ _ _ h => h)) (pa_cons (pv 8) pa_nil) (pk_cons (pv 9) pk_nil)))))) (pss_cons (ps_set (i := 10) scLaw.nd rfl (.inr rfl) (pe_call GAK h2 rfl mAK kAK bAK .nil pass0 (pa_cons (pv 0) (pa_cons (pv 1) (pa_cons (pv 2) pa_nil))))) (pss_cons (ps_set (i := 4) scLaw.nd rfl (.inl rfl) (pe_call GNK h3 rfl mNK kNK bNK .nil pass0 (pa_cons (pv 2) (pa_cons (pv 8) (pa_cons (pv 10) (pa_cons (pv 9) (pa_cons (pv 7) pa_nil))))))) (pss_one (ps_set (i := 5) scLaw.nd rfl (.inl rfl) (LamX.pe_lamcall (T := [(P0, qLam)]) (TT := THeard cs) (t := fun E => tMethN CH "make_kind" 2 (["weak", "elder", "fields"] : List Str).length (spHM K CH CS CK cs) gV2 E (tVar 6) (tCons (tVar 8) tNil) (tCons (tVar 7) (tCons (tVar 10) (tCons (tVar 9) tNil)))) (c := c) (P := P0) (k := 8) rfl mHe FHe.kp lkh hch bHe scHe rfl (Or.inl rfl) (heard_gives GCl bCl kCl mCl gH hx h2) TB rfl lm_mem lm_un hr (LamX.lamS_by (sc := (defScope sLaw)) (by decide +kernel)) rfl (fun _ _ _ _ _ => rfl) (fun A outer s H E f c' hr2 => pe_methN (pv 6) X.cH mHM GHM hr2 k2 (passes_call (takes_of rfl rfl rfl rfl) (fun _ _ _ _ h => h)) (pa_cons (pv 8) pa_nil) (pk_cons (pv 7) (pk_cons (pv 10) (pk_cons (pv 9) pk_nil)))))))))) ?l2) (pss_one (ps_if (PW.pt (pw_or (pt_cmpR (op_neD hr.units) (pv 5) (pv 4) (nomark _)) (pw_or1 (pt_not (pt_val (pe_call GKR h5 rfl mKR kKR bKR .nil pass0 (pa_cons (pv 6) (pa_cons (pv 2) pa_nil)))))))) (pss_one (ps_ret pe_bl)) pss_nil)))))))) (pss_cons (ps_if (pt_cmpR (op_neD hr.units) (LamX.pe_lamcall (T := [(P0, qLam)]) (TT := THeard cs) (t := fun E => tMeth CH "line" (spRd K CH CS CK cs.CN fun M i l => nmsOf M l) [] E (tVar 6) (tCons (tC (.str "zz")) tNil)) (c := c) (P := P0) (k := 4) rfl mHe FHe.kp lkh hch bHe scHe rfl (Or.inl rfl) (heard_gives GCl bCl kCl mCl gH hx h2) TB rfl lm_mem lm_un h6 (LamX.lamS_by (sc := (defScope sLaw)) (by decide +kernel)) rfl (fun _ _ _ _ _ => rfl) (fun A outer s H E f c' hr2 => pe_meth (pv 6) X.cH ml Gl hr2 bl .nil (passes_call (takes_of rfl rfl rfl rfl) (fun _ _ _ _ h => h)) (pa_cons pe_str pa_nil))) (pe_tup (pa_cons pe_str (pa_cons pe_str pa_nil))) (nomark _)) (pss_one (ps_ret pe_bl)) pss_nil) (pss_cons (ps_if (pt_cmpR (op_neD hr.units) (LamX.pe_lamcall (T := [(P0, qLam)]) (TT := THeard cs) (t := fun E => tMeth CH "heirs" (spRd K CH CS CK cs.CN fun M i l => nmsOf M (hs M M.length (some i))) [] E (tVar 6) (tCons (tC (.str "zz")) tNil)) (c := c) (P := P0) (k := 4) rfl mHe FHe.kp lkh hch bHe scHe rfl (Or.inl rfl) (heard_gives GCl bCl kCl mCl gH hx h2) TB rfl lm_mem lm_un h6 (LamX.lamS_by (sc := (defScope sLaw)) (by decide +kernel)) rfl (fun _ _ _ _ _ => rfl) (fun A outer s H E f c' hr2 => pe_meth (pv 6) X.cH mh Gh hr2 bh .nil (passes_call (takes_of rfl rfl rfl rfl) (fun _ _ _ _ h => h)) (pa_cons pe_str pa_nil))) (pe_tup (pa_cons pe_str (pa_cons pe_str pa_nil))) (nomark _)) (pss_one (ps_ret pe_bl)) pss_nil) (pss_cons (ps_if (pt_cmpR (op_neD hr.units) (LamX.pe_lamcall (T := [(P0, qLam)]) (TT := THeard cs) (t := fun E => tMeth CH "fields_of" (spRd K CH CS CK cs.CN fun M i l => sel M (·.own) l.reverse) [] E (tVar 6) (tCons (tC (.str "zz")) tNil)) (c := c) (P := P0) (k := 4) rfl mHe FHe.kp lkh hch bHe scHe rfl (Or.inl rfl) (heard_gives GCl bCl kCl mCl gH hx h2) TB rfl lm_mem lm_un h6 (LamX.lamS_by (sc := (defScope sLaw)) (by decide +kernel)) rfl (fun _ _ _ _ _ => rfl) (fun A outer s H E f c' hr2 => pe_meth (pv 6) X.cH mf Gf hr2 bf .nil (passes_call (takes_of rfl rfl rfl rfl) (fun _ _ _ _ h => h)) (pa_cons pe_str pa_nil))) (pe_tup (pa_cons pe_str (pa_cons pe_str pa_nil))) (nomark _)) (pss_one (ps_ret pe_bl)) pss_nil) (pss_one (ps_ret (pe_cmpR (op_eqD hr.units) (LamX.pe_lamcall (T := [(P0, qLam)]) (TT := THeard cs) (t := fun E => tMeth CH "weak_of" (spRd K CH CS CK cs.CN fun M i l => sel M Kd.weak l.reverse) [] E (tVar 6) (tCons (tC (.str "zz")) tNil)) (c := c) (P := P0) (k := 4) rfl mHe FHe.kp lkh hch bHe scHe rfl (Or.inl rfl) (heard_gives GCl bCl kCl mCl gH hx h2) TB rfl lm_mem lm_un h6 (LamX.lamS_by (sc := (defScope sLaw)) (by decide +kernel)) rfl (fun _ _ _ _ _ => rfl) (fun A outer s H E f c' hr2 => pe_meth (pv 6) X.cH mw Gw hr2 bw .nil (passes_call (takes_of rfl rfl rfl rfl) (fun _ _ _ _ h => h)) (pa_cons pe_str pa_nil))) (pe_tup (pa_cons pe_str (pa_cons pe_str pa_nil))) (nomark _)))))))))), ?_⟩
  case l1 =>
    rintro D σ H ⟨a, t, h, p, A, B', T, M, own, q7, q9, y3, y4, y5, y8, y10, rfl, L, hf, hol, ho, hg, go⟩
    have hf0 := hf
    refine ⟨_, rfl, Nat.zero_le _, fun p1 np1 => ?_⟩
    have s1 := same_new np1 (.tup [])
    have L1 := L.same s1
    have hf1 := hf.same s1
    refine ⟨.tuple (own.map PyData.str), .tuple [], .tup hf1.sq (strs_dps own), .tup (SqT.of upd_same) .nil, strs_lay (fun y hy => (ho y hy).1), nil_shaped, _, rfl, ?_⟩
    rw [isE_eqv]
    refine ite2 (fun e1 => ?_) (fun e1 => ?_)
    · refine ⟨_, rfl, _, rfl, T, a, t, _, rfl, L1.tw, L1.sT, by decide, by decide, fun k T2 H2 k0 k1' f2 w2 => ⟨rfl, _, rfl, ?_⟩⟩
      have L2 := L1.town f2 w2
      have hf2 := fp_tupD f2 hf1
      refine ite2 (fun e2 => ?_) (fun e2 => ?_)
      · refine ⟨_, rfl, _, rfl, T2, a, t, _, rfl, L2.tw, L2.sT, by decide, by decide, fun k T3 H3 k0 k1' f3 w3 => ⟨_, _, rfl, rfl, _, rfl, ?_⟩⟩
        have L3 := L2.town f3 w3
        have hf3 := fp_tupD f3 hf2
        have ol : 0 < own.length := by
          cases own with
          | nil => simp at e1
          | cons _ _ => exact Nat.succ_pos _
        refine ite2 (fun e3 => ?_) (fun e3 => ?_)
        · refine ⟨_, rfl, _, rfl, _, rfl, _, rfl, q9, _, rfl, .inr hf3.sq, T3, a, t, _, rfl, L3.tw, L3.sT, ?_, ?_, fun j T4 H4 j0 j1 f4 w4 => ?_⟩
          · rw [List.length_map]; omega
          · rw [List.length_map]; omega
          rw [List.length_map] at j1
          have L4 := L3.town f4 w4
          have hf4 := fp_tupD f4 hf3
          obtain ⟨j, rfl⟩ := Int.eq_ofNat_of_zero_le j0
          have jl : j < own.length := by omega
          refine ⟨q9, _, _, .str own[j], rfl, rfl, hf4.sq, atI_nat (by rw [List.getElem?_map, List.getElem?_eq_getElem jl]; rfl), (by show 1 ≤ sizeLine; decide), fun g ng => ?_⟩
          have s5 := same_new ng (.tup [V.str own[j]])
          exact go T4 _ g [own[j]] (L4.same s5) (hf4.same s5) (SqT.of upd_same) (by show 1 ≤ 10; decide) fun y hy => by rw [List.mem_singleton.mp hy]; exact ho _ (List.getElem_mem jl)
        · refine ⟨(by show 1 ≤ sizeLine; decide), fun g ng => ?_⟩
          have s5 := same_new ng (.tup [V.str "q"])
          exact go T3 _ g ["q"] (L3.same s5) (hf3.same s5) (SqT.of upd_same) (by decide) fun y hy => by rw [List.mem_singleton.mp hy]; exact ⟨by decide +kernel, by decide +kernel⟩
      · exact go T2 _ q7 [] L2 hf2 (f2.sqT (same_sqT s1 hg)) (by decide) (fun _ z => nomatch z)
    · exact iteF (go T _ q7 [] L1 hf1 (same_sqT s1 hg) (by decide) (fun _ z => nomatch z))
  case l2 =>
    rintro D σ H ⟨a, t, h, p, A, B', T, M, own, loose, x, q7, q9, y3, y4, y5, rfl, L, hf, hol, ho, hg, hll, hlo, hxx, iv, hM, go⟩
    obtain ⟨dh', s', pl', fl', hh⟩ := hal_at L.hal
    refine ⟨_, rfl, _, rfl, T, a, t, _, rfl, L.tw, L.sT, by decide, by decide, fun k T1 H1 k0 k1' f1 w1 => ⟨rfl, _, rfl, ?_⟩⟩
    have L1 := L.town f1 w1
    have hf1 := fp_tupD f1 hf
    have hg1 := f1.sqT hg
    refine ite2 (fun e1 => ?_) (fun e1 => ?_)
    · refine ⟨_, rfl, _, rfl, _, rfl, Nat.zero_le _, fun qe nqe => ?_⟩
      have s2 := same_new nqe (.tup [])
      unfold tNil
      dsimp only []
      refine due_go (c := cs) (e := "thing") (loose := []) (L1.same s2) iv hM (hf1.same s2) (SqT.of upd_same) hxx ⟨by decide +kernel, by decide +kernel⟩ ho hol (fun _ z => nomatch z) (by decide) (fun B2 H2 N z4 L2 hf2 hg2 hear => ?_) _
      refine ⟨L2.tab, fun H3 e3 T3 H4 s4 => ?_⟩
      have hh4 := s4 _ _ ((L2.ext e3 T3).sA _ _ hh)
      refine ⟨_, rfl, h, dh', _, rfl, hh4, by rfl, _, rfl, _, rfl, rfl, rfl, ?_⟩
      show spHM K CH CS CK cs (gV1 [V.ref h, V.str x] [V.ref q9]) _ _ _
      rw [v1]
      exact hear H3 e3 T3 _ (fun A5 H5 M' z5 d L5 iv5 hm d4 d5 sh eq => go A5 B2 T1 H5 M' z4 z5 _ d L5 iv5 hm d4 d5 sh eq) (hwE H3) s4
    · have okN : ∀ k ∈ M, okS k.name := fun k hk => (iv.sm k hk).1
      refine ⟨_, rfl, _, rfl, _, rfl, T1, B', a, t, p, M, rfl, L1.tw, L1.sT, L1.pln, L1.sB, L1.dTB, okN, fun T2 H2 e f2 w2 he => ?_⟩
      have L2 := L1.town f2 w2
      have hf2 := fp_tupD f2 hf1
      have hg2 := f2.sqT hg1
      refine ⟨_, rfl, _, rfl, _, rfl, _, rfl, _, rfl, ?_⟩
      unfold tNil
      dsimp only []
      refine due_go (c := cs) (e := e) (loose := loose) L2 iv hM hf2 hg2 hxx he ho hol hlo hll (fun B3 H3 N z4 L3 hf3 hg3 hear => ?_) _
      refine ⟨L3.tab, fun H4 e4 T4 H5 s5 => ?_⟩
      have hh5 := s5 _ _ ((L3.ext e4 T4).sA _ _ hh)
      refine ⟨_, rfl, h, dh', _, rfl, hh5, by rfl, _, rfl, _, rfl, _, rfl, _, rfl, rfl, rfl, ?_⟩
      show spHM K CH CS CK cs (gV2 [V.ref h, V.str x] [V.ref q7, V.str e, V.ref q9]) _ _ _
      rw [v2]
      exact hear H4 e4 T4 _ (fun A6 H6 M' z5 d L6 iv6 hm d4 d5 sh eq => go A6 B3 T2 H6 M' z4 z5 _ d L6 iv6 hm d4 d5 sh eq) (extN_sqT hg3 e4) s5
  -- the script's part, the hall's, the plain rows'
  refine ⟨rfl, fun t r H1 s1 nt nr ntr ht hr' => ?_⟩
  obtain ⟨T, TW, sT, dT⟩ := town_part hS s1 nt nr ntr ht hr'
  refine fun h dh nh ndh ndx => ⟨h, dh, rfl, upd_same, fun A H2 HL sA kp dom => ⟨rfl, ?_⟩⟩
  have s2 : Same H1 H2 := fun b o e => kp b o (by rw [upd_ne (ne_of_none e nh), upd_ne (ne_of_none e ndh)]; exact e) (ne_of_none e nh)
  have dA : ∀ b, A b ≠ none → H1 b = none := fun b hb => by
    rcases dom b hb with rfl | z
    · exact nh
    · cases e : H1 b with
      | none => rfl
      | some o => rw [upd_ne (ne_of_none e nh), upd_ne (ne_of_none e ndh), e] at z; cases z
  refine ⟨rfl, fun B' H3 p PL sB s3 dB => ?_⟩
  refine ⟨(by show 2 ≤ sizeLine; decide), fun p0 np0 => ⟨p0, _, rfl, SqT.of upd_same, rfl, _, _, rfl, _, _, rfl, rfl, ?_⟩⟩
  have s4 := same_new np0 (.tup [V.ref h, V.ref p])
  have L0 : LL K CH CS CK P0 a t h p A B' T (upd H3 p0 (.tup [V.ref h, V.ref p])) [kd0] [kd0] := by
    refine ⟨HL, sA.trans (s3.trans s4), PL, sB.trans s4, TW, sT.trans (s2.trans (s3.trans s4)), fun b o u e1 e2 => ?_, fun b o u e1 e2 => ?_, fun b o u e1 e2 => ?_, fun p hp => ?_⟩
    · have := dA b (by rw [e2]; exact fun z => nomatch z)
      rw [sT _ _ e1] at this; cases this
    · have := dB b (by rw [e2]; exact fun z => nomatch z)
      rw [s2 _ _ (sT _ _ e1)] at this; cases this
    · have := dB b (by rw [e2]; exact fun z => nomatch z)
      rw [sA _ _ e1] at this; cases this
    · rw [List.mem_singleton.mp hp]; exact LamX.TabS.nil (s4 _ _ (s3 _ _ (s2 _ _ (s1 _ _ hP))))
  generalize upd H3 p0 (.tup [V.ref h, V.ref p]) = H4 at L0
  clear sB s3 dB s4 np0 dA s2 sA kp dom nh ndh sT dT TW HL PL hS hP s1 ht hr' nt nr
  refine ⟨12, rfl, by decide, by decide, for_it walk_range (fun r σ H' => ∃ (A B T : Hp) (M : List Kd) (y3 y4 y5 y7 y8 y9 y10 : Option V), σ = [some (.ref a), some (.ref t), some (.ref p), y3, y4, y5, some (.ref h), y7, y8, y9, y10] ∧ LL K CH CS CK P0 a t h p A B T H' M M ∧ Iv M ∧ M.length ≤ r + 1 ∧ ∀ k ∈ M, k.name ∈ names)
    ⟨A, B', T, [kd0], _, _, _, _, _, _, _, rfl, L0, iv0, Nat.le_refl _, fun k hk => by rw [List.mem_singleton.mp hk]; decide +kernel⟩ (fun _ _ _ _ _ => trivial) ?_ ?_⟩
  · rintro i x σ H5 H5' hi ⟨A, B', T, M, y3, y4, y5, y7, y8, y9, y10, rfl, L, iv, hM, hn⟩ ⟨rfl, rfl⟩
    have hi12 : i < 12 := hi
    refine ⟨(by show 10 ≤ sizeLine; decide), fun l nl => ?_⟩
    have L6 := L.same (same_new nl (.lst (names.map V.str)))
    refine ⟨_, rfl, _, rfl, T, a, t, _, rfl, L6.tw, L6.sT, by decide, by decide, fun j T7 H7 j0 j1 f7 w7 => ?_⟩
    have L7 := L6.town f7 w7
    obtain ⟨j, rfl⟩ := Int.eq_ofNat_of_zero_le j0
    have jl : j < names.length := by show j < 10; omega
    have hl7 : H7 l = some (.lst (names.map V.str)) := f7.frame _ _ upd_same (.inl (L.new nl))
    refine ⟨l, _, _, .str names[j], rfl, rfl, SqL.of hl7, atI_nat (by rw [List.getElem?_map, List.getElem?_eq_getElem jl]; rfl), ?_⟩
    have hjm : names[j] ∈ names := List.getElem_mem jl
    have hjo := names_ok _ hjm
    generalize names[j] = nm at hjm hjo ⊢
    refine ⟨_, rfl, _, rfl, T7, a, t, rfl, L7.tw, L7.sT, fun T8 H8 q9 own f8 w8 t8 l8 o8 => ?_⟩
    have L8 := L7.town f8 w8
    refine ⟨Nat.zero_le _, fun q7 nq7 => ⟨(by show 2 ≤ sizeLine; decide), fun p1 np1 => ⟨p1, _, rfl, SqT.of upd_same, rfl, _, _, rfl, _, _, rfl, rfl, ?_⟩⟩⟩
    have s9 := same_new nq7 (.tup [])
    have s10 := same_new np1 (.tup [V.ref q9, V.ref q7])
    refine ⟨a, t, h, p, A, B', T8, M, own, q7, q9, _, _, _, _, _, rfl, L8.same (s9.trans s10), t8.same (s9.trans s10), l8, o8, SqT.of (s10 _ _ upd_same), fun T10 H10 g loose L10 hf10 hg10 ll10 lo10 => ?_⟩
    refine ⟨a, t, h, p, A, B', T10, M, own, loose, nm, g, q9, _, _, _, rfl, L10, hf10, l8, o8, hg10, ll10, lo10, hjo, iv, by omega, fun A11 B11 T11 H11 M' z4 z5 z10 d L11 iv11 hm d4 d5 sh eq => ?_⟩
    refine ⟨_, rfl, _, rfl, d, d, d5, d4, sh, sh, _, rfl, ?_⟩
    rw [eq]
    refine iteF ⟨_, rfl, _, rfl, A11, B11, h, p, M', rfl, L11.hal, L11.sA, L11.pln, L11.sB, iv11, fun H12 s12 => ⟨_, rfl, iteF ?_⟩⟩
    refine ⟨A11, B11, T11, M', _, _, _, _, _, _, _, rfl, L11.same s12, iv11, ?_, ?_⟩
    · rcases hm with rfl | ⟨_, _, _, rfl⟩
      · omega
      · rw [List.length_append]; show M.length + 1 ≤ _; omega
    · rcases hm with rfl | ⟨_, _, _, rfl⟩
      · exact hn
      · intro k hk
        rcases List.mem_append.mp hk with z | z
        · exact hn k z
        · rw [List.mem_singleton.mp z]; exact hjm
  · rintro σ H5 ⟨A, B', T, M, y3, y4, y5, y7, y8, y9, y10, rfl, L, iv, hM, hn⟩
    obtain ⟨dh', s', pl', fl', hh⟩ := hal_at L.hal
    have okz : SeqAt.shaped (.tuple [.str "no kind", .str "zz"]) = true := by decide +kernel
    have eqz : PyData.eqv (.tuple [.str "no kind", .str "zz"]) (.tuple [.str "no kind", .str "zz"]) = true := by decide +kernel
    have dpz : ∀ {H' : Hp} {q : Addr}, H' q = some (.tup [.str "no kind", .str "zz"]) → Dp K H' (.ref q) (.tuple [.str "no kind", .str "zz"]) := fun {H' q} e => .tup (SqT.of e) (.cons (.str _) (.cons (.str _) .nil))
    refine ⟨L.tab, fun H6 e6 T6 H7 s7 => ?_⟩
    have L6 := L.ext e6 T6
    refine ⟨_, rfl, h, dh', _, rfl, s7 _ _ (L6.sA _ _ hh), by rfl, ?_⟩
    unfold tNil
    dsimp only []
    refine zz_go L6 iv hn (fun q8 H8 L8 h8 => ?_) s7
    refine ⟨(by show 2 ≤ sizeLine; decide), fun q9 n9 => ?_⟩
    have s9 := same_new n9 (.tup [V.str "no kind", V.str "zz"])
    refine ⟨_, _, dpz (s9 _ _ h8), dpz upd_same, okz, okz, _, rfl, ?_⟩
    rw [eqz]
    refine iteF ?_
    have L9 := L8.same s9
    refine ⟨L9.tab, fun H10 e10 T10 H11 s11 => ?_⟩
    have L10 := L9.ext e10 T10
    refine ⟨_, rfl, h, dh', _, rfl, s11 _ _ (L10.sA _ _ hh), by rfl, ?_⟩
    refine zz_go L10 iv hn (fun q12 H12 L12 h12 => ?_) s11
    refine ⟨(by show 2 ≤ sizeLine; decide), fun q13 n13 => ?_⟩
    have s13 := same_new n13 (.tup [V.str "no kind", V.str "zz"])
    refine ⟨_, _, dpz (s13 _ _ h12), dpz upd_same, okz, okz, ?_⟩
    rw [eqz]
    refine ⟨_, rfl, iteF ?_⟩
    have L13 := L12.same s13
    refine ⟨L13.tab, fun H14 e14 T14 H15 s15 => ?_⟩
    have L14 := L13.ext e14 T14
    refine ⟨_, rfl, h, dh', _, rfl, s15 _ _ (L14.sA _ _ hh), by rfl, ?_⟩
    refine zz_go L14 iv hn (fun q16 H16 L16 h16 => ?_) s15
    refine ⟨(by show 2 ≤ sizeLine; decide), fun q17 n17 => ?_⟩
    have s17 := same_new n17 (.tup [V.str "no kind", V.str "zz"])
    refine ⟨_, _, dpz (s17 _ _ h16), dpz upd_same, okz, okz, ?_⟩
    rw [eqz]
    refine ⟨_, rfl, iteF ?_⟩
    have L17 := L16.same s17
    refine ⟨L17.tab, fun H18 e18 T18 H19 s19 => ?_⟩
    have L18 := L17.ext e18 T18
    refine ⟨_, rfl, h, dh', _, rfl, s19 _ _ (L18.sA _ _ hh), by rfl, ?_⟩
    refine zz_go L18 iv hn (fun q20 H20 L20 h20 => ?_) s19
    refine ⟨(by show 2 ≤ sizeLine; decide), fun q21 n21 => ?_⟩
    have s21 := same_new n21 (.tup [V.str "no kind", V.str "zz"])
    refine ⟨_, _, dpz (s21 _ _ h20), dpz upd_same, okz, okz, ?_⟩
    rw [eqz]
    exact q _
end
end B1

set_option maxRecDepth 100000
set_option maxHeartbeats 4000000
namespace B1
open PySem PySem.Spec PyProof.Rows L2
theorem fun_ofD {K : PySem.W.Frag} {x qual : Str} {st : Stmt} {kws : List (Str × V)} {f : Addr} {fd : FuncData} (F : FunD K x qual (defArgs st) (defBody st) (defScope st) [] kws f fd) : Fun K x qual st f fd := by
  obtain ⟨oc, od, dV, kV, doc, pm, an, cdv, ct, osl, e, lk, hcd, hD, hK⟩ := F.ex
  rcases hD with ⟨_, rfl⟩ | ⟨e, _⟩
  · exact ⟨⟨oc, od, kV, doc, pm, an, cdv, ct, osl, e, lk, hcd⟩, F.kp⟩
  · exact absurd rfl e
theorem oexB_ok {K : PySem.W.Frag} {C : Addr} (h : oexB K C = true) : ∃ nm q N bs bm sn sub ab col dd k0 k1 k2 k3 k5, K.lookup C = some (excClassObj nm q C N bs bm true sn sub ab col dd k0 k1 k2 k3 k5 "ValueError.__new__") ∧ PySem.HandSPX.refsVE bm = true := by
  unfold oexB at h
  split at h
  · rename_i t dd cd sl lk
    split at h
    · rename_i C' bm k0 k1 k2 k3 n k5 e1 e2
      simp only [Bool.and_eq_true, decide_eq_true_eq, Bool.not_eq_true'] at h
      obtain ⟨rfl, rfl, rfl, h4, h5, h6⟩ := h
      obtain ⟨nm, bs, mro, ns, q, hd, sn, sub, ab, col, del⟩ := cd
      simp only at e1 h4 h5
      subst e1 h4 h5
      obtain ⟨sl⟩ := sl
      simp only at e2
      subst e2
      exact ⟨nm, q, ns, bs, bm, sn, sub, ab, col, dd, k0, k1, k2, k3, k5, lk, h6⟩
    · cases h
  · cases h
theorem supB_ok {K : PySem.W.Frag} {C : Addr} {d : SupD} (e : fnS K d.at_ = d.val) (h : supB K C (He.fAd K d.at_) d.qual = true) :
    ∃ (oc : Value) (od : Option Addr) (kV doc pm : Value) (an : Option Addr) (cc c : Addr) (ct : Value) (osl : Array (Option Value)) (ccl : Value) (cdd : Option Addr) (vc : Array Value) (ccs : Array (Option Value)) (tf : Tok) (cl : Value) (cld : Option Addr) (csl : Array (Option Value)),
      K.lookup (He.fAd K d.at_) = some ⟨oc, od, .func (PySem.W.fnX d.name d.qual d.params d.body d.scope [("__class__", cc)] .none kV doc pm an (.ref c) ct), osl⟩ ∧ PySem.W.codeIn K (.ref c) d.qual = true ∧ K.lookup c = some ⟨ccl, cdd, .fields vc, ccs⟩ ∧ vc[2]? = some (.str PySem.Challenge.pw_livehall_k05_kinds_made.main.file tf) ∧ K.lookup cc = some ⟨cl, cld, .cell (some (.ref C)), csl⟩ := by
  unfold supB at h
  unfold fnS SupD.val at e
  split at h
  · rename_i oc od fd osl lk
    rw [lk] at e
    obtain ⟨name, qual, params, body, scope, globals, closure, defaults, kwd, doc, pm, an, code, ct, blt⟩ := fd
    simp only [Option.some.injEq, Prod.mk.injEq] at e
    obtain ⟨rfl, rfl, rfl, rfl, rfl, rfl, rfl, rfl⟩ := e
    split at h
    · rename_i n cc c e1 e2
      simp only at e1 e2
      subst e1 e2
      simp only [Bool.and_eq_true, decide_eq_true_eq] at h
      obtain ⟨rfl, h2, h3, h4⟩ := h
      split at h3
      · rename_i ccl cdd vc ccs lc
        split at h3
        · rename_i file tf hv
          have := of_decide_eq_true h3
          subst this
          split at h4
          · rename_i cl cld D csl lcc
            have := of_decide_eq_true h4
            subst this
            exact ⟨oc, od, _, _, _, _, cc, c, _, osl, ccl, cdd, vc, ccs, tf, cl, cld, csl, lk, h2, lc, hv, lcc⟩
          · cases h4
        · cases h3
      · cases h3
    · cases h
  · cases h
/-- all that errB says -/
structure ErrF (K : PySem.W.Frag) (x f : Str) : Prop where
  T : OexC K (He.ga K x)
  ini : PySem.W.findIn K (.ref (He.ga K x)) "__init__" = some (some (.ref (He.ma K (He.ga K x) "__init__")))
  ty : PySem.W.typeIn K (.ref (He.ma K (He.ga K x) "__init__")) = some (.type "function")
  sup : supB K (He.ga K x) (He.ma K (He.ga K x) "__init__") (x ++ ".__init__") = true
  hsup : PySem.W.ks_superIn K (He.ga K x) (He.ga K x) "__init__" = some (some (.builtin "ValueError.__init__"))
  hsub : PySem.W.subIn K (.ref (He.ga K x)) (.type "ValueError") = some true
  hmro : PySem.W.mroIn K (He.ga K x) (.ref (He.ga K x)) = some true
  hno : PySem.W.findIn K (.ref (He.ga K x)) f = some none
  exm : PySem.W.exmOne K (.ref (He.ga K x)) (.ref (He.ga K "HallError")) = some true
  ve : PySem.W.kitOne K (.ref (He.ga K x)) (.type "ValueError") = some true
  kit : ∀ y ∈ errN ++ errM, PySem.W.kitOne K (.ref (He.ga K x)) (.ref (He.ga K y)) = some (decide (x = y))
  ex : ExcC K (He.ga K x)
  xf : XfC K (He.ga K x)
theorem errB_ok {K : PySem.W.Frag} {x f : Str} (h : errB K x f = true) : ErrF K x f := by
  unfold errB at h
  simp only [Bool.and_eq_true] at h
  obtain ⟨h1, h2, h3, h4, h5, h6, h7, h8, h9, h10, h11, h12, h13, h14, h15, h16, h17, h18, h19, h20, h21, h22⟩ := h
  exact ⟨⟨oexB_ok h1, of_decide_eq_true h2, of_decide_eq_true h3, of_decide_eq_true h4, h5⟩, of_decide_eq_true h6, of_decide_eq_true h7, h8, of_decide_eq_true h9, of_decide_eq_true h10, of_decide_eq_true h11, of_decide_eq_true h12, of_decide_eq_true h13, of_decide_eq_true h14,
    fun y hy => of_decide_eq_true (List.all_eq_true.mp h15 y hy), ⟨of_decide_eq_true h16, of_decide_eq_true h17, of_decide_eq_true h3, h18, of_decide_eq_true h19, of_decide_eq_true h20, of_decide_eq_true h21, of_decide_eq_true h22⟩, ⟨of_decide_eq_true h16, of_decide_eq_true h17, of_decide_eq_true h3, h18⟩⟩
end B1

set_option maxRecDepth 100000
set_option maxHeartbeats 4000000
namespace B1
open PySem PySem.Spec PyProof.Rows L2
abbrev PW5 : Program := PySem.Challenge.pw_livehall_k05_kinds_made
theorem htop5 : (PW5.main.scope.names.lookup ("super" : Str)).isSome = false := by decide +kernel
section
variable {w : World} {K : PySem.W.Frag} {mg : Str → Option Value} {base : Heap}
theorem bnd2 {nm qual : Str} {params : Arguments} {body : List Stmt} {scope : Scope} {cl : List (Str × Addr)} {kV doc pm cdv ct : Value} {an : Option Addr} {ps : List Str} (h : ∀ us : List Value, us.length = ps.length → bindArgs (PySem.W.fnX nm qual params body scope cl .none kV doc pm an cdv ct) ⟨us, []⟩ = pure (ps.zip us)) : Binds K (PySem.W.fnX nm qual params body scope cl .none kV doc pm an cdv ct) ps [] := .all h
theorem xe_BadName (E : ErrF K "BadName" "name") (e : fnS K ("BadName", some "__init__") = SupD.val ⟨("BadName", some "__init__"), "__init__", "BadName.__init__", defArgs (cm 26 0), defBody (cm 26 0), defScope (cm 26 0)⟩) (ga : mg "BadName" = some (.ref (He.ga K "BadName"))) (hsuper : mg "super" = none) (hth : PySem.W.nsIn K cStatics "thirdparty.any" = some none) : XErr PW5 w K mg base "BadName" "name" (He.ga K "BadName") := by
  obtain ⟨oc, od, kV, doc, pm, an, cc, c, ct, osl, ccl, cdd, vc, ccs, tf, cl, cld, csl, lk, hcd, lc, hvs, lcc⟩ := supB_ok (C := He.ga K "BadName") (d := ⟨("BadName", some "__init__"), "__init__", "BadName.__init__", defArgs (cm 26 0), defBody (cm 26 0), defScope (cm 26 0)⟩) e E.sup
  refine ⟨E.T, ga, _, _, E.ini, E.ty, ok_sup (txt := _) (ar := _) E.T lk hcd lc hvs (beq_self_eq_true _) lcc hsuper htop5 hth E.hsup E.hsub E.hmro E.hno ⟨rfl, rfl, rfl, by decide +kernel, rfl, by decide +kernel, by decide +kernel, by decide +kernel, by decide +kernel⟩ rfl rfl rfl (by decide) (by decide) (fun _ => rfl) (fun _ => rfl) (fun _ => rfl), bnd2 (nm := "__init__") fun us hl => ?_⟩
  match us, hl with
  | [_, _], _ => rfl
theorem xe_Known (E : ErrF K "Known" "name") (e : fnS K ("Known", some "__init__") = SupD.val ⟨("Known", some "__init__"), "__init__", "Known.__init__", defArgs (cm 27 0), defBody (cm 27 0), defScope (cm 27 0)⟩) (ga : mg "Known" = some (.ref (He.ga K "Known"))) (hsuper : mg "super" = none) (hth : PySem.W.nsIn K cStatics "thirdparty.any" = some none) : XErr PW5 w K mg base "Known" "name" (He.ga K "Known") := by
  obtain ⟨oc, od, kV, doc, pm, an, cc, c, ct, osl, ccl, cdd, vc, ccs, tf, cl, cld, csl, lk, hcd, lc, hvs, lcc⟩ := supB_ok (C := He.ga K "Known") (d := ⟨("Known", some "__init__"), "__init__", "Known.__init__", defArgs (cm 27 0), defBody (cm 27 0), defScope (cm 27 0)⟩) e E.sup
  refine ⟨E.T, ga, _, _, E.ini, E.ty, ok_sup (txt := _) (ar := _) E.T lk hcd lc hvs (beq_self_eq_true _) lcc hsuper htop5 hth E.hsup E.hsub E.hmro E.hno ⟨rfl, rfl, rfl, by decide +kernel, rfl, by decide +kernel, by decide +kernel, by decide +kernel, by decide +kernel⟩ rfl rfl rfl (by decide) (by decide) (fun _ => rfl) (fun _ => rfl) (fun _ => rfl), bnd2 (nm := "__init__") fun us hl => ?_⟩
  match us, hl with
  | [_, _], _ => rfl
theorem xe_NoKind (E : ErrF K "NoKind" "name") (e : fnS K ("NoKind", some "__init__") = SupD.val ⟨("NoKind", some "__init__"), "__init__", "NoKind.__init__", defArgs (cm 28 0), defBody (cm 28 0), defScope (cm 28 0)⟩) (ga : mg "NoKind" = some (.ref (He.ga K "NoKind"))) (hsuper : mg "super" = none) (hth : PySem.W.nsIn K cStatics "thirdparty.any" = some none) : XErr PW5 w K mg base "NoKind" "name" (He.ga K "NoKind") := by
  obtain ⟨oc, od, kV, doc, pm, an, cc, c, ct, osl, ccl, cdd, vc, ccs, tf, cl, cld, csl, lk, hcd, lc, hvs, lcc⟩ := supB_ok (C := He.ga K "NoKind") (d := ⟨("NoKind", some "__init__"), "__init__", "NoKind.__init__", defArgs (cm 28 0), defBody (cm 28 0), defScope (cm 28 0)⟩) e E.sup
  refine ⟨E.T, ga, _, _, E.ini, E.ty, ok_sup (txt := _) (ar := _) E.T lk hcd lc hvs (beq_self_eq_true _) lcc hsuper htop5 hth E.hsup E.hsub E.hmro E.hno ⟨rfl, rfl, rfl, by decide +kernel, rfl, by decide +kernel, by decide +kernel, by decide +kernel, by decide +kernel⟩ rfl rfl rfl (by decide) (by decide) (fun _ => rfl) (fun _ => rfl) (fun _ => rfl), bnd2 (nm := "__init__") fun us hl => ?_⟩
  match us, hl with
  | [_, _], _ => rfl
theorem xe_BadField (E : ErrF K "BadField" "field") (e : fnS K ("BadField", some "__init__") = SupD.val ⟨("BadField", some "__init__"), "__init__", "BadField.__init__", defArgs (cm 30 0), defBody (cm 30 0), defScope (cm 30 0)⟩) (ga : mg "BadField" = some (.ref (He.ga K "BadField"))) (hsuper : mg "super" = none) (hth : PySem.W.nsIn K cStatics "thirdparty.any" = some none) : XErr PW5 w K mg base "BadField" "field" (He.ga K "BadField") := by
  obtain ⟨oc, od, kV, doc, pm, an, cc, c, ct, osl, ccl, cdd, vc, ccs, tf, cl, cld, csl, lk, hcd, lc, hvs, lcc⟩ := supB_ok (C := He.ga K "BadField") (d := ⟨("BadField", some "__init__"), "__init__", "BadField.__init__", defArgs (cm 30 0), defBody (cm 30 0), defScope (cm 30 0)⟩) e E.sup
  refine ⟨E.T, ga, _, _, E.ini, E.ty, ok_sup (txt := _) (ar := _) E.T lk hcd lc hvs (beq_self_eq_true _) lcc hsuper htop5 hth E.hsup E.hsub E.hmro E.hno ⟨rfl, rfl, rfl, by decide +kernel, rfl, by decide +kernel, by decide +kernel, by decide +kernel, by decide +kernel⟩ rfl rfl rfl (by decide) (by decide) (fun _ => rfl) (fun _ => rfl) (fun _ => rfl), bnd2 (nm := "__init__") fun us hl => ?_⟩
  match us, hl with
  | [_, _], _ => rfl
end
end B1

set_option maxRecDepth 100000
set_option maxHeartbeats 4000000
namespace B1
open PySem PySem.Spec PyProof.Rows L2
theorem mt0_ok {K : PySem.W.Frag} {a : Addr} (h : mt0 K a = true) (H : Hp) : SqT K H a [] := by
  unfold mt0 at h
  split at h
  · rename_i c dd its n sl lk
    simp only [Bool.and_eq_true, decide_eq_true_eq] at h
    obtain ⟨rfl, h2⟩ := h
    have : its = #[] := by simpa using h2
    subst this
    exact .inr ⟨_, _, _, lk, rfl, rfl, Nat.zero_le _, .nil⟩
  · cases h
/-- the parameters of make_kind in their order -/
def gA : {α : Type} → List α → List α → List α → List α := fun us mv ws => match us, mv, ws with
  | [a, b], [e, w], [f] => [a, b, e, f, w]
  | _, _, _ => []
def gB : {α : Type} → List α → List α → List α → List α := fun us mv ws => match us, mv, ws with
  | [a, b], [], [w, e, f] => [a, b, e, f, w]
  | _, _, _ => []
theorem gA_rel {vs mz zs : List V} {us mv ws : List Value} (h1 : Vals vs us) (h2 : Vals mz mv) (h3 : Vals zs ws) : Vals (gA vs mz zs) (gA us mv ws) := by
  match vs, us, h1, mz, mv, h2, zs, ws, h3 with
  | [_, _], _, .cons a (.cons b .nil), [_, _], _, .cons c (.cons d .nil), [_], _, .cons e .nil => exact .cons a (.cons b (.cons c (.cons e (.cons d .nil))))
  | [], _, .nil, _, _, _, _, _, _ => exact .nil
  | [_], _, .cons _ .nil, _, _, _, _, _, _ => exact .nil
  | _ :: _ :: _ :: _, _, .cons _ (.cons _ (.cons _ _)), _, _, _, _, _, _ => exact .nil
  | [_, _], _, .cons _ (.cons _ .nil), [], _, .nil, _, _, _ => exact .nil
  | [_, _], _, .cons _ (.cons _ .nil), [_], _, .cons _ .nil, _, _, _ => exact .nil
  | [_, _], _, .cons _ (.cons _ .nil), _ :: _ :: _ :: _, _, .cons _ (.cons _ (.cons _ _)), _, _, _ => exact .nil
  | [_, _], _, .cons _ (.cons _ .nil), [_, _], _, .cons _ (.cons _ .nil), [], _, .nil => exact .nil
  | [_, _], _, .cons _ (.cons _ .nil), [_, _], _, .cons _ (.cons _ .nil), _ :: _ :: _, _, .cons _ (.cons _ _) => exact .nil
theorem gB_rel {vs mz zs : List V} {us mv ws : List Value} (h1 : Vals vs us) (h2 : Vals mz mv) (h3 : Vals zs ws) : Vals (gB vs mz zs) (gB us mv ws) := by
  match vs, us, h1, mz, mv, h2, zs, ws, h3 with
  | [_, _], _, .cons a (.cons b .nil), [], _, .nil, [_, _, _], _, .cons c (.cons d (.cons e .nil)) => exact .cons a (.cons b (.cons d (.cons e (.cons c .nil))))
  | [], _, .nil, _, _, _, _, _, _ => exact .nil
  | [_], _, .cons _ .nil, _, _, _, _, _, _ => exact .nil
  | _ :: _ :: _ :: _, _, .cons _ (.cons _ (.cons _ _)), _, _, _, _, _, _ => exact .nil
  | [_, _], _, .cons _ (.cons _ .nil), _ :: _, _, .cons _ _, _, _, _ => exact .nil
  | [_, _], _, .cons _ (.cons _ .nil), [], _, .nil, [], _, .nil => exact .nil
  | [_, _], _, .cons _ (.cons _ .nil), [], _, .nil, [_], _, .cons _ .nil => exact .nil
  | [_, _], _, .cons _ (.cons _ .nil), [], _, .nil, [_, _], _, .cons _ (.cons _ .nil) => exact .nil
  | [_, _], _, .cons _ (.cons _ .nil), [], _, .nil, _ :: _ :: _ :: _ :: _, _, .cons _ (.cons _ (.cons _ (.cons _ _))) => exact .nil
section
variable {K : PySem.W.Frag} {kws : List (Str × V)} {f : Addr} {fd : FuncData}
theorem kbA {a b : Addr} (F : FunD K "make_kind" "Hall.make_kind" (defArgs sHM) (defBody sHM) (defScope sHM) [] [("elder", .str "thing"), ("fields", .ref a), ("weak", .ref b)] f fd) : ∃ mv : List Value, KBn K fd psHM 2 ["fields"] (fun us ws => gA us mv ws) (fun vs zs => gA vs [.str "thing", .ref b] zs) :=
  kb0 F 2 ["fields"] [("elder", .str "thing"), ("weak", .ref b)] gA (by simp) (fun q hq => by
    simp only [List.mem_cons, List.not_mem_nil, or_false] at hq ⊢
    rcases hq with rfl | rfl
    · exact .inl rfl
    · exact .inr (.inr rfl)) gA_rel fun D doc pm an cdv ct us mv ws l1 l2 l3 => by
    match us, l1, mv, l2, ws, l3 with
    | [_, _], _, [_, _], _, [_], _ => exact ⟨_, _, _, _, _, _, rfl, rfl, _, _, _, _, _, _, rfl, rfl, rfl⟩
theorem kbB {a b : Addr} (F : FunD K "make_kind" "Hall.make_kind" (defArgs sHM) (defBody sHM) (defScope sHM) [] [("elder", .str "thing"), ("fields", .ref a), ("weak", .ref b)] f fd) : ∃ mv : List Value, KBn K fd psHM 2 ["weak", "elder", "fields"] (fun us ws => gB us mv ws) (fun vs zs => gB vs [] zs) :=
  kb0 F 2 ["weak", "elder", "fields"] [] gB (by simp) (fun q hq => nomatch hq) gB_rel fun D doc pm an cdv ct us mv ws l1 l2 l3 => by
    match us, l1, mv, l2, ws, l3 with
    | [_, _], _, [], _, [_, _, _], _ => rfl
end
end B1

set_option maxRecDepth 100000
set_option maxHeartbeats 4000000
namespace B1
open PySem PySem.Spec PyProof.Rows L2
def csOf (K : PySem.W.Frag) : Cs := ⟨He.ga K "BadName", He.ga K "Known", He.ga K "NoKind", He.ga K "BadField"⟩
def adOf (K : PySem.W.Frag) (j : Nat) : Addr := He.ga K (cls20.getD j "BadName")
def xOf : Nat → Str
  | 0 => "BadName"
  | 1 => "Known"
  | 2 => "NoKind"
  | _ => "BadField"
theorem cs_at (K : PySem.W.Frag) (n : Nat) : (csOf K).at n = He.ga K (xOf n) := by
  match n with
  | 0 => rfl
  | 1 => rfl
  | 2 => rfl
  | _ + 3 => rfl
theorem bit_of : ∀ n j : Nat, j < 20 → decide (xOf n = cls20.getD j "BadName") = bit n j := by
  have k : ∀ n : Nat, n < 4 → ∀ j : Nat, j < 20 → decide (xOf n = cls20.getD j "BadName") = bit n j := by decide +kernel
  intro n j hj
  match n with
  | 0 => exact k 0 (by decide) j hj
  | 1 => exact k 1 (by decide) j hj
  | 2 => exact k 2 (by decide) j hj
  | m + 3 => exact k 3 (by decide) j hj
theorem cls20_in : ∀ j : Nat, j < 20 → cls20.getD j "BadName" ∈ errN ++ errM := by decide +kernel
theorem cls20_get {j : Nat} {x : Str} (h : cls20[j]? = some x) : cls20.getD j "BadName" = x := by
  rw [List.getD_eq_getElem?_getD, h]; rfl
theorem law_at {l : PySem.W.OpenLaw} (hl : l.prog = PW5) {w : World} {K : PySem.W.Frag} {h : Heap} {mg : Str → Option Value} {fa' : Addr} (X : K.In h) (G : h.Ns mainGlobals mg) (hfa : mg "law" = some (.ref fa')) (S : SaysY fa fn ts tf exX sn w h K) : LamX.LawAtS l w K CX0 11 63 "_law_script" mg fa' h := by
  have D := S.x.t.d
  have hx := S.x.more
  unfold exX at hx
  simp only [Bool.and_eq_true, decide_eq_true_eq] at hx
  obtain ⟨xB, xW, xN, xF, hV, hmf, hmw, hth⟩ := hx
  have EB := errB_ok xB
  have EW := errB_ok xW
  have EN := errB_ok xN
  have EF' := errB_ok xF
  obtain ⟨dBtw, DBtw⟩ := D.def_ 0
  have FBtw : Fun K "all_between" "all_between" sBtw _ dBtw := fun_ofD DBtw
  have bBtw := FBtw.binds (ps := ["text", "low", "high"]) fun _ _ _ _ _ _ us hl => match us, hl with | [_, _, _], _ => rfl
  have mBtw : mg "all_between" = some (.ref (He.ga K "all_between")) := He.glo_ok X G (D.fact 0)
  obtain ⟨dName, DName⟩ := D.def_ 1
  have FName : Fun K "is_name" "is_name" sName _ dName := fun_ofD DName
  have bName := FName.binds (ps := ["thing"]) fun _ _ _ _ _ _ us hl => match us, hl with | [_], _ => rfl
  have mName : mg "is_name" = some (.ref (He.ga K "is_name")) := He.glo_ok X G (D.fact 1)
  obtain ⟨dKN, DKN⟩ := D.def_ 2
  have FKN : Fun K "kind_number" "kind_number" sKN _ dKN := fun_ofD DKN
  have bKN := FKN.binds (ps := ["store", "name"]) fun _ _ _ _ _ _ us hl => match us, hl with | [_, _], _ => rfl
  have mKN : mg "kind_number" = some (.ref (He.ga K "kind_number")) := He.glo_ok X G (D.fact 2)
  obtain ⟨dKNs, DKNs⟩ := D.def_ 3
  have FKNs : Fun K "kind_names" "kind_names" sKNs _ dKNs := fun_ofD DKNs
  have bKNs := FKNs.binds (ps := ["store", "numbers"]) fun _ _ _ _ _ _ us hl => match us, hl with | [_, _], _ => rfl
  have mKNs : mg "kind_names" = some (.ref (He.ga K "kind_names")) := He.glo_ok X G (D.fact 3)
  obtain ⟨dLN, DLN⟩ := D.def_ 4
  have FLN : Fun K "line_numbers" "line_numbers" sLN _ dLN := fun_ofD DLN
  have bLN := FLN.binds (ps := ["store", "number"]) fun _ _ _ _ _ _ us hl => match us, hl with | [_, _], _ => rfl
  have mLN : mg "line_numbers" = some (.ref (He.ga K "line_numbers")) := He.glo_ok X G (D.fact 4)
  obtain ⟨dHB, DHB⟩ := D.def_ 5
  have FHB : Fun K "heirs_by_elder" "heirs_by_elder" sHB _ dHB := fun_ofD DHB
  have bHB := FHB.binds (ps := ["store"]) fun _ _ _ _ _ _ us hl => match us, hl with | [_], _ => rfl
  have mHB : mg "heirs_by_elder" = some (.ref (He.ga K "heirs_by_elder")) := He.glo_ok X G (D.fact 5)
  obtain ⟨dHN, DHN⟩ := D.def_ 6
  have FHN : Fun K "heir_numbers" "heir_numbers" sHN _ dHN := fun_ofD DHN
  have bHN := FHN.binds (ps := ["store", "number"]) fun _ _ _ _ _ _ us hl => match us, hl with | [_, _], _ => rfl
  have mHN : mg "heir_numbers" = some (.ref (He.ga K "heir_numbers")) := He.glo_ok X G (D.fact 6)
  obtain ⟨dLF, DLF⟩ := D.def_ 7
  have FLF : Fun K "line_fields" "line_fields" sLF _ dLF := fun_ofD DLF
  have bLF := FLF.binds (ps := ["store", "number"]) fun _ _ _ _ _ _ us hl => match us, hl with | [_, _], _ => rfl
  have mLF : mg "line_fields" = some (.ref (He.ga K "line_fields")) := He.glo_ok X G (D.fact 7)
  obtain ⟨dLW, DLW⟩ := D.def_ 8
  have FLW : Fun K "line_weak" "line_weak" sLW _ dLW := fun_ofD DLW
  have bLW := FLW.binds (ps := ["store", "number"]) fun _ _ _ _ _ _ us hl => match us, hl with | [_, _], _ => rfl
  have mLW : mg "line_weak" = some (.ref (He.ga K "line_weak")) := He.glo_ok X G (D.fact 8)
  obtain ⟨dLR, DLR⟩ := D.def_ 9
  have FLR : Fun K "lay_row" "lay_row" sLR _ dLR := fun_ofD DLR
  have bLR := FLR.binds (ps := ["rows", "key", "row"]) fun _ _ _ _ _ _ us hl => match us, hl with | [_, _, _], _ => rfl
  have mLR : mg "lay_row" = some (.ref (He.ga K "lay_row")) := He.glo_ok X G (D.fact 9)
  obtain ⟨dCN, DCN⟩ := D.def_ 10
  have FCN : Fun K "check_new_name" "check_new_name" sCN _ dCN := fun_ofD DCN
  have bCN := FCN.binds (ps := ["store", "name"]) fun _ _ _ _ _ _ us hl => match us, hl with | [_, _], _ => rfl
  have mCN : mg "check_new_name" = some (.ref (He.ga K "check_new_name")) := He.glo_ok X G (D.fact 10)
  obtain ⟨dCO, DCO⟩ := D.def_ 11
  have FCO : Fun K "check_own_fields" "check_own_fields" sCO _ dCO := fun_ofD DCO
  have bCO := FCO.binds (ps := ["fields", "weak", "others"]) fun _ _ _ _ _ _ us hl => match us, hl with | [_, _, _], _ => rfl
  have mCO : mg "check_own_fields" = some (.ref (He.ga K "check_own_fields")) := He.glo_ok X G (D.fact 11)
  obtain ⟨dMK, DMK⟩ := D.def_ 12
  have FMK : Fun K "make_kind" "make_kind" sMK _ dMK := fun_ofD DMK
  have bMK := FMK.binds (ps := ["store", "name", "elder", "fields", "weak"]) fun _ _ _ _ _ _ us hl => match us, hl with | [_, _, _, _, _], _ => rfl
  have mMK : mg "make_kind" = some (.ref (He.ga K "make_kind")) := He.glo_ok X G (D.fact 12)
  obtain ⟨dPf, DPf⟩ := D.def_ 13
  have FPf : Fun K "perform" "perform" sPf _ dPf := fun_ofD DPf
  have bPf := FPf.binds (ps := ["store", "word", "values"]) fun _ _ _ _ _ _ us hl => match us, hl with | [_, _, _], _ => rfl
  have mPf : mg "perform" = some (.ref (He.ga K "perform")) := He.glo_ok X G (D.fact 13)
  obtain ⟨dDraw, DDraw⟩ := D.def_ 14
  have FDraw : Fun K "_law_draw" "_law_draw" sDraw _ dDraw := fun_ofD DDraw
  have bDraw := FDraw.binds (ps := ["_law_script", "_law_town", "_law_many"]) fun _ _ _ _ _ _ us hl => match us, hl with | [_, _, _], _ => rfl
  have mDraw : mg "_law_draw" = some (.ref (He.ga K "_law_draw")) := He.glo_ok X G (D.fact 14)
  obtain ⟨dBegun, DBegun⟩ := D.def_ 15
  have FBegun : Fun K "_law_begun" "_law_begun" sBegun _ dBegun := fun_ofD DBegun
  have bBegun := FBegun.binds (ps := []) fun _ _ _ _ _ _ us hl => match us, hl with | [], _ => rfl
  have mBegun : mg "_law_begun" = some (.ref (He.ga K "_law_begun")) := He.glo_ok X G (D.fact 15)
  obtain ⟨dCl, DCl⟩ := D.def_ 16
  have FCl : Fun K "_law_class" "_law_class" sCl _ dCl := fun_ofD DCl
  have bCl := FCl.binds (ps := ["_law_kept"]) fun _ _ _ _ _ _ us hl => match us, hl with | [_], _ => rfl
  have mCl : mg "_law_class" = some (.ref (He.ga K "_law_class")) := He.glo_ok X G (D.fact 16)
  obtain ⟨dHe, DHe⟩ := D.def_ 17
  have FHe : Fun K "_law_heard" "_law_heard" sHe _ dHe := fun_ofD DHe
  have bHe := FHe.binds (ps := ["_law_deed"]) fun _ _ _ _ _ _ us hl => match us, hl with | [_], _ => rfl
  have mHe : mg "_law_heard" = some (.ref (He.ga K "_law_heard")) := He.glo_ok X G (D.fact 17)
  obtain ⟨dNamed, DNamed⟩ := D.def_ 18
  have FNamed : Fun K "_law_named" "_law_named" sNamed _ dNamed := fun_ofD DNamed
  have bNamed := FNamed.binds (ps := ["_law_part"]) fun _ _ _ _ _ _ us hl => match us, hl with | [_], _ => rfl
  have mNamed : mg "_law_named" = some (.ref (He.ga K "_law_named")) := He.glo_ok X G (D.fact 18)
  obtain ⟨dNw, DNw⟩ := D.def_ 19
  have FNw : Fun K "_law_new" "_law_new" sNw _ dNw := fun_ofD DNw
  have bNw := FNw.binds (ps := []) fun _ _ _ _ _ _ us hl => match us, hl with | [], _ => rfl
  have mNw : mg "_law_new" = some (.ref (He.ga K "_law_new")) := He.glo_ok X G (D.fact 19)
  obtain ⟨dUp, DUp⟩ := D.def_ 20
  have FUp : Fun K "_law_up" "_law_up" sUp _ dUp := fun_ofD DUp
  have bUp := FUp.binds (ps := ["_law_plain", "_law_kind"]) fun _ _ _ _ _ _ us hl => match us, hl with | [_, _], _ => rfl
  have mUp : mg "_law_up" = some (.ref (He.ga K "_law_up")) := He.glo_ok X G (D.fact 20)
  obtain ⟨dAF, DAF⟩ := D.def_ 21
  have FAF : Fun K "_law_all_fields" "_law_all_fields" sAF _ dAF := fun_ofD DAF
  have bAF := FAF.binds (ps := ["_law_plain", "_law_kind"]) fun _ _ _ _ _ _ us hl => match us, hl with | [_, _], _ => rfl
  have mAF : mg "_law_all_fields" = some (.ref (He.ga K "_law_all_fields")) := He.glo_ok X G (D.fact 21)
  obtain ⟨dNK, DNK⟩ := D.def_ 22
  have FNK : Fun K "_law_new_kind" "_law_new_kind" sNK _ dNK := fun_ofD DNK
  have bNK := FNK.binds (ps := ["_law_plain", "_law_name", "_law_up_here", "_law_own", "_law_loose"]) fun _ _ _ _ _ _ us hl => match us, hl with | [_, _, _, _, _], _ => rfl
  have mNK : mg "_law_new_kind" = some (.ref (He.ga K "_law_new_kind")) := He.glo_ok X G (D.fact 22)
  obtain ⟨dKR, DKR⟩ := D.def_ 23
  have FKR : Fun K "_law_kinds_right" "_law_kinds_right" sKR _ dKR := fun_ofD DKR
  have bKR := FKR.binds (ps := ["_law_hall", "_law_plain"]) fun _ _ _ _ _ _ us hl => match us, hl with | [_, _], _ => rfl
  have mKR : mg "_law_kinds_right" = some (.ref (He.ga K "_law_kinds_right")) := He.glo_ok X G (D.fact 23)
  obtain ⟨dFN, DFN⟩ := D.def_ 24
  have FFN : Fun K "_law_some_names" "_law_some_names" sFN _ dFN := fun_ofD DFN
  have bFN := FFN.binds (ps := ["_law_script", "_law_town", "_law_most"]) fun _ _ _ _ _ _ us hl => match us, hl with | [_, _, _], _ => rfl
  have mFN : mg "_law_some_names" = some (.ref (He.ga K "_law_some_names")) := He.glo_ok X G (D.fact 24)
  obtain ⟨dAK, DAK⟩ := D.def_ 25
  have FAK : Fun K "_law_a_kind" "_law_a_kind" sAK _ dAK := fun_ofD DAK
  have bAK := FAK.binds (ps := ["_law_script", "_law_town", "_law_plain"]) fun _ _ _ _ _ _ us hl => match us, hl with | [_, _, _], _ => rfl
  have mAK : mg "_law_a_kind" = some (.ref (He.ga K "_law_a_kind")) := He.glo_ok X G (D.fact 25)
  obtain ⟨dLaw, DLaw⟩ := D.def_ 26
  have FLaw : Fun K "law" "law" sLaw _ dLaw := fun_ofD DLaw
  have mLaw : mg "law" = some (.ref (He.ga K "law")) := He.glo_ok X G (D.fact 26)
  obtain ⟨dKI, DKI⟩ := D.def_ 27
  have FKI : Fun K "__init__" "Kind.__init__" sKI _ dKI := fun_ofD DKI
  have bKI := FKI.binds (ps := ["self", "name", "elder", "own", "weak", "ways"]) fun _ _ _ _ _ _ us hl => match us, hl with | [_, _, _, _, _, _], _ => rfl
  have MKI := He.mkr_ok (D.fact 67)
  obtain ⟨dSI, DSI⟩ := D.def_ 28
  have FSI : Fun K "__init__" "Store.__init__" sSI _ dSI := fun_ofD DSI
  have bSI := FSI.binds (ps := ["self"]) fun _ _ _ _ _ _ us hl => match us, hl with | [_], _ => rfl
  have MSI := He.mkr_ok (D.fact 66)
  obtain ⟨dSW, DSW⟩ := D.def_ 29
  have FSW : Fun K "write" "Store.write" sSW _ dSW := fun_ofD DSW
  have bSW := FSW.binds (ps := ["self", "table", "key", "row"]) fun _ _ _ _ _ _ us hl => match us, hl with | [_, _, _, _], _ => rfl
  have mSW := He.meth_ok (D.fact 69)
  obtain ⟨dSN, DSN⟩ := D.def_ 30
  have FSN : Fun K "new_number" "Store.new_number" sSN _ dSN := fun_ofD DSN
  have bSN := FSN.binds (ps := ["self", "table"]) fun _ _ _ _ _ _ us hl => match us, hl with | [_, _], _ => rfl
  have mSN := He.meth_ok (D.fact 70)
  obtain ⟨dST, DST⟩ := D.def_ 31
  have FST : Fun K "take_changes" "Store.take_changes" sST _ dST := fun_ofD DST
  have bST := FST.binds (ps := ["self"]) fun _ _ _ _ _ _ us hl => match us, hl with | [_], _ => rfl
  have mST := He.meth_ok (D.fact 71)
  obtain ⟨dHI, DHI⟩ := D.def_ 32
  have FHI : Fun K "__init__" "Hall.__init__" sHI _ dHI := fun_ofD DHI
  have bHI := FHI.binds (ps := ["self"]) fun _ _ _ _ _ _ us hl => match us, hl with | [_], _ => rfl
  have MHI := He.mkr_ok (D.fact 68)
  obtain ⟨dHM, DHM⟩ := D.def_ 33
  have FHM : Fun K "make_kind" "Hall.make_kind" sHM _ dHM := fun_ofD DHM
  have mHM := He.meth_ok (D.fact 72)
  obtain ⟨dHk, DHk⟩ := D.def_ 34
  have FHk : Fun K "kinds" "Hall.kinds" sHk _ dHk := fun_ofD DHk
  have bHk := FHk.binds (ps := ["self"]) fun _ _ _ _ _ _ us hl => match us, hl with | [_], _ => rfl
  have mHk := He.meth_ok (D.fact 73)
  obtain ⟨dHl, DHl⟩ := D.def_ 35
  have FHl : Fun K "line" "Hall.line" sHl _ dHl := fun_ofD DHl
  have bHl := FHl.binds (ps := ["self", "kind"]) fun _ _ _ _ _ _ us hl => match us, hl with | [_, _], _ => rfl
  have mHl := He.meth_ok (D.fact 74)
  obtain ⟨dHh, DHh⟩ := D.def_ 36
  have FHh : Fun K "heirs" "Hall.heirs" sHh _ dHh := fun_ofD DHh
  have bHh := FHh.binds (ps := ["self", "kind"]) fun _ _ _ _ _ _ us hl => match us, hl with | [_, _], _ => rfl
  have mHh := He.meth_ok (D.fact 75)
  obtain ⟨dHf, DHf⟩ := D.def_ 37
  have FHf : Fun K "fields_of" "Hall.fields_of" sHf _ dHf := fun_ofD DHf
  have bHf := FHf.binds (ps := ["self", "kind"]) fun _ _ _ _ _ _ us hl => match us, hl with | [_, _], _ => rfl
  have mHf := He.meth_ok (D.fact 76)
  obtain ⟨dHw, DHw⟩ := D.def_ 38
  have FHw : Fun K "weak_of" "Hall.weak_of" sHw _ dHw := fun_ofD DHw
  have bHw := FHw.binds (ps := ["self", "kind"]) fun _ _ _ _ _ _ us hl => match us, hl with | [_, _], _ => rfl
  have mHw := He.meth_ok (D.fact 77)
  obtain ⟨dHC, DHC⟩ := D.def_ 39
  have FHC : Fun K "carry_out" "Hall.carry_out" sHC _ dHC := fun_ofD DHC
  have bHC := FHC.binds (ps := ["self", "word", "values"]) fun _ _ _ _ _ _ us hl => match us, hl with | [_, _, _], _ => rfl
  have mHC := He.meth_ok (D.fact 78)
  obtain ⟨dHD, DHD⟩ := D.def_ 40
  have FHD : Fun K "do" "Hall.do" sHD _ dHD := fun_ofD DHD
  have bHD := FHD.binds (ps := ["self", "word", "values"]) fun _ _ _ _ _ _ us hl => match us, hl with | [_, _, _], _ => rfl
  have mHD := He.meth_ok (D.fact 79)
  have B : Bl mg := ⟨He.free_ok X G (D.fact 52), He.free_ok X G (D.fact 53), He.free_ok X G (D.fact 54), He.free_ok X G (D.fact 55), He.free_ok X G (D.fact 56), He.free_ok X G (D.fact 57), He.free_ok X G (D.fact 58), He.free_ok X G (D.fact 59)⟩
  have aS : ∀ f ∈ (["kind_rows", "kind_numbers", "thing_rows", "held_rows", "run_rows", "next_numbers", "tables", "changes"] : List Str), NoAttr K (He.ga K "Store") f := fun f hf => by
    simp only [List.mem_cons, List.not_mem_nil, or_false] at hf
    rcases hf with rfl | rfl | rfl | rfl | rfl | rfl | rfl | rfl
    · exact He.noat_ok (D.fact 80)
    · exact He.noat_ok (D.fact 81)
    · exact He.noat_ok (D.fact 82)
    · exact He.noat_ok (D.fact 83)
    · exact He.noat_ok (D.fact 84)
    · exact He.noat_ok (D.fact 85)
    · exact He.noat_ok (D.fact 86)
    · exact He.noat_ok (D.fact 87)
  have aK : ∀ f ∈ (["name", "elder", "own", "weak", "ways"] : List Str), NoAttr K (He.ga K "Kind") f := fun f hf => by
    simp only [List.mem_cons, List.not_mem_nil, or_false] at hf
    rcases hf with rfl | rfl | rfl | rfl | rfl
    · exact He.noat_ok (D.fact 88)
    · exact He.noat_ok (D.fact 89)
    · exact He.noat_ok (D.fact 90)
    · exact He.noat_ok (D.fact 91)
    · exact He.noat_ok (D.fact 92)
  have aH : ∀ f ∈ (["store", "past", "future"] : List Str), NoAttr K (He.ga K "Hall") f := fun f hf => by
    simp only [List.mem_cons, List.not_mem_nil, or_false] at hf
    rcases hf with rfl | rfl | rfl
    · exact He.noat_ok (D.fact 93)
    · exact He.noat_ok (D.fact 94)
    · exact He.noat_ok (D.fact 95)
  have T : Tx K mg (He.ga K "Hall") (He.ga K "Store") (He.ga K "Kind") := ⟨B, He.cls_ok (D.fact 63), He.cls_ok (D.fact 64), He.cls_ok (D.fact 65), aS, aK, aH, He.glo_ok X G (D.fact 28), He.glo_ok X G (D.fact 27), He.glo_ok X G (D.fact 29)⟩
  have su : mg "super" = none := He.free_ok X G (D.fact 61)
  have sn0 : ∀ (i : Nat) (d : SupD), sn[i]? = some d → fnS K d.at_ = d.val := fun i d hi => by
    have e := S.sup
    have e2 : (sn.map fun d => fnS K d.at_)[i]? = (sn.map SupD.val)[i]? := by rw [e]
    rw [List.getElem?_map, List.getElem?_map, hi] at e2
    exact Option.some.inj e2
  have gB : mg "BadName" = some (.ref (He.ga K "BadName")) := He.glo_ok X G (D.fact 32)
  have gW : mg "Known" = some (.ref (He.ga K "Known")) := He.glo_ok X G (D.fact 33)
  have gN : mg "NoKind" = some (.ref (He.ga K "NoKind")) := He.glo_ok X G (D.fact 34)
  have gF : mg "BadField" = some (.ref (He.ga K "BadField")) := He.glo_ok X G (D.fact 37)
  obtain ⟨eA, nA, KD⟩ := S.x.t.tab 0
  obtain ⟨uD, hD1, hD2⟩ := He.valsB_ok hV (List.mem_singleton.mpr rfl)
  obtain rfl : uD = .ref (He.ga K "make_kind") := hD2
  obtain ⟨tN, mNL⟩ := He.int_ok X G (D.fact 62)
  have mKD : mg "KIND_DEEDS" = some (.ref (He.ga K "KIND_DEEDS")) := He.glo_ok X G (D.fact 30)
  have all4 : ∀ n, ErrF K (xOf n) (fOf n) ∨ (3 < n ∧ ErrF K (xOf n) "field") := fun n => by
    match n with
    | 0 => exact .inl EB
    | 1 => exact .inl EW
    | 2 => exact .inl EN
    | 3 => exact .inl EF'
    | m + 4 => exact .inr ⟨by omega, EF'⟩
  have exA : ∀ n, ExcC K ((csOf K).at n) ∧ XfC K ((csOf K).at n) ∧ PySem.W.exmOne K (.ref ((csOf K).at n)) (.ref (He.ga K "HallError")) = some true ∧ PySem.W.kitOne K (.ref ((csOf K).at n)) (.type "ValueError") = some true ∧ ∀ y ∈ errN ++ errM, PySem.W.kitOne K (.ref ((csOf K).at n)) (.ref (He.ga K y)) = some (decide (xOf n = y)) := fun n => by
    rw [cs_at]
    rcases all4 n with e | ⟨_, e⟩
    · exact ⟨e.ex, e.xf, e.exm, e.ve, e.kit⟩
    · exact ⟨e.ex, e.xf, e.exm, e.ve, e.kit⟩
  have g20 : ∀ x ∈ cls20, mg x = some (.ref (He.ga K x)) := fun x hx => by
    unfold cls20 at hx
    simp only [List.mem_cons, List.not_mem_nil, or_false] at hx
    rcases hx with rfl | rfl | rfl | rfl | rfl | rfl | rfl | rfl | rfl | rfl | rfl | rfl | rfl | rfl | rfl | rfl | rfl | rfl | rfl | rfl
    · exact He.glo_ok X G (D.fact 32)
    · exact He.glo_ok X G (D.fact 33)
    · exact He.glo_ok X G (D.fact 34)
    · exact He.glo_ok X G (D.fact 35)
    · exact He.glo_ok X G (D.fact 36)
    · exact He.glo_ok X G (D.fact 37)
    · exact He.glo_ok X G (D.fact 38)
    · exact He.glo_ok X G (D.fact 39)
    · exact He.glo_ok X G (D.fact 40)
    · exact He.glo_ok X G (D.fact 41)
    · exact He.glo_ok X G (D.fact 42)
    · exact He.glo_ok X G (D.fact 43)
    · exact He.glo_ok X G (D.fact 44)
    · exact He.glo_ok X G (D.fact 45)
    · exact He.glo_ok X G (D.fact 46)
    · exact He.glo_ok X G (D.fact 47)
    · exact He.glo_ok X G (D.fact 48)
    · exact He.glo_ok X G (D.fact 49)
    · exact He.glo_ok X G (D.fact 50)
    · exact He.glo_ok X G (D.fact 51)
  have kl : Klx K mg (csOf K) (adOf K) := by
    refine ⟨fun j x hj => ?_, fun n => (exA n).1, fun n j hj => ?_, fun n => (exA n).2.2.2.1, He.free_ok X G (D.fact 60)⟩
    · unfold adOf
      rw [cls20_get hj]
      exact g20 x (List.mem_of_getElem? hj)
    · have := (exA n).2.2.2.2 _ (cls20_in j hj)
      rw [bit_of n j hj] at this
      exact this
  have hxx : Hx K (csOf K) (He.ga K "HallError") := ⟨fun n => (exA n).2.1, fun n hn => by
    rw [cs_at]
    rcases all4 n with e | ⟨h, _⟩
    · exact e.hno
    · omega, fun n => (exA n).2.2.1⟩
  obtain ⟨mvA, k1⟩ := kbA DHM
  obtain ⟨mvB, k2⟩ := kbB DHM
  obtain ⟨ocL, odL, kVL, docL, pmL, anL, cdL, ctL, oslL, eL, lkL, hcL⟩ := FLaw.ex
  obtain ⟨cL, rfl⟩ := He.codeIn_ref hcL
  rw [eL] at lkL
  have eC : He.codeOf K ("law", none) = cL := He.codeOf_eq lkL rfl
  have hmem : (("law", none) : He.Defn) ∈ tf := List.mem_singleton.mpr rfl
  have c1 := S.x.hd _ hmem
  have c2 := S.x.out _ hmem
  have c3 := S.x.empty _ hmem
  have ef := hfa.symm.trans mLaw
  obtain rfl : fa' = He.ga K "law" := Value.ref.inj (Option.some.inj ef)
  have e1 : (He.cT K ("law", none)).1 = cL := eC
  rw [e1] at c1
  generalize (He.cT K ("law", none)).2 = P0 at c1 c2 c3
  refine ⟨dLaw, [(cL, P0)], spLaw K P0, fun p hp => ?_, fun p hp => ?_, fun p hp => ?_, fun s v => ?_, fun H a ns hl _ hH hS => ⟨a, rfl, ⟨ns, hS, hl⟩, hH _ (List.mem_singleton.mpr rfl), fun _ => rfl⟩, fun base _ _ TB => ?_⟩
  · rw [List.mem_singleton.mp hp]; exact c3
  · rw [List.mem_singleton.mp hp]; exact c2
  · rw [List.mem_singleton.mp hp]; exact PySem.W.codeHd_of_K X c1
  · rw [eL]; exact .of_eq rfl
  rw [hl]
  have RB : XErr PW5 w K mg base "BadName" "name" (He.ga K "BadName") := xe_BadName EB (sn0 0 _ rfl) gB su hth
  have RW : XErr PW5 w K mg base "Known" "name" (He.ga K "Known") := xe_Known EW (sn0 1 _ rfl) gW su hth
  have RN : XErr PW5 w K mg base "NoKind" "name" (He.ga K "NoKind") := xe_NoKind EN (sn0 2 _ rfl) gN su hth
  have RF : XErr PW5 w K mg base "BadField" "field" (He.ga K "BadField") := xe_BadField EF' (sn0 3 _ rfl) gF su hth
  have oBtw : FnOk PW5 w K mg base CX0 1 _ dBtw _ _ := ok_btw FBtw B
  have oName : FnOk PW5 w K mg base CX0 2 _ dName _ _ := ok_name FName oBtw bBtw FBtw.kp mBtw mNL B
  have oKN : FnOk PW5 w K mg base (L2.CX PW5 w) 3 _ dKN _ _ := ok_kn FKN T RN
  have oLN : FnOk PW5 w K mg base CX0 1 _ dLN _ _ := ok_ln FLN T
  have oKNs : FnOk PW5 w K mg base CX0 1 _ dKNs _ _ := ok_kns FKNs T
  have oHB : FnOk PW5 w K mg base CX0 1 _ dHB _ _ := ok_hb FHB T
  have oHN : FnOk PW5 w K mg base CX0 2 _ dHN _ _ := ok_hn FHN T oHB bHB FHB.kp mHB
  have oLF : FnOk PW5 w K mg base CX0 2 _ dLF _ _ := ok_lf FLF T oLN bLN FLN.kp mLN
  have oLW : FnOk PW5 w K mg base CX0 2 _ dLW _ _ := ok_lw FLW T oLN bLN FLN.kp mLN
  have oKI : FnOk PW5 w K mg base CX0 1 _ dKI _ _ := ok_ki FKI T
  have oLR : FnOk PW5 w K mg base CX0 1 _ dLR _ _ := ok_lr FLR
  have oSW : FnOk PW5 w K mg base CX0 2 _ dSW _ _ := ok_sw FSW T oLR bLR FLR.kp mLR
  have oSN : FnOk PW5 w K mg base CX0 3 _ dSN _ _ := ok_sn FSN T mSW oSW bSW
  have oST : FnOk PW5 w K mg base CX0 1 _ dST _ _ := ok_st FST T
  have oSI : FnOk PW5 w K mg base CX0 3 _ dSI _ _ := ok_si FSI T MKI oKI bKI
  have oCN : FnOk PW5 w K mg base (L2.CX PW5 w) 3 _ dCN _ _ := ok_cn FCN T RB RW oName bName FName.kp mName
  have oCO : FnOk PW5 w K mg base (L2.CX PW5 w) 3 _ dCO _ _ := ok_co FCO RF oName bName FName.kp mName
  have oMK : FnOk PW5 w K mg base (L2.CX PW5 w) 4 _ dMK _ (spMK K _ _ (csOf K)) := ok_mk FMK T oCN bCN FCN.kp mCN oKN bKN FKN.kp mKN oCO bCO FCO.kp mCO oLF bLF FLF.kp mLF oSN bSN mSN oSW bSW mSW MKI oKI bKI
  have oPf : FnOk PW5 w K mg base (L2.CX PW5 w) 5 _ dPf _ _ := ok_pf FPf KD mKD hD1 oMK bMK FMK.kp
  have oHC : FnOk PW5 w K mg base (L2.CX PW5 w) 6 _ dHC _ _ := ok_hc FHC T oPf bPf FPf.kp mPf oST bST mST
  have oHD : FnOk PW5 w K mg base (L2.CX PW5 w) 7 _ dHD _ _ := ok_hd FHD T oHC bHC mHC
  have oHM : FnOk PW5 w K mg base (L2.CX PW5 w) 8 _ dHM _ _ := ok_hm FHM T oHD bHD mHD
  have oHI : FnOk PW5 w K mg base CX0 5 _ dHI _ _ := ok_hi FHI T MSI oSI bSI
  have oHk : FnOk PW5 w K mg base CX0 2 _ dHk _ _ := ok_hk FHk T oKNs bKNs FKNs.kp mKNs
  have oHl : FnOk PW5 w K mg base (L2.CX PW5 w) 4 _ dHl _ _ := ok_hl FHl T oKN bKN FKN.kp mKN oLN bLN FLN.kp mLN oKNs bKNs FKNs.kp mKNs
  have oHh : FnOk PW5 w K mg base (L2.CX PW5 w) 4 _ dHh _ _ := ok_hh FHh T oKN bKN FKN.kp mKN oHN bHN FHN.kp mHN oKNs bKNs FKNs.kp mKNs
  have oHf : FnOk PW5 w K mg base (L2.CX PW5 w) 4 _ dHf _ _ := ok_hfo FHf T oKN bKN FKN.kp mKN oLF bLF FLF.kp mLF
  have oHw : FnOk PW5 w K mg base (L2.CX PW5 w) 4 _ dHw _ _ := ok_hwo FHw T oKN bKN FKN.kp mKN oLW bLW FLW.kp mLW
  have oDraw : FnOk PW5 w K mg base CX0 1 _ dDraw _ _ := ok_draw FDraw B
  have oBegun : FnOk PW5 w K mg base CX0 1 _ dBegun _ _ := ok_begun FBegun
  have oCl : FnOk PW5 w K mg base CX0 1 _ dCl _ _ := ok_cl FCl B kl
  have oNamed : FnOk PW5 w K mg base CX0 1 _ dNamed _ _ := ok_named FNamed B
  have oNw : FnOk PW5 w K mg base CX0 1 _ dNw _ _ := ok_nw FNw
  have oUp : FnOk PW5 w K mg base CX0 1 _ dUp _ _ := ok_up FUp
  have oAF : FnOk PW5 w K mg base CX0 2 _ dAF _ _ := ok_af FAF oUp bUp FUp.kp mUp
  have oNK : FnOk PW5 w K mg base CX0 3 _ dNK _ _ := ok_nk FNK B oNamed bNamed FNamed.kp mNamed oAF bAF FAF.kp mAF
  have oKR : FnOk PW5 w K mg base CX0 5 _ dKR _ _ := ok_kr FKR T oUp bUp FUp.kp mUp oAF bAF FAF.kp mAF oHk bHk mHk oHl bHl mHl oHh bHh mHh oHf bHf mHf oHw bHw mHw
  have oFN : FnOk PW5 w K mg base CX0 2 _ dFN _ _ := ok_fn FFN B oDraw bDraw FDraw.kp mDraw
  have oAK : FnOk PW5 w K mg base CX0 2 _ dAK _ _ := ok_ak FAK B oDraw bDraw FDraw.kp mDraw
  rw [eL]
  exact ok_law lkL hcL T (TB _ (List.mem_singleton.mpr rfl)) oDraw bDraw FDraw.kp mDraw oBegun bBegun FBegun.kp mBegun oNw bNw FNw.kp mNw MHI oHI bHI oFN bFN FFN.kp mFN oAK bAK FAK.kp mAK oNK bNK FNK.kp mNK oHM mHM k1 (fun _ _ _ => rfl) (mt0_ok hmw) k2 (fun _ _ _ _ _ => rfl) FHe bHe mHe oCl bCl FCl.kp mCl (He.glo_ok X G (D.fact 31)) hxx oKR bKR FKR.kp mKR oHl bHl mHl oHh bHh mHh oHf bHf mHf oHw bHw mHw
end B1

set_option maxRecDepth 100000
set_option maxHeartbeats 0
namespace H5
open PySem PySem.W PySem.Calls PyProof.Rows HandSHeadRun
/-- the head of the law, by the run that was cut in two -/
theorem head_cut {q : Program} {H : Hook} {ob : SharedT → H.α} {loose : List PySem.Str} {d : DefRec} {kwd : List (PySem.Str × PySem.Expr)} (ho : ∀ s : SharedT, ob s = H.obs s.abs)
    (e : opening R.prog = plainProg R.prog.main.scope.names) (f : ∀ s, fenceModules? R.prog s = some s) (run : ∀ w, RunC q H ob loose w)
    (hdef : defOf q R.name = some (d, kwd)) (hp : R.prog.theDef R.name = some (d.params, d.body, d.scope)) (hk : kwWritten? d.params.kwonlyargs d.params.kw_defaults = some kwd)
    (hwr : (!R.writes || R.records.isEmpty) = true) (k1 : R.wellSaid = true) (ok : (chainsOk q && opensWell R.prog && (frees R.toRowW && R.within.isEmpty)) = true) (hb : R.prog.bare) (hw : R.toRowW.promised)
    (call : WalkO q loose (XL q []) H.says R.toRowW d kwd fun f vs => PySem.call f vs) : R.Holds := by
  have left : LeftO R.prog q loose (fun s => xlAt q [] s && recOk R.toRowW.records s) H.obs H.val (tot 30000 + 600) true :=
    left_cut e (Nat.ble_eq_true_of_le (Nat.le_add_left _ _)) f (Nat.le_add_right _ _) fun w os => runC_of ho (run w) os
  exact holds_open left H.of H.keeps (fun s z => xl_of s (Bool.and_eq_true_iff.mp z).1) XL.keeps hdef hp hk (fun s z => recFacts_of (Bool.and_eq_true_iff.mp z).2) hwr k1 ok hb hw call
end H5
open PySem PySem.W PySem.Calls PyProof.Rows
theorem PySem.Challenge.cw_livehall_k05_kinds_made_holds : PySem.Challenge.rw_livehall_k05_kinds_made.Holds := by
  w_on; o_law
  refine H5.head_cut (q := H5.qv) (H := H5.hk) (ob := H5.ob) (loose := H5.names) (d := HandSHeadRun.topDef (OpenLaw.row PySem.Challenge.rw_livehall_k05_kinds_made).prog 203) (kwd := []) H5.ob_eq (by kernel_rfl) (fun s => by kernel_rfl) H5.rAll (by kernel_rfl) (by kernel_rfl) (by kernel_rfl) (by rfl) (by first | assumption | decide +kernel) (by decide +kernel) ⟨rfl, rfl, rfl, rfl, rfl, by decide +kernel⟩ ?hw ?hc
  case hw =>
    show (OpenLaw.row PySem.Challenge.rw_livehall_k05_kinds_made).toRowW.promised
    w_witness2
  case hc =>
    refine LamX.walk_ofTsE (l := PySem.Challenge.rw_livehall_k05_kinds_made) (n := 63) (k := 11) (x := "_law_script") (CX := fun _ => L2.CX0) rfl (by decide) (by kernel_rfl) ⟨rfl, by decide, by decide⟩ ?F (fun _ _ _ _ _ z => z)
    intro w mg fa h Y G hmg0
    obtain ⟨K, KX, c⟩ := Y
    have hmg : mg ("law" : PySem.Str) = some (.ref fa) := by
      have e : (HandSHeadRun.topDef (OpenLaw.row PySem.Challenge.rw_livehall_k05_kinds_made).prog 203).name = ("law" : PySem.Str) := by kernel_rfl
      rw [← e]
      exact hmg0
    exact ⟨K, KX, B1.law_at rfl KX G hmg c⟩
#print axioms PySem.Challenge.cw_livehall_k05_kinds_made_holds

