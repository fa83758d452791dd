import PyProof.Rows.All
import Wide.All
import OpenK.AllK
import Wide.FinOn
import KE.KStateDown
import KE.KExcInit
import HandS.Head0
import HandS.Head1
import HandS.Head2
import HandS.HeadHook1
import HandS.HeadHook2
import HandS.HeadHook3
import HandS.HeadHook4
import HandS.Words
import HandS.ForMost
import HandS.Flow
import HandS.IsInst
import HandS.TupAny
import KE.GoesEnum
import HandS.SetFor
import HandS.RaiseMore
import HandS.ForExc
import HandS.ExcIs
import HandS.ExcField
import HandS.ExcInit
import HandS.HotCalls
import KE.KTryMore
import HandS.Defaults
import HandS.MakeKw
import HandS.ExcValue
import HandS.EndTab
import HandS.HeadWalk
import PyProof.ReprRoads
import HandS.Codes
import PyProof.ReprLen
import HandS.HeadEnd
import PyProof.ExcBaseAll.ValueError
import PyProof.ExcBaseAll.LookupError
import PyProof.ExcBaseAll.ArithmeticError
import PySem.Challenge.RW_cornersure_k01_limits_and_errors
set_option Elab.async false
set_option linter.all false
set_option maxRecDepth 100000
set_option maxHeartbeats 0
namespace Cs
open PySem PySem.Spec PyProof.Rows L2
def topS (i : Nat) : Stmt := PySem.Challenge.pw_cornersure_k01_limits_and_errors.main.body.getD i (.Pass ⟨0, 0, 0, 0⟩)
/-! ### the classes, by their number -/
def cNs0 : List Str := ["InvalidText", "InvalidName", "InvalidColumn", "InvalidStretch", "InvalidMember", "InvalidMix", "InvalidWeights", "InvalidTarget", "InvalidBounds", "InvalidPrices", "InvalidSigns", "InvalidAnswer", "InvalidPoint", "InvalidPoints", "InvalidPlaces", "InvalidTie", "InvalidWay"]
def cNs1 : List Str := ["InvalidPairing", "InvalidTree", "InvalidCut", "InvalidNumber", "InvalidSeating", "InvalidWord", "InvalidWish", "InvalidCommand", "NotATable", "NotTimes", "NotAWeb", "NotCounts", "NotAThing", "InvalidColumns", "InvalidRows", "InvalidFacts", "InvalidTies"]
def cNs2 : List Str := ["InvalidCounts", "InvalidWishes", "InvalidLog", "UnknownName", "UnknownPlace", "InUse", "TooFew", "TooMany", "TooGreat", "NotWhole", "NotJoined", "Narrow", "NotServed", "NoAnswer", "NoTimes", "NothingToUndo", "Broken"]
def cNs : List Str := cNs0 ++ cNs1 ++ cNs2
def cN : Nat → Str := fun n => cNs.getD n ("" : Str)
/-- under which name an error keeps what it is made with -/
def kd : Nat → Option Str := fun n => if n < 30 then some "given" else if n < 37 then some "index" else if n < 39 then some "given" else if n = 39 then some "index" else if n < 46 then some "given" else if n < 50 then none else some "index"
def excCB (K : PySem.W.Frag) (D : Addr) : Bool := He.eqO (PySem.W.findIn K (.ref D) "__getattribute__") (some (some (.builtin "BaseException.__getattribute__"))) && (He.eqO (PySem.W.findIn K (.ref D) "__getattr__") (some none) &&
  (decide (PySem.W.subIn K (.ref D) (.type "BaseException") = some true) && (PySem.W.hasDictIn K D && (He.eqO (PySem.W.findIn K (.ref D) "__class__") (some (some (.builtin "object.__class__"))) &&
  (He.eqO (PySem.W.specialIn K (.builtin "object.__class__") "__get__") (some (some (.builtin "getset_descriptor.__get__"))) && (decide (PySem.W.takesIn K (.builtin "object.__class__") = some true) && decide (PySem.W.mroIn K D (.type "object") = some true)))))))
def wN : Nat → Str := fun n => if n < 37 then "WrongValue" else if n < 40 then "WrongName" else "NotPossible"
def bN : Nat → String := fun n => if n < 37 then "ValueError" else if n < 40 then "LookupError" else "ArithmeticError"
def nN : Nat → String := fun n => if n < 37 then "ValueError.__new__" else if n < 40 then "LookupError.__new__" else "ArithmeticError.__new__"
def bmN (n : Nat) : List Value := [.type (bN n), .type "Exception", .type "BaseException", .type "object"]
def mroB (K : PySem.W.Frag) (C W : Addr) (bm : List Value) : Bool := match PySem.W.clsIn K C with
  | some cd => decide (cd.mro = .ref C :: .ref W :: bm)
  | none => false
def clsTB (K : PySem.W.Frag) (D : Addr) : Bool := (PySem.W.clsIn K D).isSome && decide (PySem.W.typeIn K (.ref D) = some (.type "type"))
def oexGB (K : PySem.W.Frag) (C : Addr) (bmB : List Value) (newId : String) (f : Str) : Bool := PySem.W.excInitIn K C bmB newId && (PySem.W.excOver K C bmB && (He.eqO (PySem.W.findIn K (.ref C) "__setattr__") (some (some (.builtin "object.__setattr__"))) && (PySem.W.keepIn K (.ref C) &&
  (He.eqO (PySem.W.takerIn K C f) (some none) && (He.eqO (PySem.W.findIn K (.ref C) "__init__") (some (some (.ref (He.ma K C "__init__")))) && decide (PySem.W.typeIn K (.ref (He.ma K C "__init__")) = some (.type "function")))))))
def clB (K : PySem.W.Frag) (C W : Addr) (bmB : List Value) (newId : String) (f : Option Str) : Bool := excCB K C && (He.eqO (PySem.W.findIn K (.ref C) "given") (some none) && (He.eqO (PySem.W.findIn K (.ref C) "index") (some none) && (mroB K C W bmB && (clsTB K C &&
  (match f with
  | some f => oexGB K C bmB newId f
  | none => PySem.W.excIn K C bmB newId && PySem.W.keepIn K (.ref C))))))
def incB : List Nat → Bool
  | a :: b :: r => Nat.blt a b && incB (b :: r)
  | _ => true
abbrev cA (K : PySem.W.Frag) : Nat → Addr := fun n => He.ga K (cN n)
abbrev cbA (K : PySem.W.Frag) : Nat → Addr := fun n => match n with | 0 => He.ga K "WrongValue" | 1 => He.ga K "WrongName" | _ => He.ga K "NotPossible"
def b1 (K : PySem.W.Frag) : Bool := (List.range 51).all fun n => clB K (cA K n) (He.ga K (wN n)) (bmN n) (nN n) (kd n)
def b2 (K : PySem.W.Frag) : Bool := incB ((List.range 51).map (cA K))
def b3 (K : PySem.W.Frag) : Bool := (List.range 3).all fun i => clsTB K (cbA K i)
def b4 (K : PySem.W.Frag) : Bool := (List.range 51).all fun n => (List.range 3).all fun i => !Nat.beq (cA K n) (cbA K i)
def b5 (K : PySem.W.Frag) : Bool := incB [cbA K 0, cbA K 1, cbA K 2]
def ex (K : PySem.W.Frag) : Bool := b1 K && (b2 K && (b3 K && (b4 K && b5 K)))
def dd (x : Str) (i : Nat) : He.DefD := ⟨(x, none), x, x, defArgs (topS i), defBody (topS i), defScope (topS i), [], []⟩
def dm (C m q : Str) (st : Stmt) : He.DefD := ⟨(C, some m), m, q, defArgs st, defBody st, defScope st, [], []⟩
def fn0 : List He.DefD := [dd "_law_scoop" 69, dd "_law_any" 70, dd "_law_pail" 68, dd "_law_given" 72, dd "_law_placed" 73, dd "_law_one_of" 71, dd "_law_bases" 74, dd "_law_right" 75, dd "law" 76, dm "InvalidText" "__init__" "InvalidText.__init__" (inClass (topS 2) 0), dm "InvalidName" "__init__" "InvalidName.__init__" (inClass (topS 3) 0), dm "InvalidColumn" "__init__" "InvalidColumn.__init__" (inClass (topS 4) 0), dm "InvalidStretch" "__init__" "InvalidStretch.__init__" (inClass (topS 5) 0), dm "InvalidMember" "__init__" "InvalidMember.__init__" (inClass (topS 6) 0), dm "InvalidMix" "__init__" "InvalidMix.__init__" (inClass (topS 7) 0), dm "InvalidWeights" "__init__" "InvalidWeights.__init__" (inClass (topS 8) 0), dm "InvalidTarget" "__init__" "InvalidTarget.__init__" (inClass (topS 9) 0), dm "InvalidBounds" "__init__" "InvalidBounds.__init__" (inClass (topS 10) 0), dm "InvalidPrices" "__init__" "InvalidPrices.__init__" (inClass (topS 11) 0), dm "InvalidSigns" "__init__" "InvalidSigns.__init__" (inClass (topS 12) 0)]
def fn1 : List He.DefD := [dm "InvalidAnswer" "__init__" "InvalidAnswer.__init__" (inClass (topS 13) 0), dm "InvalidPoint" "__init__" "InvalidPoint.__init__" (inClass (topS 14) 0), dm "InvalidPoints" "__init__" "InvalidPoints.__init__" (inClass (topS 15) 0), dm "InvalidPlaces" "__init__" "InvalidPlaces.__init__" (inClass (topS 16) 0), dm "InvalidTie" "__init__" "InvalidTie.__init__" (inClass (topS 17) 0), dm "InvalidWay" "__init__" "InvalidWay.__init__" (inClass (topS 18) 0), dm "InvalidPairing" "__init__" "InvalidPairing.__init__" (inClass (topS 19) 0), dm "InvalidTree" "__init__" "InvalidTree.__init__" (inClass (topS 20) 0), dm "InvalidCut" "__init__" "InvalidCut.__init__" (inClass (topS 21) 0), dm "InvalidNumber" "__init__" "InvalidNumber.__init__" (inClass (topS 22) 0), dm "InvalidSeating" "__init__" "InvalidSeating.__init__" (inClass (topS 23) 0), dm "InvalidWord" "__init__" "InvalidWord.__init__" (inClass (topS 24) 0), dm "InvalidWish" "__init__" "InvalidWish.__init__" (inClass (topS 25) 0), dm "InvalidCommand" "__init__" "InvalidCommand.__init__" (inClass (topS 26) 0), dm "NotATable" "__init__" "NotATable.__init__" (inClass (topS 27) 0), dm "NotTimes" "__init__" "NotTimes.__init__" (inClass (topS 28) 0), dm "NotAWeb" "__init__" "NotAWeb.__init__" (inClass (topS 29) 0), dm "NotCounts" "__init__" "NotCounts.__init__" (inClass (topS 30) 0), dm "NotAThing" "__init__" "NotAThing.__init__" (inClass (topS 31) 0), dm "InvalidColumns" "__init__" "InvalidColumns.__init__" (inClass (topS 32) 0)]
def fn2 : List He.DefD := [dm "InvalidRows" "__init__" "InvalidRows.__init__" (inClass (topS 33) 0), dm "InvalidFacts" "__init__" "InvalidFacts.__init__" (inClass (topS 34) 0), dm "InvalidTies" "__init__" "InvalidTies.__init__" (inClass (topS 35) 0), dm "InvalidCounts" "__init__" "InvalidCounts.__init__" (inClass (topS 36) 0), dm "InvalidWishes" "__init__" "InvalidWishes.__init__" (inClass (topS 37) 0), dm "InvalidLog" "__init__" "InvalidLog.__init__" (inClass (topS 38) 0), dm "UnknownName" "__init__" "UnknownName.__init__" (inClass (topS 40) 0), dm "UnknownPlace" "__init__" "UnknownPlace.__init__" (inClass (topS 41) 0), dm "InUse" "__init__" "InUse.__init__" (inClass (topS 42) 0), dm "TooFew" "__init__" "TooFew.__init__" (inClass (topS 44) 0), dm "TooMany" "__init__" "TooMany.__init__" (inClass (topS 45) 0), dm "TooGreat" "__init__" "TooGreat.__init__" (inClass (topS 46) 0), dm "NotWhole" "__init__" "NotWhole.__init__" (inClass (topS 47) 0), dm "NotJoined" "__init__" "NotJoined.__init__" (inClass (topS 48) 0), dm "Narrow" "__init__" "Narrow.__init__" (inClass (topS 49) 0), dm "Broken" "__init__" "Broken.__init__" (inClass (topS 54) 0)]
def fn : List He.DefD := fn0 ++ fn1 ++ fn2
def fa0 : List He.Fa := [.glo "_law_scoop", .glo "_law_any", .glo "_law_pail", .glo "_law_given", .glo "_law_placed", .glo "_law_one_of", .glo "_law_bases", .glo "_law_right", .glo "law", .glo "InvalidText", .glo "InvalidName", .glo "InvalidColumn", .glo "InvalidStretch", .glo "InvalidMember", .glo "InvalidMix", .glo "InvalidWeights", .glo "InvalidTarget", .glo "InvalidBounds", .glo "InvalidPrices", .glo "InvalidSigns"]
def fa1 : List He.Fa := [.glo "InvalidAnswer", .glo "InvalidPoint", .glo "InvalidPoints", .glo "InvalidPlaces", .glo "InvalidTie", .glo "InvalidWay", .glo "InvalidPairing", .glo "InvalidTree", .glo "InvalidCut", .glo "InvalidNumber", .glo "InvalidSeating", .glo "InvalidWord", .glo "InvalidWish", .glo "InvalidCommand", .glo "NotATable", .glo "NotTimes", .glo "NotAWeb", .glo "NotCounts", .glo "NotAThing", .glo "InvalidColumns"]
def fa2 : List He.Fa := [.glo "InvalidRows", .glo "InvalidFacts", .glo "InvalidTies", .glo "InvalidCounts", .glo "InvalidWishes", .glo "InvalidLog", .glo "UnknownName", .glo "UnknownPlace", .glo "InUse", .glo "TooFew", .glo "TooMany", .glo "TooGreat", .glo "NotWhole", .glo "NotJoined", .glo "Narrow", .glo "NotServed", .glo "NoAnswer", .glo "NoTimes", .glo "NothingToUndo", .glo "Broken"]
def fa3 : List He.Fa := [.glo "WrongValue", .glo "WrongName", .glo "NotPossible", .free "len", .free "isinstance", .free "int", .free "all", .free "abs", .free "divmod", .free "range", .free "repr", .free "ValueError", .free "LookupError", .free "ArithmeticError", .int "MOST_END" 10000, .int "MOST_COLUMNS" 4, .int "MOST_ROWS" 8, .int "MOST_WEIGHT" 1000, .int "MOST_PRICE" 1000, .int "MOST_POINTS" 6]
def fa4 : List He.Fa := [.int "MOST_FACTS" 12, .int "MOST_PLACES" 6, .int "MOST_TIES" 10, .int "MOST_LENGTH" 1000, .int "MOST_NAMES" 5, .int "MOST_SEATS" 12]
def fa : List He.Fa := fa0 ++ fa1 ++ fa2 ++ fa3 ++ fa4
def loose0 : List Str := ["WrongValue", "InvalidText", "InvalidName", "InvalidColumn", "InvalidStretch", "InvalidMember", "InvalidMix", "InvalidWeights", "InvalidTarget", "InvalidBounds", "InvalidPrices", "InvalidSigns", "InvalidAnswer", "InvalidPoint", "InvalidPoints", "InvalidPlaces", "InvalidTie", "InvalidWay", "InvalidPairing", "InvalidTree"]
def loose1 : List Str := ["InvalidCut", "InvalidNumber", "InvalidSeating", "InvalidWord", "InvalidWish", "InvalidCommand", "NotATable", "NotTimes", "NotAWeb", "NotCounts", "NotAThing", "InvalidColumns", "InvalidRows", "InvalidFacts", "InvalidTies", "InvalidCounts", "InvalidWishes", "InvalidLog", "WrongName", "UnknownName"]
def loose2 : List Str := ["UnknownPlace", "InUse", "NotPossible", "TooFew", "TooMany", "TooGreat", "NotWhole", "NotJoined", "Narrow", "NotServed", "NoAnswer", "NoTimes", "NothingToUndo", "Broken", "MOST_END", "MOST_COLUMNS", "MOST_ROWS", "MOST_WEIGHT", "MOST_PRICE", "MOST_POINTS"]
def loose3 : List Str := ["MOST_FACTS", "MOST_PLACES", "MOST_TIES", "MOST_LENGTH", "MOST_NAMES", "MOST_SEATS", "_law_pail", "_law_scoop", "_law_any", "_law_one_of", "_law_given", "_law_placed", "_law_bases", "_law_right"]
def loose : List Str := loose0 ++ loose1 ++ loose2 ++ loose3
def as0 : List Addr := [0, 3, 4, 6, 22, 23, 24, 25, 35, 36, 37, 38, 39, 40, 41, 42, 43, 44, 54, 55, 56, 57, 58, 59, 60, 61, 62, 63, 73, 74, 75, 76, 77, 78, 79, 80, 81, 82, 92, 93]
def as1 : List Addr := [94, 95, 96, 97, 98, 99, 100, 101, 111, 112, 113, 114, 115, 116, 117, 118, 119, 120, 130, 131, 132, 133, 134, 135, 136, 137, 138, 139, 149, 150, 151, 152, 153, 154, 155, 156, 157, 158, 168, 169]
def as2 : List Addr := [170, 171, 172, 173, 174, 175, 176, 177, 187, 188, 189, 190, 191, 192, 193, 194, 195, 196, 206, 207, 208, 209, 210, 211, 212, 213, 214, 215, 225, 226, 227, 228, 229, 230, 231, 232, 233, 234, 244, 245]
def as3 : List Addr := [246, 247, 248, 249, 250, 251, 252, 253, 263, 264, 265, 266, 267, 268, 269, 270, 271, 272, 282, 283, 284, 285, 286, 287, 288, 289, 290, 291, 301, 302, 303, 304, 305, 306, 307, 308, 309, 310, 320, 321]
def as4 : List Addr := [322, 323, 324, 325, 326, 327, 328, 329, 339, 340, 341, 342, 343, 344, 345, 346, 347, 348, 358, 359, 360, 361, 362, 363, 364, 365, 366, 367, 377, 378, 379, 380, 381, 382, 383, 384, 385, 386, 396, 397]
def as5 : List Addr := [398, 399, 400, 401, 402, 403, 404, 405, 415, 416, 417, 418, 419, 420, 421, 422, 423, 424, 434, 435, 436, 437, 438, 439, 440, 441, 442, 443, 453, 454, 455, 456, 457, 458, 459, 460, 461, 462, 472, 473]
def as6 : List Addr := [474, 475, 476, 477, 478, 479, 480, 481, 491, 492, 493, 494, 495, 496, 497, 498, 499, 500, 510, 511, 512, 513, 514, 515, 516, 517, 518, 519, 529, 530, 531, 532, 533, 534, 535, 536, 537, 538, 548, 549]
def as7 : List Addr := [550, 551, 552, 553, 554, 555, 556, 557, 567, 568, 569, 570, 571, 572, 573, 574, 575, 576, 586, 587, 588, 589, 590, 591, 592, 593, 594, 595, 605, 606, 607, 608, 609, 610, 611, 612, 613, 614, 624, 625]
def as8 : List Addr := [626, 627, 628, 629, 630, 631, 632, 633, 643, 644, 645, 646, 647, 648, 649, 650, 651, 652, 662, 663, 664, 665, 666, 667, 668, 669, 670, 671, 681, 682, 683, 684, 685, 686, 687, 688, 689, 690, 700, 701]
def as9 : List Addr := [702, 703, 704, 705, 706, 707, 708, 709, 719, 720, 721, 722, 723, 724, 725, 726, 727, 728, 738, 739, 740, 741, 751, 752, 753, 754, 755, 756, 757, 758, 759, 760, 770, 771, 772, 773, 774, 775, 776, 777]
def as10 : List Addr := [778, 779, 789, 790, 791, 792, 793, 794, 795, 796, 797, 798, 808, 809, 810, 811, 821, 822, 823, 824, 825, 826, 827, 828, 829, 830, 840, 841, 842, 843, 844, 845, 846, 847, 848, 849, 859, 860, 861, 862]
def as11 : List Addr := [863, 864, 865, 866, 867, 868, 878, 879, 880, 881, 882, 883, 884, 885, 886, 887, 897, 898, 899, 900, 901, 902, 903, 904, 905, 906, 916, 917, 918, 919, 920, 921, 922, 923, 924, 925, 935, 936, 937, 947]
def as12 : List Addr := [948, 949, 959, 960, 961, 971, 972, 973, 983, 984, 985, 986, 987, 988, 989, 990, 991, 992, 995, 996, 997, 998, 999, 1000, 1001, 1002, 1003, 1004, 1005, 1006, 1007, 1008, 1009, 1010, 1011, 1012, 1013, 1014, 1015, 1016]
def as13 : List Addr := [1017, 1018, 1019, 1020, 1021, 1022, 1023, 1024, 1025, 1026, 1027, 1028, 1029, 1030, 1031, 1032, 1033, 1034, 1035, 1036, 1037, 1038, 1039, 1040, 1041, 1042, 1043, 1044, 1045, 1046, 1047, 1048, 1049, 1050, 1051, 1052, 1053]
def as : List Addr := as0 ++ as1 ++ as2 ++ as3 ++ as4 ++ as5 ++ as6 ++ as7 ++ as8 ++ as9 ++ as10 ++ as11 ++ as12 ++ as13
end Cs
set_option maxHeartbeats 0
namespace Cs
open PySem PySem.W PySem.Calls PySem.Spec PyProof.Rows L2
abbrev R : PySem.W.OpenRow := PySem.W.OpenLaw.row PySem.Challenge.rw_cornersure_k01_limits_and_errors
noncomputable abbrev runS (w : World) (os : OsState) := HandSHeadRun.endF (HandSHeadRun.stepQ (HandSHeadRun.denQ HandSHeadRun.tabQ) R.prog w) 20000 R.prog w os
def kOf (s : PySem.W.SharedT) : PySem.W.Frag := He.frT (HandSHeadRun.getT s) as
def kAt (s : Shared) : PySem.W.Frag := He.frT s.heap.get? as
theorem kOf_eq (s : PySem.W.SharedT) : kOf s = kAt s.abs := congrArg (fun g => He.frT g as) (funext (HandSHeadRun.getT_eq s))
abbrev qV : Program := PySem.W.view R.prog [76]
abbrev AlC : Type := Bool × Bool × List He.FnW × Bool
def obK (K : PySem.W.Frag) : AlC := (fa.all fun f => f.ok K, fn.all fun d => d.ok K, fn.map fun d => He.fnW K d.at_, ex K)
abbrev hk : PySem.W.Hook where
  α := AlC
  obs := fun s => obK (kAt s)
  val := fun _ => (true, true, fn.map He.DefD.val, true)
  says := fun w h => ∃ K : PySem.W.Frag, K.In h ∧ He.SaysD fa fn K ∧ ex K = true
  of := fun w s e => by
    refine ⟨He.frT s.heap.get? as, He.frT_in, ?_, congrArg (fun z : AlC => z.2.2.2) e⟩
    have e1 : (fa.all fun f => f.ok (kAt s)) = true := congrArg (fun z : AlC => z.1) e
    have e2 : (fn.all fun d => d.ok (kAt s)) = true := congrArg (fun z : AlC => z.2.1) e
    have e3 : (fn.map fun d => He.fnW (kAt s) d.at_) = fn.map He.DefD.val := congrArg (fun z : AlC => z.2.2.1) e
    show ((fa.all fun f => f.ok (kAt s)) && (fn.all fun d => d.ok (kAt s)), fn.map fun d => He.fnW (kAt s) d.at_) = (true, fn.map He.DefD.val)
    rw [e1, e2, e3]
    rfl
  keeps := fun _ _ _ ⟨K, hK, c⟩ k => ⟨K, PySem.W.Frag.In.keeps hK k, c⟩
def ob (s : PySem.W.SharedT) : AlC := obK (kOf s)
theorem ob_eq (s : PySem.W.SharedT) : ob s = hk.obs s.abs := congrArg obK (kOf_eq s)
theorem r1 (w : World) (os : OsState) : (runS w os).map (fun s => HandSHeadRun.looksF R.prog (boot_heap w.params) s.abs) = some true := by
  kernel_rfl
theorem r2 (w : World) (os : OsState) : (runS w os).map (fun s => HandSHeadRun.seenQ qV loose (importedModules R.prog.main.body) (fun s => xlAt qV [] s && recOk R.toRowW.records s) s.abs) = some (openGood qV loose) := by
  kernel_rfl
theorem r3 (w : World) (os : OsState) : (runS w os).map (fun s => fa.all fun f => f.ok (kOf s)) = some true := by
  kernel_rfl
theorem r4 (w : World) (os : OsState) : (runS w os).map (fun s => fn.all fun d => d.ok (kOf s)) = some true := by
  kernel_rfl
theorem r5 (w : World) (os : OsState) : (runS w os).map (fun s => fn.map fun d => He.fnW (kOf s) d.at_) = some (fn.map He.DefD.val) := by
  kernel_rfl
theorem r6 (w : World) (os : OsState) : (runS w os).map (fun s => ex (kOf s)) = some true := by
  kernel_rfl
end Cs
set_option maxHeartbeats 0
namespace Cs
open PySem PySem.W PySem.Calls PySem.Spec PyProof.Rows L2
theorem run (w : World) : HandSHeadRun.RunEq R qV hk ob 20000 loose w := by
  intro os
  obtain ⟨s, hs, e1⟩ := Option.map_eq_some_iff.mp (r1 w os)
  have e2 := r2 w os
  have e3 := r3 w os
  have e4 := r4 w os
  have e5 := r5 w os
  have e6 := r6 w os
  rw [hs] at e2 e3 e4 e5 e6
  have z : ob s = (true, true, fn.map He.DefD.val, true) := Prod.ext (Option.some.inj e3) (Prod.ext (Option.some.inj e4) (Prod.ext (Option.some.inj e5) (Option.some.inj e6)))
  show (runS w os).map _ = _
  rw [hs]
  exact congrArg some (Prod.ext e1 (Prod.ext (Option.some.inj e2) z))
end Cs
set_option maxHeartbeats 4000000
/-! Rules of my own beside the layer: enumerate of a tuple; a chain of three comparisons; count of flat items. -/
namespace PySem
open AutoSeq1 (wpAny_loadPart')
theorem cs_enum_newT (l : Addr) (items : Array Value) (n : Nat) (dct : Option Addr) (sl : Array (Option Value)) :
    Meets (Builtin.«enumerate.__new__» ⟨[.type "enumerate", .ref l], []⟩)
      (fun _ R s => s.heap.get? l = some { cls := .type "tuple", dict := dct, data := .seq items n, slots := sl } ∧
        R (.ok (.ret (.ref (s.heap.push { cls := .type "tuple_iterator", data := .fields #[.ref l, .int 0 0] }).objs.size)))
          { s with heap := ((s.heap.push { cls := .type "tuple_iterator", data := .fields #[.ref l, .int 0 0] }).push { cls := .type "enumerate", data := .fields #[.none, .bool false, .ref s.heap.objs.size, rawInt 0, .none, .none] }) }) := .of_wp fun prog w A R s h => by
  obtain ⟨hp, g, d, tk, os⟩ := s
  obtain ⟨hl, h⟩ := h
  have hsub := sub_enumerate
  have hT : Heap.IsTuple (Shared.heap ⟨hp, g, d, tk, os⟩) l items := ⟨_, hl, rfl, n, rfl⟩
  wp_walk using wpAny_loadPart' hl
  refine wpAny_stack_any fun _ => wpAny_pure ?_
  split
  · rename_i c _ _ _ _ _
    cases (c == Value.type "enumerate") <;> (wp_walk using wpAny_loadPart' hl, wpAny_pyIter_tuple hT; exact ⟨_, rfl, h⟩)
  · wp_walk using wpAny_loadPart' hl, wpAny_pyIter_tuple hT
    exact ⟨_, rfl, h⟩
theorem cs_call_enumT {prog : Program} {w : World} {A : Around} {E : Value → Shared → Prop} {s : Shared} {l : Addr} {items : Array Value} {Q : Value → Shared → Prop} (hL : s.heap.IsTuple l items)
    (h : ∀ h', IsEnum h' (s.heap.objs.size + 1) s.heap.objs.size 0 .none → h'.IsTupleIter s.heap.objs.size l 0 →
      (∀ b o, s.heap.get? b = some o → h'.get? b = some o) → Q (.ref (s.heap.objs.size + 1)) { s with heap := h' }) :
    wpAny (model prog w) A (call (.type "enumerate") [.ref l]) Q E s := by
  obtain ⟨⟨c, dct, dt, sl⟩, hl, hc, n, hd⟩ := hL
  obtain rfl : c = .type "tuple" := hc
  obtain rfl : dt = .seq items n := hd
  refine callType_new F.called_enumerate (by decide) (F.typeCall_enumerate_1 _) (F.newCall_enumerate_1 _)
    (fun obj => F.args_object_init_2 obj _) F.entry_enumerate_new (cs_enum_newT l items n dct sl) ⟨hl, ?_⟩
  generalize ho1 : ({ cls := .type "tuple_iterator", data := .fields #[.ref l, .int 0 0] } : Obj) = o1
  generalize ho2 : ({ cls := .type "enumerate", data := .fields #[.none, .bool false, .ref s.heap.objs.size, rawInt 0, .none, .none] } : Obj) = o2
  have f1 : o1.isFreed = false := by rw [← ho1]; rfl
  have f2 : o2.isFreed = false := by rw [← ho2]; rfl
  have z1 : (s.heap.push o1).objs.size = s.heap.objs.size + 1 := Heap.size_push ..
  have he : ((s.heap.push o1).push o2).get? (s.heap.objs.size + 1) = some o2 := by
    rw [← z1]
    exact Heap.get?_push_size _ f2
  have hi : ((s.heap.push o1).push o2).get? s.heap.objs.size = some o1 := Heap.get?_push_of_some _ (Heap.get?_push_size _ f1)
  rw [z1]
  refine ⟨⟨o2, he, by rw [← ho2]⟩, h _ ?_ ⟨o1, hi, by rw [← ho1], by rw [← ho1]; rfl⟩ fun b o x => Heap.get?_push_of_some _ (Heap.get?_push_of_some _ x)⟩
  rw [← ho2] at he ⊢
  exact he
end PySem
namespace Cs
open PySem L2 PyProof.Rows
/-- the tuple at a, each item in a new pair -/
def EtT (K : PySem.W.Frag) (a : Addr) : It :=
  ⟨fun i H => ∃ (xs : List V) (x : V), SqT K H a xs ∧ xs[i]? = some x,
    fun i H v H' => ∃ T x, v = .ref T ∧ H T = none ∧ H' = upd H T (.tup [.int (i : Nat), x]) ∧ ∀ xs, SqT K H a xs → xs[i]? = some x,
    fun i H => ∃ xs : List V, SqT K H a xs ∧ xs.length = i⟩
theorem turn_enumT {P : Program} {w : World} {K : PySem.W.Frag} {elts : List Expr} {kk : Nat} {tpos : Pos} (a e it : Addr) :
    Turn P w K (.Tuple elts kk tpos) (EtT K a) [e, it] e (fun i h => (∃ old, IsEnum h e it ((i : Nat) : Int) old) ∧ h.IsTupleIter it a i ∧ e ≠ it) where
  mem := List.mem_cons_self
  obj := fun i h st b hb => by
    obtain ⟨⟨old, he⟩, ⟨o, ho, _, hd⟩, _⟩ := st
    rcases List.mem_cons.mp hb with rfl | hb
    · exact ⟨_, he, fun v q => nomatch q⟩
    · obtain rfl : b = it := by simpa using hb
      exact ⟨o, ho, fun v q => by rw [hd] at q; cases q⟩
  keep := fun i h h' st k => by
    obtain ⟨⟨old, he⟩, hi, hne⟩ := st
    exact ⟨⟨old, k _ (by simp) _ he⟩, hi.at fun o q => k _ (by simp) o q, hne⟩
  item := by
    rintro X rfl rfl rfl hc i pins s σ H E I hf ⟨⟨old, he⟩, hit, hne⟩ ⟨xs, x, hq, hx⟩
    obtain ⟨its, rv, p, hz⟩ := I.tuple hq
    obtain ⟨u, hu, ru⟩ := rv.get hx
    have p' : s.heap.IsTuple a its.toArray := p
    have hel := Heap.lt_size he
    have hil : it < s.heap.objs.size := by
      obtain ⟨_, q, _⟩ := hit
      exact Heap.lt_size q
    have nat : a ≠ it := fun z => by
      obtain ⟨o1, q1, c1, _⟩ := p'
      obtain ⟨o2, q2, c2, _⟩ := hit
      rw [z, q2] at q1
      cases q1
      rw [c2] at c1
      exact absurd (Value.type.inj c1) (by decide)
    have nae : a ≠ e := fun z => by
      obtain ⟨o1, q1, c1, _⟩ := p'
      have he' := he
      rw [← z] at he'
      unfold IsEnum at he'
      rw [q1] at he'
      cases he'
      exact absurd (Value.type.inj c1) (by decide)
    have hh : X.A.in1.handled = none := I.ok.hd hc
    have D := Draws.tuple (prog := X.prog) (w := X.w) hh it a nat its.toArray
    have hi2 : i < its.toArray.size := by
      have q := (List.getElem?_eq_some_iff.mp hu).1
      simpa using q
    refine wpAny_pyNext_enum_itemD D he ⟨hit, p'⟩ hi2 hne (by simp [hne, Ne.symm nae]) fun y h' tk hy ho hst hT hsz hk => ?_
    have ey : y = u := by
      have q : its.toArray[i]? = some y := hy
      rw [List.getElem?_toArray, hu] at q
      exact (Option.some.inj q).symm
    subst ey
    refine ⟨_, rfl, wpAny_letOwnedTupleGo_enum (s := { s with heap := h', toks := tk + 1 }) ho fun h2 he2 sb => ?_⟩
    have ne0 : s.heap.objs.size ≠ e := Nat.ne_of_gt hel
    have hT2 : h2.get? s.heap.objs.size = some { cls := .type "tuple", data := .seq #[.int i tk, y] } := (sb.2 _ ne0).trans hT
    have new : ObjOk X.prog X.w (upd H s.heap.objs.size (.tup [.int (i : Nat), x])) h2 s.heap.objs.size (.tup [.int (i : Nat), x]) :=
      ⟨(by show 2 ≤ sizeLine; decide), [.int i tk, y], .cons ⟨_, rfl⟩ (.cons ru .nil), _, hT2, rfl, _, rfl⟩
    have kk2 : ∀ b ob, b ∉ [e, it] → s.heap.get? b = some ob → h2.get? b = some ob := fun b ob hb q => by
      have b1 : b ≠ e := fun z => hb (by simp [z])
      have b2 : b ≠ it := fun z => hb (by simp [z])
      exact (sb.2 b b1).trans (hk b ob b1 b2 q)
    have J := I.turnedNew (t' := tk + 1) (ch := [e, it]) kk2 hf (Nat.le_refl _) new
    refine ⟨.ref s.heap.objs.size, _, J, rfl, ⟨_, x, rfl, I.hok.fresh (Nat.le_refl _), rfl, fun ys hy2 => ?_⟩, ⟨⟨y, ?_⟩, hst.1.at fun o q => (sb.2 it (Ne.symm hne)).trans q, hne⟩, fun b hb => ?_⟩
    · rw [I.tuple_inj hy2 hq]
      exact hx
    · have e1 : ((i + 1 : Nat) : Int) = (i : Int) + 1 := by omega
      rw [e1]
      exact he2
    · have hb' : b < s.heap.objs.size := by
        rcases List.mem_cons.mp hb with rfl | hb
        · exact hel
        · obtain rfl : b = it := by simpa using hb
          exact hil
      rw [upd_ne (Nat.ne_of_lt hb')]
      exact (hf b hb).1
  done := by
    rintro X rfl rfl rfl hc i pins s σ H E I hf ⟨⟨old, he⟩, hit, hne⟩ ⟨xs, hq, hx⟩
    obtain ⟨its, rv, p, hz⟩ := I.tuple hq
    have p' : s.heap.IsTuple a its.toArray := p
    have nat : a ≠ it := fun z => by
      obtain ⟨o1, q1, c1, _⟩ := p'
      obtain ⟨o2, q2, c2, _⟩ := hit
      rw [z, q2] at q1
      cases q1
      rw [c2] at c1
      exact absurd (Value.type.inj c1) (by decide)
    have D := Draws.tuple (prog := X.prog) (w := X.w) (A := X.A.in1) (I.ok.hd hc) it a nat its.toArray
    have ei : i = its.toArray.size := by
      have q := rv.length
      simp
      omega
    obtain ⟨f0, f1, f2, f3, f4, f5⟩ := hf it (by simp)
    exact wpAny_pyNext_enum_endD D he (by rw [← ei]; exact ⟨hit, p'⟩) fun h' eb => ⟨rfl, I.turned (t' := s.toks) (fun b o hb q => eb b o hb q) f0 f1 f3 f4 f5⟩
  self := fun A i s Q E st h => let ⟨⟨_, he⟩, _⟩ := st; wpAny_pyIter_enum he h
def iEnT (K : PySem.W.Frag) (ta : TA) : TI := fun σ H R => ta σ H fun vs H1 => ∃ a, vs = [.ref a] ∧ (∃ xs, SqT K H1 a xs) ∧ R (EtT K a) H1
theorem pi_enumT {X : Cx} {e : Expr} {ta : TA} {p pos tpos : Pos} {elts : List Expr} {kk : Nat} (hg : Gl X "enumerate") (hm : X.mg "enumerate" = none) (ha : PA X [e] ta)
    (hs : starEach [e] X.env = [(false, eval e X.env)] := by rfl) : PI X (.Tuple elts kk tpos) (.Call (.Name "enumerate" p) [e] [] pos) (iEnT X.K ta) := by
  refine ⟨fun pins s σ H R I h => ?_⟩
  refine Call_ (ld_blt I hg hm boot_enumerate (callWith_type1 (thn (ha.run pos pins s σ H _ I h) fun us s1 hh => ?_) hs rfl))
  obtain ⟨vs, H1, I1, r1, a, rfl, ⟨xs, hq⟩, q⟩ := hh
  cases r1 with
  | cons r rr =>
    cases rr
    cases r
    obtain ⟨its, rv, p1, hz⟩ := I1.tuple hq
    refine cs_call_enumT (items := its.toArray) p1 fun h' he hit hk => wpAny_pyIter_enum he ?_
    have I2 : Inv X pins σ H1 { s1 with heap := h' } := I1.kept (t' := s1.toks) hk
    refine ⟨_, [s1.heap.objs.size + 1, s1.heap.objs.size], _, _, H1, rfl, I2, turn_enumT a (s1.heap.objs.size + 1) s1.heap.objs.size, ⟨⟨.none, he⟩, hit, Nat.succ_ne_self _⟩, fun b hb => ?_, q⟩
    have hle : s1.heap.objs.size ≤ b := by
      rcases List.mem_cons.mp hb with rfl | hb
      · omega
      · obtain rfl : b = s1.heap.objs.size := by simpa using hb
        omega
    exact I1.fpOk hle (I1.hok.fresh hle)
theorem for_enumT {K : PySem.W.Frag} {a : Addr} {xs : List V} {g : TG} {tb : TS} {D : Ends} {σ : L2.St} {H : Hp} (Pv : Nat → L2.St → Hp → Prop) (h0 : Pv 0 σ H)
    (hl : ∀ i σ H, i ≤ xs.length → Pv i σ H → SqT K H a xs)
    (hs : ∀ i x T σ H, xs[i]? = some x → Pv i σ H → H T = none → g (.ref T) σ (upd H T (.tup [.int (i : Nat), x])) fun σ2 H2 => tb { D with nx := Pv (i + 1), ct := Pv (i + 1), bk := D.nx } σ2 H2)
    (hd : ∀ σ H, Pv xs.length σ H → D.nx σ H) :
    ∃ W : Nat → Nat → L2.St → Hp → Prop, (∃ m, W 0 m σ H) ∧ ∀ i m σ H, W i m σ H →
      ((EtT K a).stop i H ∧ D.nx σ H) ∨ ((EtT K a).go i H ∧ ∃ N : L2.St → Hp → Prop, (∀ σ' H', N σ' H' → ∃ m', m' < m ∧ W (i + 1) m' σ' H') ∧
        ∀ x H', (EtT K a).yld i H x H' → g x σ H' fun σ2 H2 => tb { D with nx := N, ct := N, bk := D.nx } σ2 H2) := by
  refine ⟨fun i m σ H => m + i = xs.length ∧ Pv i σ H, ⟨xs.length, rfl, h0⟩, fun i m σ H ⟨hm, p⟩ => ?_⟩
  have q := hl i σ H (by omega) p
  cases e : xs[i]? with
  | none =>
    have hi : i = xs.length := by
      have := List.getElem?_eq_none_iff.mp e
      omega
    subst hi
    exact .inl ⟨⟨xs, q, rfl⟩, hd σ H p⟩
  | some x =>
    have hi := (List.getElem?_eq_some_iff.mp e).1
    refine .inr ⟨⟨xs, x, q, e⟩, Pv (i + 1), fun σ' H' p' => ⟨m - 1, by omega, by omega, p'⟩, fun v H' ⟨T, y, hv, hT, hH, hy⟩ => ?_⟩
    subst hv hH
    have ey := hy xs q
    rw [e] at ey
    cases ey
    exact hs i x T σ H e p hT
end Cs
set_option maxHeartbeats 4000000
namespace Cs
open PySem L2 PyProof.Rows
section
variable {X : Cx} {a b c d : Expr} {ta tb tc td : TE} {pos : Pos}
def tChain3 (r r' r'' : R2) (ta tb tc td : TE) : TE := fun σ H Q => ta σ H fun x H1 => tb σ H1 fun y H2 => r x y H2 fun z H3 => ∃ k, z = .bl k ∧
  if k = true then tc σ H3 fun w H4 => r' y w H4 fun z2 H5 => ∃ k2, z2 = .bl k2 ∧ if k2 = true then td σ H5 fun u H6 => r'' w u H6 Q else Q (.bl false) H5
  else Q (.bl false) H3
theorem pe_chain3 {op op' op'' : CmpOp} {r r' r'' : R2} (ho : OpR X (compareOp op) r) (ho' : OpR X (compareOp op') r') (ho'' : OpR X (compareOp op'') r'') (ha : PE X a ta) (hb : PE X b tb) (hc : PE X c tc) (hd : PE X d td)
    (hm : lastMarks [op, op', op''] [b, c, d] = false := by with_unfolding_all rfl) : PE X (.Compare a [op, op', op''] [b, c, d] pos) (tChain3 r r' r'' ta tb tc td) := by
  refine ⟨fun pins s σ H Q I h => Compare_chain (thn (ha.run pins s σ H _ I h) fun v s1 ⟨x, H1, I1, r1, q1⟩ => chain_link (thn (hb.run pins s1 σ H1 _ I1 q1) fun u s2 ⟨y, H2, I2, r2, q2⟩ => ?_)) hm⟩
  refine thn (ho pins s2 σ H2 x y v u _ I2 r1 r2 q2) fun e s3 ⟨z, H3, I3, r3, k, ez, q3⟩ => ?_
  subst ez
  cases r3
  refine wpAny_truthy_bool ?_
  cases k with
  | false => exact ite_ff ⟨.bl false, H3, I3, rfl, q3⟩
  | true =>
    refine ite_tt (chain_link (thn (hc.run pins s3 σ H3 _ I3 q3) fun u4 s4 ⟨z4, H4, I4, r4, q4⟩ => ?_))
    refine thn (ho' pins s4 σ H4 y z4 u u4 _ I4 r2 r4 q4) fun e5 s5 ⟨z5, H5, I5, r5, k5, ez5, q5⟩ => ?_
    subst ez5
    cases r5
    refine wpAny_truthy_bool ?_
    cases k5 with
    | false => exact ite_ff ⟨.bl false, H5, I5, rfl, q5⟩
    | true => exact ite_tt (chain_last (thn (hd.run pins s5 σ H5 _ I5 q5) fun u6 s6 ⟨z6, H6, I6, r6, q6⟩ => ho'' pins s6 σ H6 z4 z6 u4 u6 Q I6 r4 r6 q6))
/-- how often a flat thing stands among flat ones -/
def rCntF (K : PySem.W.Frag) : V → List V → Hp → VK → Prop := fun x vs H Q => ∃ (p : Addr) (xs : List V) (y : V), x = .ref p ∧ vs = [y] ∧ SqL K H p xs ∧ flatV y = true ∧ xs.all flatV = true ∧ Q (.int (xs.countP fun z => eqV z y : Nat)) H
theorem cnt_eqU {x : V} : ∀ {xs : List V} {us : List Value}, Vals xs us → xs.all flatV = true → us.countP (eqU x) = xs.countP fun y => eqV y x
  | _, _, .nil, _ => rfl
  | y :: xs, u :: us, .cons r t, f => by
    rw [List.all_cons, Bool.and_eq_true] at f
    rw [List.countP_cons, List.countP_cons, eqU_of r f.1, cnt_eqU t f.2]
theorem mt_countF : MtR X "list.count" (rCntF X.K) := by
  rintro pins s σ H x vs v us Q I rx rvs ⟨p, xs, y, rfl, rfl, hq, fy, fx, q⟩
  cases rx
  obtain ⟨u, rfl, ru⟩ := rvs.one
  obtain ⟨its, rv, ⟨⟨cls, dd, data, sl⟩, n, ho, hc, _, hd⟩, _⟩ := I.list hq
  obtain rfl : cls = .type "list" := hc
  obtain rfl : data = .seq its.toArray n := hd
  refine call_meets PySem.F.slot_list_count ⟨_, ho, rfl⟩ PySem.F.entry_list_count (PySem.F.args_list_count_2 _ _)
    (SeqAt.list_countAt p its.toArray n dd sl u (eqU y)) ⟨ho, fun z hz => mem_eqAt ru fy rv fx z (by simpa using hz), .int _, H, I.tok _, ⟨s.toks, ?_⟩, q⟩
  rw [show its.toArray.toList = its from rfl, cnt_eqU rv fx]

/-! one rule for each operator, whatever kind it meets -/
end
section
variable {X : Cx}
def opAdd := (op_add (X := X)).or ((op_add_str (X := X)).or ((op_cat (X := X)).or (op_catT (X := X))))
def opMul := (op_mul (X := X)).or (op_rep (X := X))
def opLe := (op_le (X := X)).or (op_le_str (X := X))
def opLt := (op_lt (X := X)).or (op_lt_str (X := X))
def opEq (hu : X.A.units + 64 < cLine) := (op_eq (X := X)).or (op_eqD hu)
def opNe (hu : X.A.units + 64 < cLine) := (op_ne (X := X)).or (op_neD hu)
def opIn := (op_in_seq (X := X)).or (op_in_sign (X := X))
def opNotIn := (op_notIn_seq (X := X)).or (op_notIn_sign (X := X))
def call_lenA := (call_len_seq (X := X)).or (call_len_str (X := X))
def callInt := (call_int1 (X := X)).or (call_int_str (X := X))
def slAny := (sl_list (X := X)).or ((sl_tupA (X := X)).or (sl_str (X := X)))
end

/-! ### heaps -/
def ExB (p : Addr) (H H' : Hp) : Prop := ∀ b o, b ≠ p → H b = some o → H' b = some o
theorem ExB.refl (p : Addr) (H : Hp) : ExB p H H := fun _ _ _ h => h
theorem ExB.trans {p : Addr} {H H1 H2 : Hp} (a : ExB p H H1) (b : ExB p H1 H2) : ExB p H H2 := fun c o n h => b c o n (a c o n h)
theorem ExB.of {p : Addr} {H H1 : Hp} (a : Same H H1) : ExB p H H1 := fun c o _ h => a c o h
theorem ExB.new {p t : Addr} {H : Hp} {o : HO} (h : H t = none) : ExB p H (upd H t o) := fun c u _ e => by
  rw [upd_ne (ne_of_none e h)]
  exact e
theorem ExB.put {p : Addr} {H : Hp} {o : HO} : ExB p H (upd H p o) := fun c u n e => by
  rw [upd_ne n]
  exact e
theorem same_new {t : Addr} {H : Hp} {o : HO} (h : H t = none) : Same H (upd H t o) := fun c u e => by
  rw [upd_ne (ne_of_none e h)]
  exact e
theorem upd_old {H : Hp} {t a : Addr} {o u : HO} (hn : H t = none) (h : H a = some u) : upd H t o a = some u := by
  rw [upd_ne (ne_of_none h hn)]
  exact h
theorem upd_mut {H : Hp} {t a : Addr} {o u v : HO} (ht : H t = some v) (d : u ≠ v) (h : H a = some u) : upd H t o a = some u := by
  rw [upd_ne (ne_of h ht d)]
  exact h
theorem upd_new {H : Hp} {t a : Addr} {o : HO} (h : upd H t o a = none) : H a = none := by
  unfold upd at h
  split at h
  · cases h
  · exact h
theorem sz1000 {n : Nat} (h : n ≤ 1000) : n ≤ sizeLine := Nat.le_trans h (by decide)
theorem fin_b {Q : VK} {H H' : Hp} {b c : Bool} (k : ∀ H', Same H H' → Q (.bl b) H') (e : b = c) (s : Same H H') : Q (.bl c) H' := e ▸ k H' s
theorem same_tr {H H1 H2 : Hp} (b : Same H1 H2) (a : Same H H1) : Same H H2 := a.trans b
theorem same_none {H H' : Hp} {a : Addr} (s : Same H H') (h : H' a = none) : H a = none := s.free h

/-! ### data -/
theorem rd_keep {H H' : Hp} {a : Addr} {u : HO} (e : ∀ o, H a = some o → H' a = some o) (h : Rd H a u) : Rd H' a u := by
  rcases h with h | ⟨o, h⟩
  · exact .inl (e _ h)
  · exact .inr ⟨o, e _ h⟩
theorem SqT.rd {K : PySem.W.Frag} {H : Hp} {a : Addr} {xs : List V} (h : Rd H a (.tup xs)) : SqT K H a xs := .inl h
theorem Rd.back {H H' : Hp} {a : Addr} {u : HO} (s : Same H H') (h : Rd H a u) : Rd H' a u := rd_keep (fun o q => s _ o q) h
theorem Rd.same {H H' : Hp} {a : Addr} {u : HO} (h : Rd H a u) (s : Same H H') : Rd H' a u := rd_keep (fun o q => s _ o q) h
mutual
/-- v tells the data d; lists and tuples stand at addresses that H knows, none of them p -/
inductive Rp (p : Addr) (H : Hp) : V → PyData → Prop
  | non : Rp p H .non .none
  | bl (b : Bool) : Rp p H (.bl b) (.bool b)
  | int (i : Int) : Rp p H (.int i) (.int i)
  | str (x : Str) (h : x.length ≤ 1000) : Rp p H (.str x) (.str x)
  | lst {a : Addr} {xs : List V} {ds : List PyData} (n : a ≠ p) (h : H a = some (.lst xs)) (z : xs.length ≤ 1000) (r : RpA p H xs ds) : Rp p H (.ref a) (.list ds)
  | tup {a : Addr} {xs : List V} {ds : List PyData} (n : a ≠ p) (h : Rd H a (.tup xs)) (z : xs.length ≤ 1000) (r : RpA p H xs ds) : Rp p H (.ref a) (.tuple ds)
  | dct {a : Addr} (n : a ≠ p) (h : H a = some (.dK [])) : Rp p H (.ref a) (.dict [])
inductive RpA (p : Addr) (H : Hp) : List V → List PyData → Prop
  | nil : RpA p H [] []
  | cons {v : V} {vs : List V} {d : PyData} {ds : List PyData} (h : Rp p H v d) (t : RpA p H vs ds) : RpA p H (v :: vs) (d :: ds)
end
mutual
theorem Rp.keep {p : Addr} {H H' : Hp} (e : ExB p H H') : ∀ {v : V} {d : PyData}, Rp p H v d → Rp p H' v d
  | _, _, .non => .non
  | _, _, .bl b => .bl b
  | _, _, .int i => .int i
  | _, _, .str x h => .str x h
  | _, _, .lst n h z r => .lst n (e _ _ n h) z (RpA.keep e r)
  | _, _, .tup n h z r => .tup n (rd_keep (fun o q => e _ o n q) h) z (RpA.keep e r)
  | _, _, .dct n h => .dct n (e _ _ n h)
theorem RpA.keep {p : Addr} {H H' : Hp} (e : ExB p H H') : ∀ {vs : List V} {ds : List PyData}, RpA p H vs ds → RpA p H' vs ds
  | _, _, .nil => .nil
  | _, _, .cons h t => .cons (Rp.keep e h) (RpA.keep e t)
end
theorem RpA.length {p : Addr} {H : Hp} : ∀ {vs : List V} {ds : List PyData}, RpA p H vs ds → vs.length = ds.length
  | _, _, .nil => rfl
  | _, _, .cons _ t => by rw [List.length_cons, List.length_cons, RpA.length t]
theorem RpA.get {p : Addr} {H : Hp} : ∀ {vs : List V} {ds : List PyData} {i : Nat} {v : V}, RpA p H vs ds → vs[i]? = some v → ∃ d, ds[i]? = some d ∧ Rp p H v d
  | _, _, _, _, .nil, e => by simp at e
  | _, _, 0, _, .cons h _, e => by
    obtain rfl := Option.some.inj e
    exact ⟨_, rfl, h⟩
  | _, _, i + 1, v, .cons _ t, e => RpA.get (i := i) t e
theorem RpA.append {p : Addr} {H : Hp} : ∀ {vs ws : List V} {ds es : List PyData}, RpA p H vs ds → RpA p H ws es → RpA p H (vs ++ ws) (ds ++ es)
  | _, _, _, _, .nil, s => s
  | _, _, _, _, .cons h t, s => .cons h (RpA.append t s)
/-- the built-in class of data -/
def tyD : PyData → String
  | .none => "NoneType" | .bool _ => "bool" | .int _ => "int" | .str _ => "str" | .list _ => "list" | .tuple _ => "tuple" | .dict _ => "dict"
theorem Rp.ty {K : PySem.W.Frag} {p : Addr} {H : Hp} {v : V} {d : PyData} (r : Rp p H v d) : TyX K H v (.type (tyD d)) := by
  cases r with
  | non => exact .base .non
  | bl b => exact .base (.bl b)
  | int i => exact .base (.int i)
  | str x => exact .base (.str x)
  | lst n h z r => exact .base (.lst h)
  | tup n h z r =>
    rcases h with h | ⟨o, h⟩
    · exact .base (.tup h)
    · exact .fTuple h
  | dct n h => exact .base (.dK h)
def isInt : PyData → Bool
  | .int _ => true
  | _ => false
def isBl : PyData → Bool
  | .bool _ => true
  | _ => false
def isStr : PyData → Bool
  | .str _ => true
  | _ => false
def isTup : PyData → Bool
  | .tuple _ => true
  | _ => false
theorem kit_int {K : PySem.W.Frag} {d : PyData} : PySem.W.kitOne K (.type (tyD d)) (.type "int") = some (isInt d || isBl d) := by cases d <;> exact kit_ty (by show L2.kitB _ _ = some _; simp only [tyD, isInt, isBl]; decide +kernel)
theorem kit_bool {K : PySem.W.Frag} {d : PyData} : PySem.W.kitOne K (.type (tyD d)) (.type "bool") = some (isBl d) := by cases d <;> exact kit_ty (by simp only [tyD, isBl]; decide +kernel)
theorem kit_str {K : PySem.W.Frag} {d : PyData} : PySem.W.kitOne K (.type (tyD d)) (.type "str") = some (isStr d) := by cases d <;> exact kit_ty (by simp only [tyD, isStr]; decide +kernel)
theorem kit_tup {K : PySem.W.Frag} {d : PyData} : PySem.W.kitOne K (.type (tyD d)) (.type "tuple") = some (isTup d) := by cases d <;> exact kit_ty (by simp only [tyD, isTup]; decide +kernel)
def isTupN (n : Nat) : PyData → Bool
  | .tuple ds => decide (ds.length = n)
  | _ => false
def isPair : PyData → Bool
  | .tuple [a, b] => isInt a && isInt b
  | _ => false
def letterC (c : Nat) : Bool := decide (97 ≤ c) && decide (c ≤ 122)
def isName : PyData → Bool
  | .str x => (decide (1 ≤ x.length) && decide (x.length ≤ 8)) && x.cps.toList.all letterC
  | _ => false
def isSpan (lo hi : Int) : PyData → Bool
  | .tuple [.int a, .int b] => decide (lo ≤ a) && (decide (a ≤ b) && decide (b ≤ hi))
  | _ => false
def isRow (n : Nat) : PyData → Bool
  | .tuple [nm, .tuple ss] => isName nm && (decide (ss.length = n) && ss.all (isSpan (-10000) 10000))
  | _ => false
def SpTN : Sp := fun vs H Q _ => ∃ p v d n, vs = [v, .int ((n : Nat) : Int)] ∧ Rp p H v d ∧ ∀ H', Same H H' → Q (.bl (isTupN n d)) H'
def SpSpan : Sp := fun vs H Q _ => ∃ p v d lo hi, vs = [v, .int lo, .int hi] ∧ Rp p H v d ∧ ∀ H', Same H H' → Q (.bl (isSpan lo hi d)) H'
def SpRow : Sp := fun vs H Q _ => ∃ p v d n, vs = [v, .int ((n : Nat) : Int)] ∧ Rp p H v d ∧ ∀ H', Same H H' → Q (.bl (isRow n d)) H'
theorem isPair_not {d : PyData} (h : isPair d = false) (lo hi : Int) : isSpan lo hi d = false := by
  unfold isSpan
  split
  · simp [isPair, isInt] at h
  · rfl
theorem vint_eq {a b : Nat} : decide (V.int ((a : Nat) : Int) = V.int ((b : Nat) : Int)) = decide (a = b) := by
  by_cases h : a = b
  · subst h
    rw [decide_eq_true rfl, decide_eq_true rfl]
  · rw [decide_eq_false h, decide_eq_false fun e => h (by injection e with e; omega)]
theorem one_lt {a b : Nat} : (([a] : List Nat) < [b]) ↔ a < b := by
  rw [List.cons_lt_cons_iff]
  constructor
  · rintro (h | ⟨_, h⟩)
    · exact h
    · exact absurd h (List.not_lt_nil _)
  · exact .inl
theorem letter_lo (c : Nat) : (!decide (([c] : List Nat) < [97])) = decide (97 ≤ c) := by
  rw [decide_eq_decide.mpr one_lt]
  by_cases h : 97 ≤ c
  · rw [decide_eq_true h, decide_eq_false (by omega)]; rfl
  · rw [decide_eq_false h, decide_eq_true (by omega)]; rfl
theorem letter_hi (c : Nat) : (!decide (([122] : List Nat) < [c])) = decide (c ≤ 122) := by
  rw [decide_eq_decide.mpr one_lt]
  by_cases h : c ≤ 122
  · rw [decide_eq_true h, decide_eq_false (by omega)]; rfl
  · rw [decide_eq_false h, decide_eq_true (by omega)]; rfl
/-- a value that is just given back -/
def SpB (f : PyData → Bool) : Sp := fun vs H Q _ => ∃ p v d, vs = [v] ∧ Rp p H v d ∧ ∀ H', Same H H' → Q (.bl (f d)) H'

/-! ### comprehensions that keep what there was -/
section
variable {K : PySem.W.Frag} {a : Addr} {te : TE} {vs : List Nat} {σ : L2.St} {H1 : Hp} {Q : VK} {g : TG} {tl : TE}
theorem lc_txt {x : Str} {ys : List V} (hl : ys.length = x.cps.size) (hz : x.length ≤ 1000) (ht : ∀ R : VK, R (.str x) H1 → tl σ H1 R)
    (hs : ∀ (j : Nat) (c : Nat) (y : V) (H : Hp), x.cps[j]? = some c → ys[j]? = some y → Same H1 H → ∀ R : VK, (∀ H3, Same H H3 → R y H3) →
      g (.str ⟨#[c]⟩) (wipe σ vs) H fun σ2 H2 => wipe σ2 vs = wipe σ vs ∧ te σ2 H2 R)
    (k : ∀ D H', H1 D = none → Same H1 H' → H' D = some (.lst ys) → Q (.ref D) H') : tLc (iStr tl) g tYes te vs σ H1 Q := by
  refine ht _ ⟨x, rfl, fun D hD => ?_⟩
  refine ⟨fun i m H => m + i = x.cps.size ∧ Same H1 H ∧ H D = some (.lst (ys.take i)), ⟨x.cps.size, rfl, same_new hD, upd_same⟩, fun i m H ⟨hm, sm, hd⟩ => ?_⟩
  by_cases hi : i < x.cps.size
  · refine .inr ⟨hi, fun H' => Same H1 H' ∧ H' D = some (.lst (ys.take (i + 1))), fun H' ⟨s', d'⟩ => ⟨m - 1, by omega, by omega, s', d'⟩, fun v H' ⟨e1, c, e2, e3⟩ => ?_⟩
    subst e1 e3
    have hy : i < ys.length := by omega
    have key := hs i c ys[i] H' e2 (List.getElem?_eq_getElem hy) sm (fun y H4 => ∃ acc, H4 D = some (.lst acc) ∧ acc.length < sizeLine ∧ Same H1 (upd H4 D (.lst (acc ++ [y]))) ∧ upd H4 D (.lst (acc ++ [y])) D = some (.lst (ys.take (i + 1)))) fun H3 s3 => ?_
    · exact key
    · refine ⟨ys.take i, s3 _ _ hd, ?_, fun b o e => ?_, ?_⟩
      · have q : x.length = x.cps.size := rfl
        rw [List.length_take]
        exact Nat.lt_of_le_of_lt (Nat.le_trans (Nat.min_le_right _ _) (by omega : ys.length ≤ 1000)) (by decide)
      · rw [upd_ne (ne_of_none e hD)]
        exact s3 _ _ (sm _ _ e)
      · rw [upd_same, List.take_succ, List.getElem?_eq_getElem hy]
        rfl
  · have e : i = x.cps.size := by omega
    subst e
    refine .inl ⟨Nat.le_refl _, k D H hD sm ?_⟩
    rw [hd, List.take_of_length_le (by omega)]
theorem lc_tupM {xs ys : List V} (hx : SqT K H1 a xs) (hl : ys.length = xs.length) (hz : xs.length ≤ 1000) (ht : ∀ R : VK, R (.ref a) H1 → tl σ H1 R)
    (hs : ∀ (j : Nat) (z y : V) (H : Hp), xs[j]? = some z → ys[j]? = some y → Same H1 H → ∀ R : VK, (∀ H3, Same H H3 → R y H3) →
      g z (wipe σ vs) H fun σ2 H2 => wipe σ2 vs = wipe σ vs ∧ te σ2 H2 R)
    (k : ∀ D H', H1 D = none → Same H1 H' → H' D = some (.lst ys) → Q (.ref D) H') : tLc (iTup K tl) g tYes te vs σ H1 Q := by
  have hT : ∀ {H}, Same H1 H → SqT K H a xs := fun {H} e => by
    rcases hx with (h | ⟨o, h⟩) | h
    · exact .inl (.inl (e _ _ h))
    · exact .inl (.inr ⟨o, e _ _ h⟩)
    · exact .inr h
  refine ht _ ⟨a, rfl, ⟨xs, hx⟩, fun D hD => ?_⟩
  refine lc_tup (K := K) (a := a) (xs := xs) (fun i H => Same H1 H ∧ H D = some (.lst (ys.take i))) ⟨same_new hD, upd_same⟩ (fun i H _ p => hT p.1) (fun i z H hi ⟨sm, hd⟩ => ?_) (fun H ⟨sm, hd⟩ => k D H hD sm ?_)
  · have hi2 := (List.getElem?_eq_some_iff.mp hi).1
    have hy : i < ys.length := by omega
    have key := hs i z ys[i] H hi (List.getElem?_eq_getElem hy) sm (fun y H4 => ∃ acc, H4 D = some (.lst acc) ∧ acc.length < sizeLine ∧ Same H1 (upd H4 D (.lst (acc ++ [y]))) ∧ upd H4 D (.lst (acc ++ [y])) D = some (.lst (ys.take (i + 1)))) fun H3 s3 => ?_
    · exact key
    · refine ⟨ys.take i, s3 _ _ hd, ?_, fun b o e => ?_, ?_⟩
      · rw [List.length_take]
        exact Nat.lt_of_le_of_lt (Nat.le_trans (Nat.min_le_right _ _) (by omega : ys.length ≤ 1000)) (by decide)
      · rw [upd_ne (ne_of_none e hD)]
        exact s3 _ _ (sm _ _ e)
      · rw [upd_same, List.take_succ, List.getElem?_eq_getElem hy]
        rfl
  · rw [hd, List.take_of_length_le (by omega)]
end
end Cs
set_option maxHeartbeats 4000000
/-! Rules of my own: isinstance and fields of a caught error that keeps something, also in a def called in the suite; three classes in one except. -/
namespace Cs
open PySem L2 PyProof.Rows
open PySem.W (KitX InstAt)
theorem cs_check {M : Model} {A : Around} {E : Value → Shared → Prop} {s : Shared} {self u : Value} {i o n : String} {Q : Unit → Shared → Prop} (k2 : builtinKind i = some Manifest.AttrKind.slot)
    (k3 : splitId i = some (o, n)) (sub : PySem.W.Looks M s.heap (isInstance self (.type o)) true) (ao : argsOk i ⟨[self, u], []⟩) (q : Q () s) : wpAny M A (checkBuiltinCall i ⟨[self, u], []⟩) Q E s :=
  PySem.W.check_slot k2 k3 sub ao q
theorem cs_classX {prog : Program} {w : World} {A : Around} {E : Value → Shared → Prop} {s : Shared} {K : PySem.W.Frag} {x D : Addr} {ox od : Obj} {Q : Option Value → Shared → Prop} (C : ExcC K D)
    (X : K.In s.heap) (I : InstAt s.heap x ox D (some od)) (h : Q (some (.ref D)) { s with toks := s.toks + 1 }) : wpAny (model prog w) A (getAttr? (.ref x) "__class__") Q E s := by
  have hf : PySem.W.findObj K D (some od) "__class__" = _ := PySem.W.findObj_data (by
    obtain ⟨cd, hc, _⟩ := PySem.W.any_some C.hd
    rw [hc]; rfl) C.ha C.hn C.ht
  obtain ⟨hp, g, d, t, os⟩ := s
  have L0 := fun M => InstAt.type (M := M) I
  have L1 := fun M => PySem.W.looks_findIn (M := M) X C.hg
  have L2 := fun M => PySem.W.looks_findIn (M := M) X C.hk
  have L3 := fun M => PySem.W.looks_find (M := M) X I hf
  have sub : PySem.W.Looks (model prog w) hp (isInstance (.ref x) (.type "BaseException")) true := PySem.W.Looks.andThen (L0 (model prog w)) (PySem.W.looks_subIn X C.hs)
  refine wpAny_bind (wpAny_mkText ?_)
  refine wpAny_bind (wpAny_attempt (wpAny_holding (wpAny_bind ((L0 _).at (wpAny_bind ((L1 _).at ?_))))))
  have hx1 : (onTheHeap (.ref D) && (Value.builtin "BaseException.__getattribute__" == Value.builtin "object.__getattribute__")) = false := by
    rw [PySem.W.kin_classE._proof_1, Bool.and_false]
  dsimp only
  rw [hx1, if_neg Bool.false_ne_true]
  refine wpAny_bind ?_
  unfold hookBefore
  rw [if_pos (by rfl)]
  refine (L2 _).at (wpAny_bind (wpAny_attempt (wpAny_holding ?_)))
  dsimp only [Option.toList]
  unfold callGetattribute
  rw [if_neg (by decide)]
  unfold boundAndCalled
  refine wpAny_bind ?_
  rw [F.excAttr_ValueError.ga.bind (.ref x)]
  refine wpAny_pure ?_
  refine wpAny_call ?_
  refine codeAny_call_builtin F.excAttr_ValueError.ga.plain F.entry_bexc_ga ?_
  dsimp only [List.cons_append, List.nil_append]
  have ao := F.args_bexc_ga (.ref x) (.str "__class__" t)
  have z := fun Q E => @cs_check (model prog w) A.in1 E ⟨hp, g, d, t + 1, os⟩ (.ref x) (.str "__class__" t) _ _ _ Q PySem.W.kin_classE._proof_2 PySem.W.kin_classE._proof_3 sub ao
  refine z _ _ ?_
  refine wpAny_bind (wpAny_of_eq (Eq.refl (slotArgs "__getattribute__" 1 ⟨[.ref x, .str "__class__" t], []⟩)) (wpAny_bind (wpAny_pure ?_)))
  refine wpAny_bind ((L0 _).at ?_)
  refine wpAny_bind ((L3 _).at ?_)
  refine wpAny_bind (wpAny_holding ?_)
  refine wpAny_call (PySem.W.class_get X I C.hm (wpAny_pure ?_))
  dsimp only
  rw [PySem.W.handedOut_of rfl]
  exact wpAny_pure (wpAny_pure h)
theorem cs_cls {K : PySem.W.Frag} {D : Addr} (h : PySem.W.hasDictIn K D = true) : ∃ cls dict cd sl, K.lookup D = some ⟨cls, dict, .cls cd, sl⟩ := by
  obtain ⟨cd, hc, _⟩ := PySem.W.any_some h
  unfold PySem.W.clsIn at hc
  split at hc
  · rename_i e
    exact ⟨_, _, _, _, e⟩
  · cases hc
theorem cs_kitx {K : PySem.W.Frag} {x D : Addr} {ox od : Obj} (C : ExcC K D) : KitX K (.ref x) (.ref D) fun h => InstAt h x ox D (some od) := by
  obtain ⟨cls, dict, cd, sl, e⟩ := cs_cls C.hd
  refine ⟨fun M h X I => I.type, fun M h X _ A Q E s k q => ?_, fun h tp dd its n sl' X ht => ?_, fun X I q => cs_classX C X I q⟩
  · exact wpAny_bind (wpAny_loadPart (k D _ (X D _ e)) (wpAny_pure q))
  · refine Bool.eq_false_iff.mpr fun q => ?_
    have e1 := Value.ref.inj (beq_iff_eq.mp q)
    subst e1
    rw [X D _ e] at ht
    cases ht
/-- a caught error of the class C, whose own dict stands at dd, is pinned at a -/
def ExPin (X : Cx) (a C dd : Addr) : Prop := ∃ oe, (a, oe) ∈ X.pn ∧ Zc (.ref C) (some dd) oe ∧ ∃ vs, oe.data = .fields vs
theorem ExPin.inst {X : Cx} {a C dd : Addr} (P : ExPin X a C dd) {pins : List (Addr × Obj)} {s : Shared} {σ : L2.St} {H : Hp} (I : L2.Inv X pins σ H s) {fs : List (Str × V)} (h : H dd = some (.xd fs)) :
    ∃ ox od, InstAt s.heap a ox C (some od) ∧ ∀ f v, fs.lookup f = some v → ∃ u, PySem.W.lookIn f od = some (some u) ∧ RelV v u := by
  obtain ⟨oe, hm, ⟨hc, hd⟩, vs, hv⟩ := P
  obtain ⟨hg, _⟩ := I.pin (a, oe) (List.mem_append_left pins hm)
  obtain ⟨mA, hns, hr⟩ := I.hok dd _ h
  obtain ⟨od, ho, hl⟩ := lookIn_ns hns
  refine ⟨oe, od, ⟨hg, hc, ?_, ?_⟩, fun f v hf => ?_⟩
  · unfold PySem.W.notCls
    rw [hv]
  · rw [hd]
    exact ho
  · have r := hr f
    rw [hf] at r
    obtain ⟨u, e, ru⟩ := RelO.some_of r
    exact ⟨u, by rw [hl f, e], ru⟩
section
variable {X : Cx} {a C dd : Addr}
def rIsX (K : PySem.W.Frag) (C a dd : Addr) : List V → Hp → VK → Prop := fun xs H Q => ∃ (c : V) (cv : Value) (b : Bool) (fs : List (Str × V)), xs = [.ref a, c] ∧ ClsV c cv ∧ H dd = some (.xd fs) ∧ PySem.W.kitOne K (.ref C) cv = some b ∧ Q (.bl b) H
theorem call_isX (P : ExPin X a C dd) (T : ExcC X.K C) : CallR X (.builtin "isinstance") (rIsX X.K C a dd) := by
  rintro pins s σ H xs us Q I r ⟨c, cv, b, fs, rfl, hc, hd, e, q⟩
  obtain ⟨ox, od, i, _⟩ := P.inst I hd
  obtain ⟨u1, u2, rfl, r1, r2⟩ := vals2 r
  have e2 := hc.eq r2
  subst e2
  cases r1
  exact PySem.W.kia_one (cs_kitx T) I.kIn i e (by intro z; cases z) fun tk => ⟨.bl b, H, I.tok tk, rfl, q⟩
def tXfX (a dd : Addr) (f : Str) (te : TE) : TE := fun σ H Q => te σ H fun x H1 => x = .ref a ∧ ∃ (fs : List (Str × V)) (v : V), H1 dd = some (.xd fs) ∧ fs.lookup f = some v ∧ Q v H1
theorem pe_xfX {e : Expr} {te : TE} {pos : Pos} {n : Str} (P : ExPin X a C dd) (T : XfC X.K C) (hno : PySem.W.findIn X.K (.ref C) n = some none) (he : PE X e te)
    (hb : attributeBase e n X.env (eval e X.env) = eval e X.env := by rfl) : PE X (.Attribute e n pos) (tXfX a dd n te) := by
  refine ⟨fun pins s σ H Q I h => attr_of hb (thn (he.run pins s σ H _ I h) ?_)⟩
  rintro u s1 ⟨x, H1, I1, rx, rfl, fs, v, hd, hf, q⟩
  cases rx
  obtain ⟨ox, od, i, k⟩ := P.inst I1 hd
  obtain ⟨u, hl, ru⟩ := k n v hf
  exact PySem.HandSPX.exc_get I1.kIn i T.ga T.gg T.exC (PySem.W.findObj_own T.hdC hno rfl hl) (handed_of ru) ⟨v, H1, I1.tok _, ru, q⟩
end
end Cs
set_option maxHeartbeats 4000000
/-! A def called in an except suite with the caught error: its promise may speak of the error. Three classes in one except. -/
namespace Cs
open PySem L2 L2H PyProof.Rows
structure FnE (P : Program) (w : World) (K : PySem.W.Frag) (mg : Str → Option Value) (base : Heap) (k : Nat) (f : Addr) (fd : FuncData) (ps : List Str) (sp : Addr × Obj → Sp) : Prop where
  len : ∀ p vs H Q E, sp p vs H Q E → vs.length = ps.length
  run : ∀ (A : Around) (outer : List Env) (s : Shared) (H : Hp) (args : Args) (us : List Value) (vs : List V) (Q : VK) (E : XK) (p : Addr × Obj),
    RoomH k A → PinOk outer H s p → Env0 P w K mg base A outer s H → BindsTo s fd args (ps.zip us) → Vals vs us → sp p vs H Q E → codeAny (model P w) A (.call (.ref f) args) (CR CX0 outer P w H s Q E) s
theorem fn_ofE {P : Program} {w : World} {K : PySem.W.Frag} {mg : Str → Option Value} {base : Heap} {k : Nat} {f : Addr} {name qual : Str} {params : Arguments} {body : List Stmt} {scope : Scope}
    {dV kV doc pm cdv ct oc : Value} {an od : Option Addr} {osl : Array (Option Value)} {N ps : List Str} {sp : Addr × Obj → Sp}
    (lk : K.lookup f = some ⟨oc, od, .func (PySem.W.fnOf name qual params body scope dV kV doc pm an cdv ct), osl⟩) (hcd : PySem.W.codeIn K cdv qual = true) (S : FnScope N ps scope)
    (len : ∀ p vs H Q E, sp p vs H Q E → vs.length = ps.length)
    (hbody : ∀ (A : Around) (outer : List Env) (s : Shared) (H : Hp) (vs : List V) (Q : VK) (E : XK) (p : Addr × Obj), RoomH k (A.deeper (envOfC qual scope s.heap.objs.size f cdv)) → sp p vs H Q E →
      ∃ t, PSs (cxH CX0 P w K mg base N qual scope f cdv A outer s H E p) body t ∧ t { nx := fun _ H' => Q .non H', rt := Q } (L2.start N vs) H) :
    FnE P w K mg base (k + 1) f (PySem.W.fnOf name qual params body scope dV kV doc pm an cdv ct) ps sp := by
  refine ⟨len, fun A outer s H args us vs Q E p hr hpin e0 hb r hsp => ?_⟩
  have hl := len p vs H Q E hsp
  have KX := PySem.W.Frag.In.keeps e0.mod.kin fun b o e => (e0.bs b o e).1
  have lim := Heap.NoLimit.keeps e0.mod.nolimit fun b o e => (e0.bs b o e).1
  refine codeAny_call_function hr.depth (KX f _ lk) rfl S.co S.gen rfl (PySem.W.codeRec_of KX hcd) ?_
  refine hb (model P w) A.in1 _ _ ?_
  refine wpAny_newFunctionEnv_cells S.kind (fun y hy => ?_) fun env he s1 x => ?_
  · obtain ⟨n, v⟩ := y
    rcases S.par n (List.of_mem_zip hy).1 with q | q
    · exact .inl q
    · exact .inr ⟨q, PySem.W.cellsFrom_some scope.names (s.heap.objs.size + 1) [] (.inl q)⟩
  · subst he
    refine ⟨lim.keeps x.toInCall.keep, codeAny_func ?_⟩
    obtain ⟨t, ht, hq⟩ := hbody A outer s H vs Q E p (hr.deeper _) hsp
    have I := inv_startH (CX := CX0) (w := w) (E := E) S hpin e0 hl r x
    refine wpAny_mono (ht.run [] s1 (L2.start N vs) H _ I hq) (fun fl s' hs => ?_) (fun e s' hs => hs)
    cases fl with
    | next =>
      obtain ⟨σ', H', J, q⟩ := hs
      exact ⟨V.non, H', J.os, J.bare, J.base, J.hok, rfl, q⟩
    | brk =>
      obtain ⟨_, _, _, q⟩ := hs
      exact q.elim
    | cont =>
      obtain ⟨_, _, _, q⟩ := hs
      exact q.elim
    | ret u =>
      obtain ⟨v, σ', H', J, rv, q⟩ := hs
      exact ⟨v, H', J.os, J.bare, J.base, J.hok, rv, q⟩
section
variable {X : Cx}
theorem pe_callE {k : Nat} {f : Addr} {fd : FuncData} {ps : List Str} {sp : Addr × Obj → Sp} {x : Str} {q pos : Pos} {e : Expr} {es : List Expr} {t : TA} {p : Addr × Obj}
    (F : FnE X.prog X.w X.K X.mg X.base k f fd ps sp) (hr : RoomH k X.A) (hp : p ∈ X.pn) (hg : Gl X x) (hm : X.mg x = some (.ref f)) (hk : PySem.W.keepIn X.K (.ref f) = true) (hb : Binds X.K fd ps [])
    (ha : PA X (e :: es) t) (hdb : (x == ("__debug__" : Str)) = false := by rfl) (he : starEach (e :: es) X.env = (false, eval e X.env) :: starEach es X.env := by rfl)
    (hpl : ((backTo pos (starEach es X.env)).any fun x => x.1) = false := by rfl) : PE X (.Call (.Name x q) (e :: es) [] pos) (fun σ H Q => t σ H fun vs H1 => sp p vs H1 Q fun _ _ _ => False) := by
  refine ⟨fun pins s σ H Q I h => wpAny_Call_Name_kw (ld_glob I hg hm (PySem.W.callWith_K I.ok.mod.kin hk (thn (ha.run pos pins s σ H _ I h) ?_) he hpl) hdb)⟩
  rintro us s1 ⟨vs, H1, I1, r, q1⟩
  refine ⟨I1.kIn, ?_⟩
  have hl : us.length = ps.length := by
    rw [← r.length]
    exact F.len p vs H1 Q _ q1
  have b := hb s1 us I1.kIn (by rw [List.append_nil]; exact hl)
  have P1 := I1.pin p (List.mem_append_left pins hp)
  have hpin : PinOk X.stack H1 s1 p := ⟨P1.1, P1.2.1, fun hm => (List.mem_cons.mp (I1.stkSub p.1 hm)).elim P1.2.2.1 P1.2.2.2.1, P1.2.2.2.2⟩
  rw [List.append_nil] at b
  refine wpAny_call (codeAny_mono (F.run X.A X.stack s1 H1 ⟨us, []⟩ us vs Q _ p hr hpin I1.env0 b r q1) fun rr s' hq => ?_)
  cases rr with
  | error e => exact hq.elim
  | ok fl =>
    cases fl with
    | next => exact hq.elim
    | brk => exact hq.elim
    | cont => exact hq.elim
    | ret u => exact I1.after hq
end
theorem funFrames_keep {h h' base : Heap} (k : ∀ b o, h.get? b = some o → h'.get? b = some o) : ∀ {l : List Env}, h.FunFrames base l → h'.FunFrames base l
  | [], f => f
  | e :: l, f => by
    unfold Heap.FunFrames at f ⊢
    obtain ⟨f1, ⟨L, o, e1, e2, e3, e4⟩, f3⟩ := f
    exact ⟨f1, ⟨L, o, e1, e2, k _ _ e3, e4⟩, funFrames_keep k f3⟩
theorem flying_keep {base h h' : Heap} {l : List Env} {e : Addr} {Z : Obj → Prop} (F : HandSPX.FlyingZ base l e Z h) (k : ∀ b o, h.get? b = some o → h'.get? b = some o) : HandSPX.FlyingZ base l e Z h' := by
  obtain ⟨f1, f2, f3, oe, vs, T, oT, ts, g1, g2, g3, g4, g5, g6, g7, g8, g9⟩ := F
  exact ⟨fun b o q => k _ _ (f1 b o q), f2, funFrames_keep k f3, oe, vs, T, oT, ts, k _ _ g1, g2, g3, g4, g5, g6, k _ _ g7, g8, g9⟩
theorem upTo_keep {h h' : Heap} (k : ∀ b o, h.get? b = some o → h'.get? b = some o) : h.UpToSlots h' := fun b o e _ => ⟨o.slots, k b o e⟩
def wAs3 (K : PySem.W.Frag) (cs : List Value) (m i : Nat) (ts : Addr → Value → Option Addr → TS) (D : Ends) : WX := fun cls d σ H => σ.length = m → PySem.W.exmAny K cls cs = some true ∧ ∀ a, H a = none →
  ts a cls d { nx := fun σ' H' => D.nx (σ'.set i none) H', rt := D.rt, bk := fun σ' H' => D.bk (σ'.set i none) H', ct := fun σ' H' => D.ct (σ'.set i none) H' } (σ.set i (some (.ref a))) H
theorem name_ok {X : Cx} {x : Str} {c : Value} (hc : Names X x c) {a : Addr} {pn : List (Addr × Obj)} {pins : List (Addr × Obj)} {s : Shared} {σ : L2.St} {H : Hp} (I : L2.Inv (X.suite a pn) pins σ H s)
    {p : Pos} {Q : Value → Shared → Prop} {E : Value → Shared → Prop} (q : Q c s) : wpAny (model X.prog X.w) (X.A.mark (some (.ref a))) (eval (.Name x p) X.env) Q E s := by
  obtain ⟨hg, hd, hm | ⟨hm, hv, hn⟩⟩ := hc
  · exact ld_glob I hg hm q hd
  · exact ld_blt I hg hm hv q hn hd
theorem ps_try_as3 {X : Cx} {x1 x2 x3 n : Str} {c1 c2 c3 : Value} {i : Nat} {body suite : List Stmt} {b₀ : Stmt} {p1 p2 p3 tp pos pos' : Pos} {kk m : Nat} {tb : WX → TS} {ts : Addr → Value → Option Addr → TS}
    (hs : X.stack = X.env :: X.outer) (hf : X.env.frame = some X.env.locals) (hN : X.N.Nodup) (hi : X.N[i]? = some n) (hln : X.env.kindOf n = some .local)
    (hm : X.N.length = m) (hc1 : Names X x1 c1) (hc2 : Names X x2 c2) (hc3 : Names X x3 c3)
    (hb : ∀ (W : WX) (pn : List (Addr × Obj)) (xe : Value → Shared → Prop), Takes (X.tr pn xe) W → PassesOwn (model X.prog X.w) X.A X.env xe → PSs (X.tr pn xe) body (tb W))
    (hsu : ∀ (a : Addr) (oe : Obj) (cls : Value) (d : Option Addr) (pn : List (Addr × Obj)), Zc cls d oe → (∃ vs, oe.data = .fields vs) → PSs (X.suite a ((a, oe) :: pn)) (b₀ :: suite) (ts a cls d)) :
    PS X (.Try body [.ExceptHandler (some (.Tuple [.Name x1 p1, .Name x2 p2, .Name x3 p3] kk tp)) (some n) (b₀ :: suite) pos'] [] [] pos) (fun D σ H => tb (wAs3 X.K [c1, c2, c3] m i ts D) D σ H) := by
  refine ⟨fun pins s σ H D I h => ?_⟩
  have ok := I.ok
  have hfr : X.A.frames = some (X.env :: X.outer) := by rw [ok.frames, hs]
  refine wpAny_Try_except (wpAny_mono ((hb (wAs3 X.K [c1, c2, c3] m i ts D) (X.pn ++ pins) _ ?_ PassesOwn.looking).run [] s σ H D (I.toTry _) h) (fun f s1 hsp => ?_) (fun e s1 he => he))
  · rintro u s' ⟨a, B, sI, pins', σ', H', cls, d, rfl, J', nb, up, sky, na, os, ag, hW⟩
    obtain ⟨hb1, hyes⟩ := hW (J'.len.trans hm)
    have J := J'.ofTry ok
    have sky' : L2.Sky B (X.env :: X.outer) a (Zc cls d) X.env.locals s'.heap := by
      rw [← hs]
      exact sky
    refine L2.Sky.land Zc.steady hfr hf sky' fun h3 fl3 up3 => ?_
    have J3 : L2.Inv X pins σ' H' { s' with heap := h3 } := J.landed nb fl3.1 (up.trans up3) os ag
    obtain ⟨oe3, vs3, he3, hz3, hd3⟩ := fl3.there
    have nfr : a ∉ frs (X.env :: X.outer) := fun hm => by
      obtain ⟨_, o', e', hnf⟩ := Heap.FunFrames.mem fl3.2.2.1 hm
      have e2 := e'.symm.trans he3
      cases e2
      exact hnf vs3 hd3
    have nL : a ≠ X.env.locals := fun z => nfr (List.mem_filterMap.mpr ⟨X.env, List.mem_cons_self, by rw [hf, z]⟩)
    have nF : a ∉ X.fs := fun hm => by
      obtain ⟨e, he, q⟩ := List.mem_filterMap.mp hm
      exact nfr (List.mem_filterMap.mpr ⟨e, List.mem_cons_of_mem _ he, q⟩)
    have S3 := J3.suite he3 hd3 na nL nF
    refine wpAny_handleBy_cons (codeAny_handlers_test ?_) (by intro q; cases q)
    refine wpAny_Tuple ?_
    refine Calls.spliced_cons (name_ok hc1 S3 (Calls.spliced_cons (name_ok hc2 S3 (Calls.spliced_cons (name_ok hc3 S3 (Calls.spliced_nil ?_))))))
    refine ⟨(by show 3 ≤ sizeLine; decide), ?_⟩
    have kp : ∀ b o, h3.get? b = some o → (h3.push { cls := .type "tuple", data := .seq #[c1, c2, c3] }).get? b = some o := fun b o e => Heap.get?_push_of_some _ e
    have fl5 := flying_keep fl3 kp
    have up5 := upTo_keep kp
    have LT : PySem.W.Looks (model X.prog X.w) (h3.push { cls := .type "tuple", data := .seq #[c1, c2, c3] }) (typeOf (.ref a)) cls := fun A Q E s k q => wpAny_typeOf_ref (k a oe3 (kp _ _ he3)) (by
      rw [hz3.1]
      exact q)
    have K5 : X.K.In (h3.push { cls := .type "tuple", data := .seq #[c1, c2, c3] }) := PySem.W.Frag.In.keeps J3.kIn kp
    have LM := PySem.W.exm_tup3 K5 LT (Heap.get?_push_size h3 rfl) hb1
    refine PySem.W.Looks.here LM ?_
    refine codeAny_handlers_suite_as (HandSPX.lands_againZ fl5 fun h4 fl4 up4 => ?_)
    have J4 : L2.Inv X pins σ' H' { s' with heap := h4 } := J.landed nb fl4.1 (((up.trans up3).trans up5).trans up4) os ag
    obtain ⟨oe4, vs4, he4, hz4, hd4⟩ := fl4.there
    have S4 := J4.suite he4 hd4 na nL nF
    refine store_ok (X := X.suite a ((a, oe4) :: (X.pn ++ pins))) (pins := []) (σ := σ') (H := H') (v := .ref a) S4 hN hi (.inl hln) rfl (fun s5 S5 => ?_) (.inr hln)
    refine wpAny_mono ((hsu a oe4 cls d (X.pn ++ pins) hz4 ⟨vs4, hd4⟩).run [] s5 _ H' _ S5 (hyes a na)) (fun f s6 hsp => ?_) (fun _ _ z => z.elim)
    cases f with
    | next =>
      obtain ⟨σ6, H6, S6, q6⟩ := hsp
      exact gone_ok (S6.unsuite ok) hN hi hln fun s7 J7 => ⟨_, H6, J7, q6⟩
    | brk =>
      obtain ⟨σ6, H6, S6, q6⟩ := hsp
      exact gone_ok (S6.unsuite ok) hN hi hln fun s7 J7 => ⟨_, H6, J7, q6⟩
    | cont =>
      obtain ⟨σ6, H6, S6, q6⟩ := hsp
      exact gone_ok (S6.unsuite ok) hN hi hln fun s7 J7 => ⟨_, H6, J7, q6⟩
    | ret u =>
      obtain ⟨v6, σ6, H6, S6, r6, q6⟩ := hsp
      exact gone_ok (S6.unsuite ok) hN hi hln fun s7 J7 => ⟨v6, _, H6, J7, r6, q6⟩
  · cases f with
    | next =>
      obtain ⟨σ', H', J', q⟩ := hsp
      exact wpAny_execs_nil ⟨σ', H', J'.ofTry ok, q⟩
    | brk =>
      obtain ⟨σ', H', J', q⟩ := hsp
      exact ⟨σ', H', J'.ofTry ok, q⟩
    | cont =>
      obtain ⟨σ', H', J', q⟩ := hsp
      exact ⟨σ', H', J'.ofTry ok, q⟩
    | ret u =>
      obtain ⟨v, σ', H', J', r, q⟩ := hsp
      exact ⟨v, σ', H', J'.ofTry ok, r, q⟩
theorem pe_weak {X : Cx} {e : Expr} {t t' : TE} (h : PE X e t) (w : ∀ σ H Q, t' σ H Q → t σ H Q) : PE X e t' := ⟨fun pins s σ H Q I q => h.run pins s σ H Q I (w σ H Q q)⟩
end Cs
set_option maxHeartbeats 4000000
/-! Expressions that are data: what they tell, while the pail at p and all else stand. -/
namespace Cs
open PySem L2 PyProof.Rows
def Has (p : Addr) (H : Hp) : Prop := ∃ o, H p = some o
theorem Has.keep {p : Addr} {H H' : Hp} (h : Has p H) (s : Same H H') : Has p H' := by
  obtain ⟨o, e⟩ := h
  exact ⟨o, s _ _ e⟩
theorem Has.ne {p t : Addr} {H : Hp} (h : Has p H) (n : H t = none) : t ≠ p := by
  obtain ⟨o, e⟩ := h
  intro z
  rw [z, e] at n
  cases n
abbrev DF := L2.St → Hp → PyData → Prop
abbrev DFs := L2.St → Hp → List PyData → Prop
def tDat (p : Addr) (f : DF) : TE := fun σ H Q => Has p H ∧ ∃ d, f σ H d ∧ ∀ v H', Same H H' → Rp p H' v d → Q v H'
def tDats (p : Addr) (f : DFs) : TA := fun σ H Q => Has p H ∧ ∃ ds, f σ H ds ∧ ∀ vs H', Same H H' → RpA p H' vs ds → Q vs H'
theorem tdat {p : Addr} {f : DF} {σ : L2.St} {H : Hp} {Q : VK} {d : PyData} (hp : Has p H) (hf : f σ H d) (k : ∀ v H', Same H H' → Rp p H' v d → Q v H') : tDat p f σ H Q := ⟨hp, d, hf, k⟩
structure PD (X : Cx) (e : Expr) (p : Addr) (f : DF) : Prop where
  pe : PE X e (tDat p f)
  mono : ∀ σ H H' d, Same H H' → f σ H d → f σ H' d
structure PDs (X : Cx) (es : List Expr) (p : Addr) (f : DFs) : Prop where
  pa : PA X es (tDats p f)
  mono : ∀ σ H H' d, Same H H' → f σ H d → f σ H' d
theorem pe_wk {X : Cx} {e : Expr} {t t' : TE} (h : PE X e t) (w : ∀ σ H Q, t' σ H Q → t σ H Q) : PE X e t' := ⟨fun pins s σ H Q I q => h.run pins s σ H Q I (w σ H Q q)⟩
theorem pa_wk {X : Cx} {es : List Expr} {t t' : TA} (h : PA X es t) (w : ∀ σ H Q, t' σ H Q → t σ H Q) : PA X es t' := ⟨fun pos pins s σ H Q I q => h.run pos pins s σ H Q I (w σ H Q q)⟩
theorem Rp.int_inv {p : Addr} {H : Hp} {v : V} {i : Int} (r : Rp p H v (.int i)) : v = .int i := by cases r; rfl
theorem Rp.str_inv {p : Addr} {H : Hp} {v : V} {x : Str} (r : Rp p H v (.str x)) : v = .str x := by cases r; rfl
theorem Rp.lst_inv {p : Addr} {H : Hp} {v : V} {ds : List PyData} (r : Rp p H v (.list ds)) : ∃ a xs, v = .ref a ∧ a ≠ p ∧ H a = some (.lst xs) ∧ xs.length ≤ 1000 ∧ RpA p H xs ds := by
  cases r with
  | lst n h z r => exact ⟨_, _, rfl, n, h, z, r⟩
theorem Rp.tup_inv {p : Addr} {H : Hp} {v : V} {ds : List PyData} (r : Rp p H v (.tuple ds)) : ∃ a xs, v = .ref a ∧ a ≠ p ∧ Rd H a (.tup xs) ∧ xs.length ≤ 1000 ∧ RpA p H xs ds := by
  cases r with
  | tup n h z r => exact ⟨_, _, rfl, n, h, z, r⟩
theorem RpA.take {p : Addr} {H : Hp} : ∀ {vs : List V} {ds : List PyData} (n : Nat), RpA p H vs ds → RpA p H (vs.take n) (ds.take n)
  | _, _, 0, _ => .nil
  | _, _, n + 1, .nil => .nil
  | _, _, n + 1, .cons h t => .cons h (RpA.take n t)
theorem RpA.drop {p : Addr} {H : Hp} : ∀ {vs : List V} {ds : List PyData} (n : Nat), RpA p H vs ds → RpA p H (vs.drop n) (ds.drop n)
  | _, _, 0, h => h
  | _, _, n + 1, .nil => .nil
  | _, _, n + 1, .cons h t => RpA.drop n t
theorem RpA.rep {p : Addr} {H : Hp} {vs : List V} {ds : List PyData} (r : RpA p H vs ds) : ∀ (n : Nat), RpA p H (List.replicate n vs).flatten (List.replicate n ds).flatten
  | 0 => .nil
  | n + 1 => by
    rw [List.replicate_succ, List.replicate_succ, List.flatten_cons, List.flatten_cons]
    exact RpA.append r (RpA.rep r n)
section
variable {X : Cx} {p : Addr}
theorem pd_var {e : Expr} {t : TE} {i : Nat} (h : PE X e t) (w : ∀ σ H Q, (∃ v, σ[i]? = some (some v) ∧ Q v H) → t σ H Q) : PD X e p (fun σ H d => ∃ v, σ[i]? = some (some v) ∧ Rp p H v d) :=
  ⟨pe_wk h fun σ H Q q => by
    obtain ⟨hp, d, ⟨v, hv, r⟩, k⟩ := q
    exact w σ H Q ⟨v, hv, k v H (Same.refl H) r⟩,
  fun σ H H' d s f => by
    obtain ⟨v, hv, r⟩ := f
    exact ⟨v, hv, r.keep (ExB.of s)⟩⟩
theorem pd_c {e : Expr} {v : V} {d0 : PyData} (h : PE X e (tC v)) (r : ∀ H, Rp p H v d0) : PD X e p (fun _ _ d => d = d0) :=
  ⟨pe_wk h fun σ H Q q => by
    obtain ⟨hp, d, rfl, k⟩ := q
    exact k v H (Same.refl H) (r H),
  fun σ H H' d s f => f⟩
theorem pds_nil : PDs X [] p (fun _ _ ds => ds = []) :=
  ⟨pa_wk pa_nil fun σ H Q q => by
    obtain ⟨hp, d, rfl, k⟩ := q
    exact k [] H (Same.refl H) .nil,
  fun σ H H' d s f => f⟩
theorem pds_cons {e : Expr} {es : List Expr} {f : DF} {g : DFs} (a : PD X e p f) (b : PDs X es p g) (hs : starEach (e :: es) X.env = (false, eval e X.env) :: starEach es X.env := by rfl) :
    PDs X (e :: es) p (fun σ H l => ∃ d ds, f σ H d ∧ g σ H ds ∧ l = d :: ds) :=
  ⟨pa_wk (pa_cons a.pe b.pa hs) fun σ H Q q => by
    obtain ⟨hp, _, ⟨d, ds, hf, hg, rfl⟩, k⟩ := q
    refine ⟨hp, d, hf, fun v H1 s1 r1 => ⟨hp.keep s1, ds, b.mono σ H H1 ds s1 hg, fun vs H2 s2 r2 => k _ H2 (s1.trans s2) (.cons (r1.keep (ExB.of s2)) r2)⟩⟩,
  fun σ H H' d s f => by
    obtain ⟨d, ds, hf, hg, rfl⟩ := f
    exact ⟨d, ds, a.mono _ _ _ _ s hf, b.mono _ _ _ _ s hg, rfl⟩⟩
theorem pd_tup {es : List Expr} {k : Nat} {pos : Pos} {g : DFs} (b : PDs X es p g) : PD X (.Tuple es k pos) p (fun σ H d => ∃ ds, g σ H ds ∧ ds.length ≤ 1000 ∧ d = .tuple ds) :=
  ⟨pe_wk (pe_tup b.pa) fun σ H Q q => by
    obtain ⟨hp, _, ⟨ds, hg, hl, rfl⟩, k⟩ := q
    refine ⟨hp, ds, hg, fun vs H1 s1 r1 => ⟨by rw [r1.length]; exact sz1000 hl, fun t ht => ?_⟩⟩
    have s2 : Same H1 (upd H1 t (.tup vs)) := same_new ht
    exact k _ _ (s1.trans s2) (.tup ((hp.keep s1).ne ht) (.inl upd_same) (by rw [r1.length]; exact hl) (r1.keep (ExB.of s2))),
  fun σ H H' d s f => by
    obtain ⟨ds, hg, hl, rfl⟩ := f
    exact ⟨ds, b.mono _ _ _ _ s hg, hl, rfl⟩⟩
theorem pd_lst {es : List Expr} {k : Pos} {g : DFs} (b : PDs X es p g) (hl : PE X (.List es k) (tLst (tDats p g))) : PD X (.List es k) p (fun σ H d => ∃ ds, g σ H ds ∧ ds.length ≤ 1000 ∧ d = .list ds) :=
  ⟨pe_wk hl fun σ H Q q => by
    obtain ⟨hp, _, ⟨ds, hg, hl, rfl⟩, k⟩ := q
    refine ⟨hp, ds, hg, fun vs H1 s1 r1 => ⟨by rw [r1.length]; exact sz1000 hl, fun t ht => ?_⟩⟩
    have s2 : Same H1 (upd H1 t (.lst vs)) := same_new ht
    exact k _ _ (s1.trans s2) (.lst ((hp.keep s1).ne ht) upd_same (by rw [r1.length]; exact hl) (r1.keep (ExB.of s2))),
  fun σ H H' d s f => by
    obtain ⟨ds, hg, hl, rfl⟩ := f
    exact ⟨ds, b.mono _ _ _ _ s hg, hl, rfl⟩⟩
theorem pd_lst' {es : List Expr} {k : Pos} {g : DFs} (b : PDs X es p g) : PD X (.List es k) p (fun σ H d => ∃ ds, g σ H ds ∧ ds.length ≤ 1000 ∧ d = .list ds) := pd_lst b (pe_lst b.pa)
theorem pd_bin {a b : Expr} {op : Operator} {r : R2} {pos : Pos} {f g : DF} (ho : OpR X (binaryOp op) r) (ha : PD X a p f) (hb : PD X b p g) (F : PyData → PyData → PyData → Prop)
    (w : ∀ x y d e c H Q, Has p H → Rp p H x d → Rp p H y e → F d e c → (∀ v H', Same H H' → Rp p H' v c → Q v H') → r x y H Q) (he : PE X (.BinOp a op b pos) (tOp r (tDat p f) (tDat p g))) :
    PD X (.BinOp a op b pos) p (fun σ H c => ∃ d e, f σ H d ∧ g σ H e ∧ F d e c) :=
  ⟨pe_wk he fun σ H Q q => by
    obtain ⟨hp, c, ⟨d, e, hf, hg, hF⟩, k⟩ := q
    refine ⟨hp, d, hf, fun x H1 s1 r1 => ⟨hp.keep s1, e, hb.mono _ _ _ _ s1 hg, fun y H2 s2 r2 => ?_⟩⟩
    exact w x y d e c H2 Q (hp.keep (s1.trans s2)) (r1.keep (ExB.of s2)) r2 hF fun v H3 s3 r3 => k v H3 (s1.trans (s2.trans s3)) r3,
  fun σ H H' c s f => by
    obtain ⟨d, e, hf, hg, hF⟩ := f
    exact ⟨d, e, ha.mono _ _ _ _ s hf, hb.mono _ _ _ _ s hg, hF⟩⟩
def FAdd (d e c : PyData) : Prop := ∃ i j : Int, d = .int i ∧ e = .int j ∧ c = .int (i + j)
def FSub (d e c : PyData) : Prop := ∃ i j : Int, d = .int i ∧ e = .int j ∧ c = .int (i - j)
def FCat (d e c : PyData) : Prop := ∃ xs ys, d = .list xs ∧ e = .list ys ∧ xs.length + ys.length ≤ 1000 ∧ c = .list (xs ++ ys)
def FCatT (d e c : PyData) : Prop := ∃ xs ys, d = .tuple xs ∧ e = .tuple ys ∧ xs.length + ys.length ≤ 1000 ∧ c = .tuple (xs ++ ys)
def FRep (d e c : PyData) : Prop := ∃ xs n, d = .list xs ∧ e = .int ((n : Nat) : Int) ∧ n ≤ 1000 ∧ xs.length * n ≤ 1000 ∧ c = .list (List.replicate n xs).flatten
theorem w_add {x y : V} {d e c : PyData} {H : Hp} {Q : VK} (rx : Rp p H x d) (ry : Rp p H y e) (hF : FAdd d e c) (k : ∀ v H', Same H H' → Rp p H' v c → Q v H') : rI0 (fun i j => V.int (i + j)) x y H Q := by
  obtain ⟨i, j, rfl, rfl, rfl⟩ := hF
  exact ⟨i, j, rx.int_inv, ry.int_inv, k _ _ (Same.refl H) (.int _)⟩
theorem w_sub {x y : V} {d e c : PyData} {H : Hp} {Q : VK} (rx : Rp p H x d) (ry : Rp p H y e) (hF : FSub d e c) (k : ∀ v H', Same H H' → Rp p H' v c → Q v H') : rI0 (fun i j => V.int (i - j)) x y H Q := by
  obtain ⟨i, j, rfl, rfl, rfl⟩ := hF
  exact ⟨i, j, rx.int_inv, ry.int_inv, k _ _ (Same.refl H) (.int _)⟩
theorem w_cat {x y : V} {d e c : PyData} {H : Hp} {Q : VK} (hp : Has p H) (rx : Rp p H x d) (ry : Rp p H y e) (hF : FCat d e c) (k : ∀ v H', Same H H' → Rp p H' v c → Q v H') : rCat x y H Q := by
  obtain ⟨ds, es, rfl, rfl, hl, rfl⟩ := hF
  obtain ⟨a, xs, rfl, na, ha, za, ra⟩ := rx.lst_inv
  obtain ⟨b, ys, rfl, nb, hb, zb, rb⟩ := ry.lst_inv
  refine ⟨a, b, xs, ys, rfl, rfl, ha, hb, by rw [ra.length, rb.length]; exact sz1000 hl, fun t ht => k _ _ (same_new ht) (.lst (hp.ne ht) upd_same ?_ (RpA.keep (ExB.of (same_new ht)) (ra.append rb)))⟩
  rw [List.length_append, ra.length, rb.length]
  exact hl
theorem w_catT {K : PySem.W.Frag} {x y : V} {d e c : PyData} {H : Hp} {Q : VK} (hp : Has p H) (rx : Rp p H x d) (ry : Rp p H y e) (hF : FCatT d e c) (k : ∀ v H', Same H H' → Rp p H' v c → Q v H') : rCatA K x y H Q := by
  obtain ⟨ds, es, rfl, rfl, hl, rfl⟩ := hF
  obtain ⟨a, xs, rfl, na, ha, za, ra⟩ := rx.tup_inv
  obtain ⟨b, ys, rfl, nb, hb, zb, rb⟩ := ry.tup_inv
  refine ⟨a, b, xs, ys, rfl, rfl, SqT.rd ha, SqT.rd hb, by rw [ra.length, rb.length]; exact sz1000 hl, fun e0 => ?_, fun _ e0 => ?_, fun _ _ t ht => k _ _ (same_new ht) (.tup (hp.ne ht) (.inl upd_same) ?_ (RpA.keep (ExB.of (same_new ht)) (ra.append rb)))⟩
  · subst e0
    cases ra
    exact k _ _ (Same.refl H) (.tup nb hb zb rb)
  · subst e0
    cases rb
    rw [List.append_nil] at k
    exact k _ _ (Same.refl H) (.tup na ha za ra)
  · rw [List.length_append, ra.length, rb.length]
    exact hl
theorem w_rep {x y : V} {d e c : PyData} {H : Hp} {Q : VK} (hp : Has p H) (rx : Rp p H x d) (ry : Rp p H y e) (hF : FRep d e c) (k : ∀ v H', Same H H' → Rp p H' v c → Q v H') : rRep x y H Q := by
  obtain ⟨ds, n, rfl, rfl, hn, hl, rfl⟩ := hF
  obtain ⟨a, xs, rfl, na, ha, za, ra⟩ := rx.lst_inv
  have hl2 : xs.length * n ≤ 1000 := by rw [ra.length]; exact hl
  refine ⟨a, n, xs, rfl, ry.int_inv, ha, by omega, by omega, sz1000 hl2, fun t ht => k _ _ (same_new ht) (.lst (hp.ne ht) upd_same ?_ (RpA.keep (ExB.of (same_new ht)) (ra.rep n)))⟩
  show (List.replicate n xs).flatten.length ≤ 1000
  rw [List.length_flatten, List.map_replicate, List.sum_replicate_nat, Nat.mul_comm]
  exact hl2
theorem pd_add {a b : Expr} {pos : Pos} {f g : DF} (ha : PD X a p f) (hb : PD X b p g) : PD X (.BinOp a .Add b pos) p (fun σ H c => ∃ d e, f σ H d ∧ g σ H e ∧ FAdd d e c) :=
  pd_bin op_add ha hb FAdd (fun x y d e c H Q hp rx ry hF k => w_add rx ry hF k) (pe_op op_add ha.pe hb.pe)
theorem pd_sub {a b : Expr} {pos : Pos} {f g : DF} (ha : PD X a p f) (hb : PD X b p g) : PD X (.BinOp a .Sub b pos) p (fun σ H c => ∃ d e, f σ H d ∧ g σ H e ∧ FSub d e c) :=
  pd_bin op_sub ha hb FSub (fun x y d e c H Q hp rx ry hF k => w_sub rx ry hF k) (pe_op op_sub ha.pe hb.pe)
theorem pd_cat {a b : Expr} {pos : Pos} {f g : DF} (ha : PD X a p f) (hb : PD X b p g) : PD X (.BinOp a .Add b pos) p (fun σ H c => ∃ d e, f σ H d ∧ g σ H e ∧ FCat d e c) :=
  pd_bin op_cat ha hb FCat (fun x y d e c H Q hp rx ry hF k => w_cat hp rx ry hF k) (pe_op op_cat ha.pe hb.pe)
theorem pd_catT {a b : Expr} {pos : Pos} {f g : DF} (ha : PD X a p f) (hb : PD X b p g) : PD X (.BinOp a .Add b pos) p (fun σ H c => ∃ d e, f σ H d ∧ g σ H e ∧ FCatT d e c) :=
  pd_bin op_catA ha hb FCatT (fun x y d e c H Q hp rx ry hF k => w_catT hp rx ry hF k) (pe_op op_catA ha.pe hb.pe)
theorem pd_rep {a b : Expr} {pos : Pos} {f g : DF} (ha : PD X a p f) (hb : PD X b p g) : PD X (.BinOp a .Mult b pos) p (fun σ H c => ∃ d e, f σ H d ∧ g σ H e ∧ FRep d e c) :=
  pd_bin op_rep ha hb FRep (fun x y d e c H Q hp rx ry hF k => w_rep hp rx ry hF k) (pe_op op_rep ha.pe hb.pe)
/-! slices -/
structure PDO (X : Cx) (e : Option Expr) (p : Addr) (f : L2.St → Hp → Option Int → Prop) (t : TO) : Prop where
  po : PO X e t
  w : ∀ σ H (Q : Option Int → Hp → Prop) i, Has p H → f σ H i → (∀ H', Same H H' → Q i H') → t σ H Q
  mono : ∀ σ H H' d, Same H H' → f σ H d → f σ H' d
def cutD (ds : List PyData) (lo hi : Option Int) : List PyData := (ds.drop (HT.sIx ds.length 0 lo)).take (HT.sIx ds.length ds.length hi - HT.sIx ds.length 0 lo)
theorem RpA.cut {H : Hp} {vs : List V} {ds : List PyData} (r : RpA p H vs ds) (lo hi : Option Int) : RpA p H (cutV vs lo hi) (cutD ds lo hi) := by
  unfold cutV cutD
  rw [r.length]
  exact (r.drop _).take _
theorem pdo_none : PDO X none p (fun _ _ i => i = none) tNoPart :=
  ⟨po_none, fun σ H Q i _ hf k => by
    subst hf
    exact k H (Same.refl H), fun _ _ _ _ _ f => f⟩
theorem pdo_some {e : Expr} {f : DF} (h : PD X e p f) : PDO X (some e) p (fun σ H i => ∃ j : Int, f σ H (.int j) ∧ i = some j) (tPart (tDat p f)) :=
  ⟨po_some h.pe, fun σ H Q i hp hf k => by
    obtain ⟨j, hj, rfl⟩ := hf
    exact ⟨hp, .int j, hj, fun v H' s r => ⟨j, r.int_inv, k H' s⟩⟩, fun σ H H' i s hf => by
    obtain ⟨j, hj, rfl⟩ := hf
    exact ⟨j, h.mono _ _ _ _ s hj, rfl⟩⟩
theorem w_slL {K : PySem.W.Frag} {x : V} {ds : List PyData} {lo hi : Option Int} {H : Hp} {Q : VK} (hp : Has p H) (rx : Rp p H x (.list ds)) (hl : (cutD ds lo hi).length ≤ 1000)
    (k : ∀ v H', Same H H' → Rp p H' v (.list (cutD ds lo hi)) → Q v H') : rSlL K x lo hi H Q := by
  obtain ⟨a, xs, rfl, na, ha, za, ra⟩ := rx.lst_inv
  have rc := ra.cut lo hi
  exact ⟨a, xs, rfl, SqL.of ha, fun t ht => k _ _ (same_new ht) (.lst (hp.ne ht) upd_same (by rw [rc.length]; exact hl) (rc.keep (ExB.of (same_new ht))))⟩
theorem w_slT {K : PySem.W.Frag} {x : V} {ds : List PyData} {lo hi : Option Int} {H : Hp} {Q : VK} (hp : Has p H) (rx : Rp p H x (.tuple ds)) (hl : (cutD ds lo hi).length ≤ 1000)
    (k : ∀ v H', Same H H' → Rp p H' v (.tuple (cutD ds lo hi)) → Q v H') : rSlA K x lo hi H Q := by
  obtain ⟨a, xs, rfl, na, ha, za, ra⟩ := rx.tup_inv
  have rc := ra.cut lo hi
  refine ⟨a, xs, rfl, SqT.rd ha, fun e => ?_, fun _ t ht => k _ _ (same_new ht) (.tup (hp.ne ht) (.inl upd_same) (by rw [rc.length]; exact hl) (rc.keep (ExB.of (same_new ht))))⟩
  have e2 : cutD ds lo hi = ds := by
    unfold cutD
    rw [← ra.length, e.1, e.2, List.drop_zero, Nat.sub_zero, List.take_of_length_le (by rw [ra.length]; exact Nat.le_refl _)]
  rw [e2] at k
  exact k _ _ (Same.refl H) (.tup na ha za ra)
theorem pd_slL {e : Expr} {lo hi : Option Expr} {pos p2 : Pos} {f : DF} {fl fh : L2.St → Hp → Option Int → Prop} {tl th : TO} (h : PD X e p f) (hl : PDO X lo p fl tl) (hh : PDO X hi p fh th) :
    PD X (.Subscript e (.Slice lo hi none p2) pos) p (fun σ H c => ∃ ds i j, f σ H (.list ds) ∧ fl σ H i ∧ fh σ H j ∧ (cutD ds i j).length ≤ 1000 ∧ c = .list (cutD ds i j)) :=
  ⟨pe_wk (pe_slice sl_list h.pe hl.po hh.po) fun σ H Q q => by
    obtain ⟨hp, _, ⟨ds, i, j, h1, h2, h3, h4, rfl⟩, k⟩ := q
    exact ⟨hp, _, h1, fun v H1 s1 r1 => hl.w σ H1 _ i (hp.keep s1) (hl.mono _ _ _ _ s1 h2) fun H2 s2 => hh.w σ H2 _ j (hp.keep (s1.trans s2)) (hh.mono _ _ _ _ (s1.trans s2) h3) fun H3 s3 =>
      w_slL (hp.keep (s1.trans (s2.trans s3))) (r1.keep (ExB.of (s2.trans s3))) h4 fun u H4 s4 r4 => k u H4 (s1.trans (s2.trans (s3.trans s4))) r4⟩,
  fun σ H H' c s q => by
    obtain ⟨ds, i, j, h1, h2, h3, h4, rfl⟩ := q
    exact ⟨ds, i, j, h.mono _ _ _ _ s h1, hl.mono _ _ _ _ s h2, hh.mono _ _ _ _ s h3, h4, rfl⟩⟩
theorem pd_slT {e : Expr} {lo hi : Option Expr} {pos p2 : Pos} {f : DF} {fl fh : L2.St → Hp → Option Int → Prop} {tl th : TO} (h : PD X e p f) (hl : PDO X lo p fl tl) (hh : PDO X hi p fh th) :
    PD X (.Subscript e (.Slice lo hi none p2) pos) p (fun σ H c => ∃ ds i j, f σ H (.tuple ds) ∧ fl σ H i ∧ fh σ H j ∧ (cutD ds i j).length ≤ 1000 ∧ c = .tuple (cutD ds i j)) :=
  ⟨pe_wk (pe_slice sl_tupA h.pe hl.po hh.po) fun σ H Q q => by
    obtain ⟨hp, _, ⟨ds, i, j, h1, h2, h3, h4, rfl⟩, k⟩ := q
    exact ⟨hp, _, h1, fun v H1 s1 r1 => hl.w σ H1 _ i (hp.keep s1) (hl.mono _ _ _ _ s1 h2) fun H2 s2 => hh.w σ H2 _ j (hp.keep (s1.trans s2)) (hh.mono _ _ _ _ (s1.trans s2) h3) fun H3 s3 =>
      w_slT (hp.keep (s1.trans (s2.trans s3))) (r1.keep (ExB.of (s2.trans s3))) h4 fun u H4 s4 r4 => k u H4 (s1.trans (s2.trans (s3.trans s4))) r4⟩,
  fun σ H H' c s q => by
    obtain ⟨ds, i, j, h1, h2, h3, h4, rfl⟩ := q
    exact ⟨ds, i, j, h.mono _ _ _ _ s h1, hl.mono _ _ _ _ s h2, hh.mono _ _ _ _ s h3, h4, rfl⟩⟩
/-! items -/
theorem RpA.at_ {H : Hp} {vs : List V} {ds : List PyData} {i : Int} {d : PyData} (r : RpA p H vs ds) (h : atI ds i = some d) : ∃ v, atI vs i = some v ∧ Rp p H v d := by
  unfold atI at h ⊢
  rw [← r.length] at h
  obtain ⟨j, hj, hd⟩ := Option.bind_eq_some_iff.mp h
  have hv : j < vs.length := by
    rw [r.length]
    exact (List.getElem?_eq_some_iff.mp hd).1
  obtain ⟨d2, h2, rd⟩ := r.get (List.getElem?_eq_getElem hv)
  rw [hd] at h2
  cases h2
  exact ⟨vs[j], by rw [hj]; exact List.getElem?_eq_getElem hv, rd⟩
theorem pd_ixT {e i : Expr} {pos : Pos} {f g : DF} (h : PD X e p f) (hi : PD X i p g) (pl : PlainIx i) :
    PD X (.Subscript e i pos) p (fun σ H c => ∃ ds j, f σ H (.tuple ds) ∧ g σ H (.int j) ∧ atI ds j = some c) :=
  ⟨pe_wk (pe_ix ix_seq h.pe hi.pe pl) fun σ H Q q => by
    obtain ⟨hp, c, ⟨ds, j, h1, h2, h3⟩, k⟩ := q
    refine ⟨hp, _, h1, fun x H1 s1 r1 => ⟨hp.keep s1, _, hi.mono _ _ _ _ s1 h2, fun y H2 s2 r2 => ?_⟩⟩
    obtain ⟨a, xs, rfl, na, ha, za, ra⟩ := (r1.keep (ExB.of s2)).tup_inv
    obtain ⟨v, hv, rv⟩ := ra.at_ h3
    exact .inr (.inl ⟨a, xs, j, v, rfl, r2.int_inv, SqT.rd ha, hv, k v H2 (s1.trans s2) rv⟩),
  fun σ H H' c s q => by
    obtain ⟨ds, j, h1, h2, h3⟩ := q
    exact ⟨ds, j, h.mono _ _ _ _ s h1, hi.mono _ _ _ _ s h2, h3⟩⟩
/-! list(t), str(i) -/
theorem pd_list {e : Expr} {q pos : Pos} {f : DF} (h : PD X e p f) (hg : Gl X "list") (hm : X.mg "list" = none) (hs : starEach [e] X.env = (false, eval e X.env) :: starEach [] X.env := by rfl)
    (hpl : ((backTo pos (starEach [] X.env)).any fun x => x.1) = false := by rfl) : PD X (.Call (.Name "list" q) [e] [] pos) p (fun σ H c => ∃ ds, f σ H (.tuple ds) ∧ c = .list ds) :=
  ⟨pe_wk (pe_callTy call_list_of hg hm (by decide +kernel) (pa_cons h.pe pa_nil hs) (by decide) (by decide) hs hpl) fun σ H Q q => by
    obtain ⟨hp, _, ⟨ds, h1, rfl⟩, k⟩ := q
    refine ⟨hp, _, h1, fun x H1 s1 r1 => ?_⟩
    obtain ⟨a, xs, rfl, na, ha, za, ra⟩ := r1.tup_inv
    exact ⟨a, xs, rfl, .inr (SqT.rd ha), fun t ht => k _ _ (s1.trans (same_new ht)) (.lst ((hp.keep s1).ne ht) upd_same za (ra.keep (ExB.of (same_new ht))))⟩,
  fun σ H H' c s q => by
    obtain ⟨ds, h1, rfl⟩ := q
    exact ⟨ds, h.mono _ _ _ _ s h1, rfl⟩⟩
theorem pd_str {e : Expr} {q pos : Pos} {f : DF} (h : PD X e p f) (hg : Gl X "str") (hm : X.mg "str" = none) (hs : starEach [e] X.env = (false, eval e X.env) :: starEach [] X.env := by rfl)
    (hpl : ((backTo pos (starEach [] X.env)).any fun x => x.1) = false := by rfl) : PD X (.Call (.Name "str" q) [e] [] pos) p (fun σ H c => ∃ n : Nat, f σ H (.int (n : Nat)) ∧ n ≤ 20 ∧ c = .str (toString ((n : Nat) : Int))) :=
  ⟨pe_wk (pe_callTy call_str_int hg hm (by decide +kernel) (pa_cons h.pe pa_nil hs) (by decide) (by decide) hs hpl) fun σ H Q q => by
    obtain ⟨hp, _, ⟨n, h1, hn, rfl⟩, k⟩ := q
    refine ⟨hp, _, h1, fun x H1 s1 r1 => ?_⟩
    refine ⟨n, by rw [r1.int_inv], Nat.lt_of_le_of_lt (Nat.log2_le_self n) (by omega), k _ _ s1 (.str _ ?_)⟩
    exact (by decide +kernel : ∀ n, n < 21 → (Str.ofString (toString ((n : Nat) : Int))).length ≤ 1000) n (by omega),
  fun σ H H' c s q => by
    obtain ⟨n, h1, hn, rfl⟩ := q
    exact ⟨n, h.mono _ _ _ _ s h1, hn, rfl⟩⟩
theorem pd_neg {e : Expr} {pos : Pos} {f : DF} (h : PD X e p f) : PD X (.UnaryOp .USub e pos) p (fun σ H c => ∃ i : Int, f σ H (.int i) ∧ c = .int (-i)) :=
  ⟨pe_wk (pe_un un_neg h.pe) fun σ H Q q => by
    obtain ⟨hp, _, ⟨i, h1, rfl⟩, k⟩ := q
    exact ⟨hp, _, h1, fun x H1 s1 r1 => ⟨i, r1.int_inv, k _ _ s1 (.int _)⟩⟩,
  fun σ H H' c s q => by
    obtain ⟨i, h1, rfl⟩ := q
    exact ⟨i, h.mono _ _ _ _ s h1, rfl⟩⟩
theorem pd_ifGt {a b c e : Expr} {pos pos2 : Pos} {fa fb fc fe : DF} (hc : PD X c p fc) (he : PD X e p fe) (ha : PD X a p fa) (hb : PD X b p fb) :
    PD X (.IfExp (.Compare c [.Gt] [e] pos2) a b pos) p (fun σ H d => ∃ i j : Int, fc σ H (.int i) ∧ fe σ H (.int j) ∧ (j < i → fa σ H d) ∧ (¬ j < i → fb σ H d)) :=
  ⟨pe_wk (pe_ifExp (pt_cmpR op_gt hc.pe he.pe (nomark _)) ha.pe hb.pe) fun σ H Q q => by
    obtain ⟨hp, d, ⟨i, j, h1, h2, h3, h4⟩, k⟩ := q
    refine ⟨hp, _, h1, fun x H1 s1 r1 => ⟨hp.keep s1, _, he.mono _ _ _ _ s1 h2, fun y H2 s2 r2 => ⟨i, j, (r1.keep (ExB.of s2)).int_inv, r2.int_inv, _, rfl, ?_⟩⟩⟩
    have s3 := s1.trans s2
    refine ite2 (fun e => ?_) (fun e => ?_)
    · exact ⟨hp.keep s3, d, ha.mono _ _ _ _ s3 (h3 (of_decide_eq_true e)), fun v H4 s4 r4 => k v H4 (s3.trans s4) r4⟩
    · exact ⟨hp.keep s3, d, hb.mono _ _ _ _ s3 (h4 (of_decide_eq_false (eq_false_of_ne_true e))), fun v H4 s4 r4 => k v H4 (s3.trans s4) r4⟩,
  fun σ H H' d s q => by
    obtain ⟨i, j, h1, h2, h3, h4⟩ := q
    exact ⟨i, j, hc.mono _ _ _ _ s h1, he.mono _ _ _ _ s h2, fun z => ha.mono _ _ _ _ s (h3 z), fun z => hb.mono _ _ _ _ s (h4 z)⟩⟩
theorem pd_dict {pos : Pos} : PD X (.Dict [] [] pos) p (fun _ _ d => d = .dict []) :=
  ⟨pe_wk pe_dnewK fun σ H Q q => by
    obtain ⟨hp, _, rfl, k⟩ := q
    exact fun t ht => k _ _ (same_new ht) (.dct (hp.ne ht) upd_same),
  fun σ H H' d s f => f⟩
end
/-! data of tuples alone -/
mutual
inductive RpT (p : Addr) (H : Hp) : V → PyData → Prop
  | non : RpT p H .non .none
  | bl (b : Bool) : RpT p H (.bl b) (.bool b)
  | int (i : Int) : RpT p H (.int i) (.int i)
  | str (x : Str) (h : x.length ≤ 1000) : RpT p H (.str x) (.str x)
  | tup {a : Addr} {xs : List V} {ds : List PyData} (n : a ≠ p) (h : Rd H a (.tup xs)) (z : xs.length ≤ 1000) (r : RpTA p H xs ds) : RpT p H (.ref a) (.tuple ds)
inductive RpTA (p : Addr) (H : Hp) : List V → List PyData → Prop
  | nil : RpTA p H [] []
  | cons {v : V} {vs : List V} {d : PyData} {ds : List PyData} (h : RpT p H v d) (t : RpTA p H vs ds) : RpTA p H (v :: vs) (d :: ds)
end
def ExT (p : Addr) (H H' : Hp) : Prop := ∀ b xs, b ≠ p → Rd H b (.tup xs) → Rd H' b (.tup xs)
theorem ExT.of {p : Addr} {H H' : Hp} (e : ExB p H H') : ExT p H H' := fun b _ n h => rd_keep (fun o q => e b o n q) h
theorem ExT.trans {p : Addr} {H H1 H2 : Hp} (a : ExT p H H1) (b : ExT p H1 H2) : ExT p H H2 := fun c xs n h => b c xs n (a c xs n h)
theorem ExT.put {p l : Addr} {H : Hp} {xs : List V} {o : HO} (h : H l = some (.lst xs)) : ExT p H (upd H l o) := fun b ys n e => rd_keep (fun u q => by
  rw [upd_ne (fun z => by
    rw [z] at e
    rcases e with e | ⟨o', e⟩ <;> (rw [h] at e; cases e))]
  exact q) e
mutual
theorem RpT.keep {p : Addr} {H H' : Hp} (e : ExT p H H') : ∀ {v : V} {d : PyData}, RpT p H v d → RpT p H' v d
  | _, _, .non => .non
  | _, _, .bl b => .bl b
  | _, _, .int i => .int i
  | _, _, .str x h => .str x h
  | _, _, .tup n h z r => .tup n (e _ _ n h) z (RpTA.keep e r)
theorem RpTA.keep {p : Addr} {H H' : Hp} (e : ExT p H H') : ∀ {vs : List V} {ds : List PyData}, RpTA p H vs ds → RpTA p H' vs ds
  | _, _, .nil => .nil
  | _, _, .cons h t => .cons (RpT.keep e h) (RpTA.keep e t)
end
mutual
theorem RpT.rp {p : Addr} {H : Hp} : ∀ {v : V} {d : PyData}, RpT p H v d → Rp p H v d
  | _, _, .non => .non
  | _, _, .bl b => .bl b
  | _, _, .int i => .int i
  | _, _, .str x h => .str x h
  | _, _, .tup n h z r => .tup n h z (RpTA.rp r)
theorem RpTA.rp {p : Addr} {H : Hp} : ∀ {vs : List V} {ds : List PyData}, RpTA p H vs ds → RpA p H vs ds
  | _, _, .nil => .nil
  | _, _, .cons h t => .cons (RpT.rp h) (RpTA.rp t)
end
theorem RpTA.append {p : Addr} {H : Hp} : ∀ {vs ws : List V} {ds es : List PyData}, RpTA p H vs ds → RpTA p H ws es → RpTA p H (vs ++ ws) (ds ++ es)
  | _, _, _, _, .nil, s => s
  | _, _, _, _, .cons h t, s => .cons h (RpTA.append t s)
theorem RpTA.length {p : Addr} {H : Hp} {vs : List V} {ds : List PyData} (r : RpTA p H vs ds) : vs.length = ds.length := r.rp.length
/-! how what is told is found -/
theorem x_tup {g : List PyData → Prop} {ds : List PyData} (h : g ds) (hl : ds.length ≤ 1000) : ∃ es, g es ∧ es.length ≤ 1000 ∧ PyData.tuple ds = .tuple es := ⟨ds, h, hl, rfl⟩
theorem x_lst {g : List PyData → Prop} {ds : List PyData} (h : g ds) (hl : ds.length ≤ 1000) : ∃ es, g es ∧ es.length ≤ 1000 ∧ PyData.list ds = .list es := ⟨ds, h, hl, rfl⟩
theorem x_cons {f : PyData → Prop} {g : List PyData → Prop} {d : PyData} {ds : List PyData} (h : f d) (k : g ds) : ∃ e es, f e ∧ g es ∧ d :: ds = e :: es := ⟨d, ds, h, k, rfl⟩
theorem x_neg {f : Int → Prop} {i : Int} (h : f i) : ∃ j, f j ∧ PyData.int (-i) = .int (-j) := ⟨i, h, rfl⟩
theorem x_var {σ : L2.St} {i : Nat} {p : Addr} {H : Hp} {v : V} {d : PyData} (h : σ[i]? = some (some v)) (r : Rp p H v d) : ∃ u, σ[i]? = some (some u) ∧ Rp p H u d := ⟨v, h, r⟩
theorem x_bin {f g : PyData → Prop} {F : PyData → PyData → PyData → Prop} {d e c : PyData} (h : f d) (k : g e) (l : F d e c) : ∃ d e, f d ∧ g e ∧ F d e c := ⟨d, e, h, k, l⟩
theorem x_add {i j : Int} : FAdd (.int i) (.int j) (.int (i + j)) := ⟨i, j, rfl, rfl, rfl⟩
theorem x_sub {i j : Int} : FSub (.int i) (.int j) (.int (i - j)) := ⟨i, j, rfl, rfl, rfl⟩
theorem x_cat {xs ys : List PyData} (h : xs.length + ys.length ≤ 1000) : FCat (.list xs) (.list ys) (.list (xs ++ ys)) := ⟨xs, ys, rfl, rfl, h, rfl⟩
theorem x_catT {xs ys : List PyData} (h : xs.length + ys.length ≤ 1000) : FCatT (.tuple xs) (.tuple ys) (.tuple (xs ++ ys)) := ⟨xs, ys, rfl, rfl, h, rfl⟩
theorem x_rep {xs : List PyData} {n : Nat} (h1 : n ≤ 1000) (h : xs.length * n ≤ 1000) : FRep (.list xs) (.int (n : Nat)) (.list (List.replicate n xs).flatten) := ⟨xs, n, rfl, rfl, h1, h, rfl⟩
theorem x_sl {f : List PyData → Prop} {fl fh : Option Int → Prop} {C : List PyData → PyData} {ds : List PyData} {i j : Option Int} (h : f ds) (h1 : fl i) (h2 : fh j) (hl : (cutD ds i j).length ≤ 1000) :
    ∃ es a b, f es ∧ fl a ∧ fh b ∧ (cutD es a b).length ≤ 1000 ∧ C (cutD ds i j) = C (cutD es a b) := ⟨ds, i, j, h, h1, h2, hl, rfl⟩
theorem x_po {f : Int → Prop} {j : Int} (h : f j) : ∃ k, f k ∧ some j = some k := ⟨j, h, rfl⟩
theorem x_ix {f : List PyData → Prop} {g : Int → Prop} {ds : List PyData} {j : Int} {c : PyData} (h : f ds) (k : g j) (e : atI ds j = some c) : ∃ es i, f es ∧ g i ∧ atI es i = some c := ⟨ds, j, h, k, e⟩
theorem x_list {f : List PyData → Prop} {ds : List PyData} (h : f ds) : ∃ es, f es ∧ PyData.list ds = .list es := ⟨ds, h, rfl⟩
theorem x_str {f : Nat → Prop} {n : Nat} (h : f n) (k : n ≤ 20) : ∃ m, f m ∧ m ≤ 20 ∧ PyData.str (toString ((n : Nat) : Int)) = .str (toString ((m : Nat) : Int)) := ⟨n, h, k, rfl⟩
end Cs
set_option maxHeartbeats 4000000
/-! Rules of my own: errors of own classes over any built-in base, held as values. -/
namespace PySem
namespace CsLow
open PySem.W PySem.Calls PyProof.Rows PySem.HandSPX Builtin
abbrev rawX (C t : Addr) (d : Option Addr) : Obj := { cls := .ref C, dict := d, data := .fields #[.ref t, .none, .none, .none, .bool false, .none] }
section
variable {prog : Program} {w : World} {A : Around} {R : Result → Shared → Prop} {h : Heap} {g : Array GenState} {d : Drawn} {t : Nat} {os : OsState}
variable {nm q : Str} {C N : Addr} {bs bm bmB : List Value} {hdct : Bool} {sn : List Str} {sub : List Value} {ab : Bool} {col : Option Bool} {dd : Option Addr} {k0 k1 k2 k3 k5 : Option Value} {B newId initId : String}
/-- BaseException.__new__ given keywords: it does not look at them -/
theorem fresh_kw (FB : ExcBaseFacts B newId initId bmB) (tl : ∀ Y : String, bm.contains (.type Y) = bmB.contains (.type Y)) {f : Str} {u : Value}
    (at_ : h.get? C = some (excClassObj nm q C N bs bm hdct sn sub ab col dd k0 k1 k2 k3 k5 newId)) (k : R (.ok (.ret (.ref (h.objs.size + 1)))) ⟨(h.push { cls := .type "tuple", data := .seq #[] }).push (rawX C h.objs.size none), g, d, t, os⟩) :
    codeAny (model prog w) A (.builtin newId ⟨[.ref C], [(f, u)]⟩) R ⟨h, g, d, t, os⟩ := by
  have inB : ∀ Y, bmB.contains (.type Y) = true → (Value.ref C :: bm).contains (.type Y) = true := fun Y z => by rw [List.contains_cons, tl, z, Bool.or_true]
  have noB : ∀ Y, bmB.contains (.type Y) = false → (Value.ref C :: bm).contains (.type Y) = false := fun Y z => by
    rw [List.contains_cons, tl, z]
    rfl
  have b1 := inB _ FB.hasB
  have b2 := noB _ FB.noAttr
  have b3 := noB _ FB.noName
  have ends := FB.ends
  refine codeAny_builtinAt FB.entry ?_
  unfold Builtin.«BaseException.__new__»
  refine wpAt_bind (show wpAt _ _ _ (stack >>= _) _ _ _ from wpAt_bind (wpAt_stack fun _ _ => wpAt_of_wpAny ?_))
  wp_walk
  refine wpAt_of_wpAny ?_
  rw [FB.owner]
  repeat (first | with_reducible refine wpAny_madeHere_exc FB.canon at_ ?_ | with_reducible refine wpAny_loadPart_at at_ ?_ | (with_reducible refine wpAny_isSubtype_exc at_ ?_; first | rw [b1] | rw [b2] | rw [b3]) | wp_step)
  show R _ _
  rw [Heap.size_push]
  exact k
/-- .. and its check lets them pass -/
theorem check_kw {M : Model} {E : Value → Shared → Prop} (FB : ExcBaseFacts B newId initId bmB) (tl : ∀ Y : String, bm.contains (.type Y) = bmB.contains (.type Y)) {f : Str} {u : Value} {Q : Unit → Shared → Prop}
    (at_ : h.get? C = some (excClassObj nm q C N bs bm hdct sn sub ab col dd k0 k1 k2 k3 k5 newId)) (k : Q () ⟨h, g, d, t, os⟩) : wpAny M A (checkBuiltinCall newId ⟨[.ref C], [(f, u)]⟩) Q E ⟨h, g, d, t, os⟩ := by
  have inB : (Value.ref C :: bm).contains (.type B) = true := by rw [List.contains_cons, tl, FB.hasB, Bool.or_true]
  have star := FB.noStar
  simp only [checkBuiltinCall, FB.newKind, FB.newSplit, FB.newRow]
  repeat (first | refine wpAny_loadPart_at at_ ?_ | (refine wpAny_isSubtype_exc at_ ?_; rw [inB]) | refine wpAny_staticBase_exc at_ ?_ | refine wpAny_madeBy_exc at_ ?_ | simp only [bne_self_eq_false, Bool.false_eq_true, if_false] | wp_step)
  exact k
theorem type_kw (FB : ExcBaseFacts B newId initId bmB) (tl : ∀ Y : String, bm.contains (.type Y) = bmB.contains (.type Y)) {f : Str} {u : Value} {fI : Addr} {Q : Fin → Shared → Prop} {E : Value → Shared → Prop}
    (at_ : h.get? C = some (excClassObj nm q C N bs bm hdct sn sub ab col dd k0 k1 k2 k3 k5 newId)) (hi : W.Looks (model prog w) h (typeLookup (.ref C) "__init__") (some (.ref fI))) (hb : ∀ self, W.Looks (model prog w) h (bindSpecial (.ref fI) self) (.ref fI, [self]))
    (k : codeAny (model prog w) A (.call (.ref fI) ⟨[.ref (h.objs.size + 1)], [(f, u)]⟩)
      (fun r s' => match r with | .ok (.ret v) => v = .none ∧ Q (.done (.ret (.ref (h.objs.size + 1)))) s' | .ok _ => False | .error e => E e s')
      ⟨(h.push { cls := .type "tuple", data := .seq #[] }).push (rawX C h.objs.size none), g, d, t, os⟩) :
    wpAny (model prog w) A (Builtin.«type.__call__» ⟨[.ref C], [(f, u)]⟩) Q E ⟨h, g, d, t, os⟩ := by
  repeat (first | with_reducible refine wpAny_loadPart_at at_ ?_ | with_reducible refine wpAny_madeBy_exc at_ ?_ | wp_step)
  refine codeAny_call_builtin_code (Code.quiet_builtin _ FB.quiet) (check_kw FB tl at_ (fresh_kw FB tl at_ (show wpAny _ _ _ _ _ _ from ?_)))
  have grow : ∀ b o, h.get? b = some o → ((h.push { cls := .type "tuple", data := .seq #[] }).push (rawX C h.objs.size none)).get? b = some o := fun b o e => Heap.get?_push_of_some _ (Heap.get?_push_of_some _ e)
  have at2 := grow _ _ at_
  have atE : ((h.push { cls := .type "tuple", data := .seq #[] }).push (rawX C h.objs.size none)).get? (h.objs.size + 1) = some (rawX C h.objs.size none) := by heap_get
  have own : (Value.ref C :: bm).contains (.ref C) = true := by simp
  have j1 := hi.keeps grow
  have j2 := (hb (.ref (h.objs.size + 1))).keeps grow
  unfold isInstance
  repeat (first | with_reducible refine wpAny_loadPart_at atE ?_ | (with_reducible refine wpAny_isSubtype_exc at2 ?_; rw [own]) | wp_step)
  refine (show wpAny _ _ (typeLookup (.ref C) _) _ _ _ from j1.at (wpAny_holding (wpAny_bind (j2.at (wpAny_bind (wpAny_call (codeAny_mono k fun r s' z => ?_)))))))
  rcases r with e | (v | _ | _ | _) <;> first | exact z | exact z.elim | skip
  obtain ⟨rfl, z⟩ := z
  first | exact wpAny_pure (wpAny_pure z) | (wp_walk; exact z)
/-- C(f=u), C of errors with an __init__ of its own: the new error, then __init__ with it and the keyword -/
theorem call_kw (FB : ExcBaseFacts B newId initId bmB) (tl : ∀ Y : String, bm.contains (.type Y) = bmB.contains (.type Y)) {f : Str} {u : Value} {fI : Addr}
    (at_ : h.get? C = some (excClassObj nm q C N bs bm hdct sn sub ab col dd k0 k1 k2 k3 k5 newId)) (hi : W.Looks (model prog w) h (typeLookup (.ref C) "__init__") (some (.ref fI))) (hb : ∀ self, W.Looks (model prog w) h (bindSpecial (.ref fI) self) (.ref fI, [self]))
    (k : codeAny (model prog w) (A.under (.builtin "type.__call__" ⟨[.ref C], [(f, u)]⟩)) (.call (.ref fI) ⟨[.ref (h.objs.size + 1)], [(f, u)]⟩) (W.InitBack (h.objs.size + 1) R)
      ⟨(h.push { cls := .type "tuple", data := .seq #[] }).push (rawX C h.objs.size none), g, d, t, os⟩) :
    codeAny (model prog w) A (.call (.ref C) ⟨[], [(f, u)]⟩) R ⟨h, g, d, t, os⟩ := by
  have l1 := tc_lookup
  have l2 := tc_bind (.ref C)
  have isT : (⟨h, g, d, t, os⟩ : Shared).TypeIs (.ref C) "type" := ⟨_, at_, rfl⟩
  have grow : ∀ b o, h.get? b = some o → ((h.push { cls := .type "tuple", data := .seq #[] }).push (rawX C h.objs.size none)).get? b = some o := fun b o e => Heap.get?_push_of_some _ (Heap.get?_push_of_some _ e)
  refine codeAny_of_tree (show wpAny _ _ (callAny (.ref C) _) _ _ _ from ?_)
  repeat (any_goals (first | assumption | with_reducible refine wpAny_loadPart_at at_ ?_ | wp_step))
  refine ⟨rfl, ?_⟩
  refine codeAny_call_builtin_at (Code.quiet_builtin _ (by decide +kernel)) entry_typeCall (wpAny_check_type_call_sub at_ ?_)
  refine type_kw (A := A.under _) FB tl at_ hi hb (codeAny_mono k fun r s' z => ?_)
  rcases r with e | (v | _ | _ | _) <;> exact z
end
end CsLow
end PySem
set_option maxHeartbeats 4000000
/-! Defs that show lists and tuples: their promise is for callers that show nothing just now. -/
namespace Cs
open PySem L2 PyProof.Rows
structure FnG (P : Program) (w : World) (K : PySem.W.Frag) (mg : Str → Option Value) (base : Heap) (k : Nat) (f : Addr) (fd : FuncData) (ps : List Str) (sp : Sp) : Prop where
  len : ∀ vs H Q E, sp vs H Q E → vs.length = ps.length
  run : ∀ (A : Around) (outer : List Env) (s : Shared) (H : Hp) (args : Args) (us : List Value) (vs : List V) (Q : VK) (E : XK),
    A.guards = some [] → Room k A → Env0 P w K mg base A outer s H → BindsTo s fd args (ps.zip us) → Vals vs us → sp vs H Q E → codeAny (model P w) A (.call (.ref f) args) (CR CX0 outer P w H s Q E) s
theorem fn_ofG {P : Program} {w : World} {K : PySem.W.Frag} {mg : Str → Option Value} {base : Heap} {k : Nat} {f : Addr} {name qual : Str} {params : Arguments} {body : List Stmt} {scope : Scope}
    {dV kV doc pm cdv ct oc : Value} {an od : Option Addr} {osl : Array (Option Value)} {N ps : List Str} {sp : Sp}
    (lk : K.lookup f = some ⟨oc, od, .func (PySem.W.fnOf name qual params body scope dV kV doc pm an cdv ct), osl⟩) (hcd : PySem.W.codeIn K cdv qual = true) (S : FnScope N ps scope)
    (len : ∀ vs H Q E, sp vs H Q E → vs.length = ps.length)
    (hbody : ∀ (A : Around) (outer : List Env) (s : Shared) (H : Hp) (vs : List V) (Q : VK) (E : XK), A.guards = some [] → Room k (A.deeper (envOfC qual scope s.heap.objs.size f cdv)) → sp vs H Q E →
      ∃ t, PSs (cxOf CX0 P w K mg base N qual scope f cdv A outer s H E) body t ∧ t { nx := fun _ H' => Q .non H', rt := Q } (L2.start N vs) H) :
    FnG P w K mg base (k + 1) f (PySem.W.fnOf name qual params body scope dV kV doc pm an cdv ct) ps sp := by
  refine ⟨len, fun A outer s H args us vs Q E hg hr e0 hb r hsp => ?_⟩
  have hl := len vs H Q E hsp
  have KX := PySem.W.Frag.In.keeps e0.mod.kin fun b o e => (e0.bs b o e).1
  have lim := Heap.NoLimit.keeps e0.mod.nolimit fun b o e => (e0.bs b o e).1
  refine codeAny_call_function hr.depth (KX f _ lk) rfl S.co S.gen rfl (PySem.W.codeRec_of KX hcd) ?_
  refine hb (model P w) A.in1 _ _ ?_
  refine wpAny_newFunctionEnv_cells S.kind (fun y hy => ?_) fun env he s1 x => ?_
  · obtain ⟨n, v⟩ := y
    rcases S.par n (List.of_mem_zip hy).1 with q | q
    · exact .inl q
    · exact .inr ⟨q, PySem.W.cellsFrom_some scope.names (s.heap.objs.size + 1) [] (.inl q)⟩
  · subst he
    refine ⟨lim.keeps x.toInCall.keep, codeAny_func ?_⟩
    obtain ⟨t, ht, hq⟩ := hbody A outer s H vs Q E hg (hr.deeper _) hsp
    have I := inv_start (CX := CX0) (w := w) (E := E) S hr.hd e0 hl r x
    refine wpAny_mono (ht.run [] s1 (L2.start N vs) H _ I hq) (fun fl s' hs => ?_) (fun e s' hs => hs)
    cases fl with
    | next =>
      obtain ⟨σ', H', J, q⟩ := hs
      exact ⟨V.non, H', J.os, J.bare, J.base, J.hok, rfl, q⟩
    | brk =>
      obtain ⟨_, _, _, q⟩ := hs
      exact q.elim
    | cont =>
      obtain ⟨_, _, _, q⟩ := hs
      exact q.elim
    | ret u =>
      obtain ⟨v, σ', H', J, rv, q⟩ := hs
      exact ⟨v, H', J.os, J.bare, J.base, J.hok, rv, q⟩
section
variable {X : Cx}
theorem pe_callG {k j : Nat} {f : Addr} {fd : FuncData} {ps : List Str} {sp : Sp} {x : Str} {q pos : Pos} {e : Expr} {es : List Expr} {t : TA}
    (F : FnG X.prog X.w X.K X.mg X.base k f fd ps sp) (hG : X.A.guards = some []) (hr : Room j X.A) (hk : k ≤ j) (hg : Gl X x) (hm : X.mg x = some (.ref f)) (kp : PySem.W.keepIn X.K (.ref f) = true) (hb : Binds X.K fd ps [])
    (ha : PA X (e :: es) t) (hdb : (x == ("__debug__" : Str)) = false := by rfl) (he : starEach (e :: es) X.env = (false, eval e X.env) :: starEach es X.env := by rfl)
    (hpl : ((backTo pos (starEach es X.env)).any fun x => x.1) = false := by rfl) : PE X (.Call (.Name x q) (e :: es) [] pos) (fun σ H Q => t σ H fun vs H1 => sp vs H1 Q fun _ _ _ => False) := by
  refine ⟨fun pins s σ H Q I h => wpAny_Call_Name_kw (ld_glob I hg hm (PySem.W.callWith_K I.ok.mod.kin kp (thn (ha.run pos pins s σ H _ I h) ?_) he hpl) hdb)⟩
  rintro us s1 ⟨vs, H1, I1, r, q1⟩
  refine ⟨I1.kIn, ?_⟩
  have hl : us.length = ps.length := by
    rw [← r.length]
    exact F.len vs H1 Q _ q1
  have b := hb s1 us I1.kIn (by rw [List.append_nil]; exact hl)
  rw [List.append_nil] at b
  refine wpAny_call (codeAny_mono (F.run X.A X.stack s1 H1 ⟨us, []⟩ us vs Q _ hG (hr.mono hk) I1.env0 b r q1) fun rr s' hq => ?_)
  cases rr with
  | error e => exact hq.elim
  | ok fl =>
    cases fl with
    | next => exact hq.elim
    | brk => exact hq.elim
    | cont => exact hq.elim
    | ret u => exact I1.after hq
end
/-- a def by its name, for callers that show nothing just now -/
structure CalG (P : Program) (w : World) (K : PySem.W.Frag) (mg : Str → Option Value) (base : Heap) (k : Nat) (x : Str) (sp : Sp) : Prop where
  ex : ∃ (f : Addr) (fd : FuncData) (ps : List Str), FnG P w K mg base k f fd ps sp ∧ mg x = some (.ref f) ∧ PySem.W.keepIn K (.ref f) = true ∧ Binds K fd ps []
theorem pe_cG {X : Cx} {k j : Nat} {sp : Sp} {x : Str} {q pos : Pos} {e : Expr} {es : List Expr} {t : TA} (c : CalG X.prog X.w X.K X.mg X.base k x sp) (hG : X.A.guards = some []) (hr : Room j X.A) (hk : k ≤ j) (hg : Gl X x) (ha : PA X (e :: es) t)
    (hdb : (x == ("__debug__" : Str)) = false := by rfl) (he : starEach (e :: es) X.env = (false, eval e X.env) :: starEach es X.env := by rfl) (hpl : ((backTo pos (starEach es X.env)).any fun x => x.1) = false := by rfl) :
    PE X (.Call (.Name x q) (e :: es) [] pos) (fun σ H Q => t σ H fun vs H1 => sp vs H1 Q fun _ _ _ => False) := by
  obtain ⟨f, fd, ps, F, g, kp, b⟩ := c.ex
  exact pe_callG F hG hr hk hg g kp b ha hdb he hpl
/-! ### the law's call -/
section
variable {P : Program} {w : World} {K : PySem.W.Frag} {mg mb : Str → Option Value} {k : Nat} {fa a : Addr} {cs : List (Addr × Addr)} {fd : FuncData} {x : Str} {sp : Sp} {s : Shared} {vs : List Value} {ns : List Int}
/-- what is tracked at the start: the script (locked, if it is not in K) and the tables -/
def H0 (s : Shared) (K : PySem.W.Frag) (a : Addr) (vs : List Value) (ns : List Int) (cs : List (Addr × Addr)) : Hp := fun b =>
  if (b = a ∧ K.lookup a = none) then some (.frz { cls := .type "list", data := .seq vs.toArray } (.lst (ns.map V.int))) else if b ∈ cs.map (·.2) then some (.tbl #[]) else none
theorem law_callG (KX : K.In s.heap) (hns : s.heap.Ns mainGlobals mg) (hb : s.heap.Ns builtinsNs mb) (hbb : ∀ x : Str, x ≠ "__name__" → mb x = bootBuiltins x) (hlim : s.heap.NoLimit) (hg : s.gens = #[])
    (hT : ∀ p ∈ cs, s.heap.get? p.2 = some { cls := .none, data := .fields #[] }) (nT : ∀ p ∈ cs, K.lookup p.2 = none) (C : ∀ p ∈ cs, PySem.W.CodeHd s.heap p.1 p.2)
    (hbm : ∃ (bm : Addr) (ob : Obj), mg "__builtins__" = some (.ref bm) ∧ bm ≠ builtinsNs ∧ s.heap.get? bm = some ob ∧ ob.cls = .type "module" ∧ ob.dict = some builtinsNs ∧ ob.data = .plain)
    (ha : s.heap.get? a = some { cls := .type "list", data := .seq vs.toArray }) (hi : IntsAre vs ns) (hl : ns.length ≤ sizeLine) (hr : Room k callerA)
    (F : ∀ base : Heap, K.In base → base.Ns mainGlobals mg → (∀ p ∈ cs, LamX.TabB base mg p.1 p.2) → FnG P w K mg base k fa fd [x] sp) (hbind : ∀ (s : Shared) (u : Value), BindsTo s fd ⟨[u], []⟩ [(x, u)])
    (hsp : ∀ H : Hp, (∀ p ∈ cs, H p.2 = some (.tbl #[])) → SqL K H a (ns.map V.int) → sp [.ref a] H (fun v _ => v = .bl true) fun _ _ _ => False) :
    codeAny (model P w) callerA (.call (.ref fa) ⟨[.ref a], []⟩) (fun r s' => r = .ok (.ret (.bool true)) ∧ OldK s.heap s'.heap ∧ s'.os = s.os ∧ AllBare s'.gens) s := by
  have rv := vals_ints hi
  have lenV := hi.length
  have tab : ∀ b, b ∈ cs.map (·.2) → s.heap.get? b = some { cls := .none, data := .fields #[] } := fun b hb => by
    obtain ⟨p, hp, rfl⟩ := List.mem_map.mp hb
    exact hT p hp
  have at_ : a ∉ cs.map (·.2) := fun z => nomatch (ha.symm.trans (tab a z))
  generalize hH : H0 s K a vs ns cs = H
  have HT : ∀ b, b ∈ cs.map (·.2) → H b = some (.tbl #[]) := fun b hb => by
    rw [← hH]
    exact (if_neg (fun z : b = a ∧ K.lookup a = none => at_ (z.1 ▸ hb))).trans (if_pos hb)
  have HA : K.lookup a = none → H a = some (.frz { cls := .type "list", data := .seq vs.toArray } (.lst (ns.map V.int))) := fun z => by
    rw [← hH]
    exact if_pos ⟨rfl, z⟩
  have HN : ∀ b, b ∉ cs.map (·.2) → ¬ (b = a ∧ K.lookup a = none) → H b = none := fun b h1 h2 => by
    rw [← hH]
    exact (if_neg h2).trans (if_neg h1)
  have three : ∀ b, b ∈ cs.map (·.2) ∨ (b = a ∧ K.lookup a = none) ∨ H b = none := fun b => by
    by_cases h1 : b ∈ cs.map (·.2)
    · exact .inl h1
    · by_cases h2 : b = a ∧ K.lookup a = none
      · exact .inr (.inl h2)
      · exact .inr (.inr (HN b h1 h2))
  have okH : HOk P w H s.heap := fun b o e => by
    rcases three b with z | ⟨rfl, z⟩ | z
    · rw [HT b z] at e
      obtain rfl := Option.some.inj e
      exact tab b z
    · rw [HA z] at e
      obtain rfl := Option.some.inj e
      exact ⟨ha, by rw [List.length_map]; exact hl, vs, _, rv, ha⟩
    · rw [z] at e
      exact nomatch e
  have seq : SqL K H a (ns.map V.int) := by
    cases hk : K.lookup a with
    | none => exact .inl (.inr ⟨_, HA hk⟩)
    | some o =>
      obtain rfl := Option.some.inj ((KX a o hk).symm.trans ha)
      exact .inr ⟨_, vs.toArray, _, hk, rfl, rfl, rfl, by rw [List.size_toArray, lenV]; exact hl, by simpa using rv⟩
  -- an object that is no list and no empty table is not tracked
  have out : ∀ {b : Addr} {o : Obj}, s.heap.get? b = some o → (∀ l n, o.data ≠ .seq l n) → o.data ≠ .fields #[] → H b = none := fun {b o} e h1 h2 => by
    rcases three b with z | ⟨rfl, z⟩ | z
    · exact absurd (congrArg Obj.data (Option.some.inj (e.symm.trans (tab b z)))) h2
    · exact absurd (congrArg Obj.data (Option.some.inj (e.symm.trans ha))) (h1 _ _)
    · exact z
  have dic : ∀ {b : Addr} {o : Obj} {es : Array DictEntry} {n : Nat}, s.heap.get? b = some o → o.data = .dict es n → H b = none := fun {b o es n} e d => out e (fun l m z => nomatch (d.symm.trans z)) (fun z => nomatch (d.symm.trans z))
  have nsB : ∀ {b : Addr} {m : Str → Option Value}, s.heap.Ns b m → (hidT s.heap H).Ns b m := fun {b m} h => by
    obtain ⟨o, es, n, e, d, r⟩ := h
    exact ⟨o, es, n, hidT_get e (dic e d), d, r⟩
  have kB : K.In (hidT s.heap H) := fun b o e => hidT_get (KX b o e) (by
    rcases three b with z | ⟨rfl, z⟩ | z
    · obtain ⟨p, hp, rfl⟩ := List.mem_map.mp z
      exact nomatch ((nT p hp).symm.trans e)
    · exact nomatch (z.symm.trans e)
    · exact z)
  have TBs : ∀ p ∈ cs, LamX.TabB (hidT s.heap H) mg p.1 p.2 := fun p hp => by
    have tp := hT p hp
    refine ⟨?_, ?_, fun z => ?_⟩
    · obtain ⟨o, us, file, tf, flags, tg, inF, text, tt, e1, r1, r2, r3, r⟩ := C p hp
      refine ⟨o, us, file, tf, flags, tg, inF, text, tt, hidT_get e1 (out e1 (fun l n z => nomatch (r2.symm.trans z)) (fun z => ?_)), r1, r2, r3, r⟩
      rw [r2] at z
      cases z
      simp at r3
    · obtain ⟨bm, ob, b1, b2, b3, b4, b5, b6⟩ := hbm
      refine ⟨bm, ob, b1, b2, fun z => ?_, fun z => ?_, hidT_get b3 (out b3 (fun l n z => nomatch (b6.symm.trans z)) (fun z => nomatch (b6.symm.trans z))), b4, b5, b6⟩
      · obtain ⟨o, es, n, e, d, _⟩ := hns
        rw [← z, b3] at e
        obtain rfl := Option.some.inj e
        exact nomatch (b6.symm.trans d)
      · rw [z, tp] at b3
        obtain rfl := Option.some.inj b3
        exact nomatch b6
    · obtain ⟨o, es, n, e, d, _⟩ := hns
      rw [z, tp] at e
      obtain rfl := Option.some.inj e
      exact nomatch d
  have M : L2.Mod K mg (hidT s.heap H) := ⟨kB, nsB hns, ⟨mb, nsB hb, hbb⟩, by
    obtain ⟨mc, h1, h2⟩ := hlim
    exact ⟨mc, nsB h1, h2⟩⟩
  have e0 : Env0 P w K mg (hidT s.heap H) callerA [] s H := ⟨rfl, M, fun b o e => of_hidT e, Nat.le_of_eq (hidT_size _ _), trivial, (fun b hb => (List.not_mem_nil hb).elim), okH, .of_eq hg⟩
  refine codeAny_mono ((F _ kB (nsB hns) TBs).run callerA [] s H ⟨[.ref a], []⟩ [.ref a] [.ref a] _ _ rfl hr e0 (hbind s (.ref a)) (.cons rfl .nil) (hsp H (fun p hp => HT p.2 (List.mem_map.mpr ⟨p, hp, rfl⟩)) seq)) fun r s' h => ?_
  cases r with
  | error e => exact False.elim h
  | ok fl =>
    cases fl with
    | next => exact False.elim h
    | brk => exact False.elim h
    | cont => exact False.elim h
    | ret u =>
      obtain ⟨v, H', os, bare, un, ok', r', q⟩ := h
      obtain rfl : v = .bl true := q
      obtain rfl : u = .bool true := r'
      have none_ : ∀ {b : Addr}, b ∉ ([] : List Addr) := fun z => nomatch z
      have old : ∀ b o, b ∉ cs.map (·.2) → s.heap.get? b = some o → s'.heap.get? b = some o := fun b o nb e => by
        rcases three b with z | ⟨rfl, z⟩ | z
        · exact absurd z nb
        · obtain ⟨e2, _⟩ := ok' _ _ (un.frzs _ _ _ (HA z))
          rw [ha] at e
          exact e ▸ e2
        · exact un.keep b o e z none_ none_
      have grown : ∀ p ∈ cs, ∃ more : Array Value, s'.heap.get? p.2 = some { cls := .none, data := .fields more } := fun p hp => by
        obtain ⟨more, z⟩ := un.tbls p.2 #[] (HT p.2 (List.mem_map.mpr ⟨p, hp, rfl⟩))
        exact ⟨_, ok' p.2 _ z⟩
      refine ⟨rfl, ⟨fun b o e => ?_, fun b o e => ?_⟩, os, bare⟩
      · by_cases hb : b ∈ cs.map (·.2)
        · obtain ⟨p, hp, rfl⟩ := List.mem_map.mp hb
          obtain ⟨more, hm⟩ := grown p hp
          obtain rfl := Option.some.inj (e.symm.trans (hT p hp))
          exact .inr (.inl ⟨((C p hp).tab (hT p hp)).isCodeTable, rfl, #[], more, rfl, by rw [Array.empty_append]; exact hm⟩)
        · exact .inl (old b o hb e)
      · by_cases hb : b ∈ cs.map (·.2)
        · obtain ⟨p, hp, rfl⟩ := List.mem_map.mp hb
          obtain ⟨more, hm⟩ := grown p hp
          exact ⟨_, hm⟩
        · exact ⟨o, old b o hb e⟩
end
/-- what is known of the law's promise at the head's heap h -/
def LawAtG (l : PySem.W.OpenLaw) (w : World) (K : PySem.W.Frag) (k n : Nat) (x : Str) (mg : Str → Option Value) (h : Heap) : Prop :=
  ∃ (fa : Addr) (fd : FuncData) (cs : List (Addr × Addr)) (sp : Sp), mg "law" = some (.ref fa) ∧ (∀ p ∈ cs, h.get? p.2 = some { cls := .none, data := .fields #[] }) ∧ (∀ p ∈ cs, K.lookup p.2 = none) ∧ (∀ p ∈ cs, PySem.W.CodeHd h p.1 p.2) ∧
    (∀ (s : Shared) (u : Value), BindsTo s fd ⟨[u], []⟩ [(x, u)]) ∧
    (∀ (H : Hp) (a : Addr) (ns : List Int), ns.length ≤ n → (∀ z ∈ ns, Builtin.Int.intBits z ≤ 1048576) → (∀ p ∈ cs, H p.2 = some (.tbl #[])) → SqL K H a (ns.map V.int) → sp [.ref a] H (fun v _ => v = .bl true) fun _ _ _ => False) ∧
    ∀ base : Heap, K.In base → base.Ns mainGlobals mg → (∀ p ∈ cs, LamX.TabB base mg p.1 p.2) → FnG l.prog w K mg base k fa fd [x] sp
theorem walk_ofG {l : PySem.W.OpenLaw} {n k : Nat} {q : Program} {loose : List Str} {XP : (Str → Option Value) → Heap → Prop} {YP : World → Heap → Prop} {d : DefRec} {x : Str} (hn : l.most = some n) (hn2 : n ≤ sizeLine) (hdf : d.params.defaults = []) (hname : d.name = "law") (hr : Room k callerA)
    (F : ∀ (w : World) (mg : Str → Option Value) (h : Heap), YP w h → h.Ns mainGlobals mg → (∃ fa, mg "law" = some (.ref fa)) → ∃ K : PySem.W.Frag, K.In h ∧ LawAtG l w K k n x mg h) : PySem.W.WalkO q loose XP YP l.row.toRowW d [] (fun f vs => PySem.call f vs) := by
  refine Att.attach_callB hn hdf fun w s₀ s₁ mg mb fa o pm cd doc a vs ns G Y ho hd hcd hmg hobj hints hlen hbits hg => ?_
  rw [hname] at hmg
  obtain ⟨K, KX, fa2, fd, cs, sp, hf, hT, nT, C, hb, hsp, hF⟩ := F w mg _ Y G.T.g ⟨fa, hmg⟩
  obtain rfl : fa2 = fa := Value.ref.inj (Option.some.inj (hf.symm.trans hmg))
  exact law_callG KX G.T.g G.T.b G.T.builtins G.T.nolimit hg hT nT C G.T.bmain hobj hints (Nat.le_trans hlen hn2) hr hF hb fun H hH hS => hsp H a ns hlen hbits hH hS
end Cs
set_option maxHeartbeats 4000000
/-! Rules of my own: errors of own classes over any built-in base, held as values. -/
namespace Cs
open PySem L2 PyProof.Rows
open PySem.W (InstAt)
open Builtin Builtin.ObjectAttr
/-- what is known of an own class of errors at C, over the built-in base B -/
structure OexG (K : PySem.W.Frag) (C : Addr) (bmB : List Value) (newId : String) : Prop where
  ini : PySem.W.excInitIn K C bmB newId = true
  over : PySem.W.excOver K C bmB = true
  sa : PySem.W.findIn K (.ref C) "__setattr__" = some (some (.builtin "object.__setattr__"))
  hd : PySem.W.hasDictIn K C = true
  kC : PySem.W.keepIn K (.ref C) = true
abbrev rawX (C t : Addr) (d : Option Addr) : Obj := { cls := .ref C, dict := d, data := .fields #[.ref t, .none, .none, .none, .bool false, .none] }
section
variable {prog : Program} {w : World} {A : Around} {E : Value → Shared → Prop} {s : Shared}
/-- the first store to an error that has no dict yet -/
theorem store_first {K : PySem.W.Frag} {x C t : Addr} {name : Str} {tk : Tok} {v : Value} {b : Bool} {Q : Fin → Shared → Prop} (X : K.In s.heap) (hx : s.heap.get? x = some (rawX C t none)) (hh : PySem.W.hasDictIn K C = true)
    (k : ∀ h' tk' dx, (∀ b o, b ≠ x → s.heap.get? b = some o → h'.get? b = some o) → s.heap.objs.size ≤ dx → dx ≠ x → h'.get? x = some (rawX C t (some dx)) → h'.Ns1 dx (fun y => if y = name then some v else none) →
      Q (.done (.ret .none)) { s with heap := h', toks := tk' }) :
    wpAny (model prog w) A (storeInOwnDict (.ref x) (.ref C) (.str name tk) name v b) Q E s := by
  obtain ⟨cd, hc, hh⟩ := PySem.W.any_some hh
  have LC : PySem.W.Looks (model prog w) s.heap (classData C) cd := PySem.W.looks_clsIn X hc
  obtain ⟨hp, g, d, tok, os⟩ := s
  have nx : x ≠ hp.objs.size := Nat.ne_of_lt (Heap.lt_size hx)
  obtain ⟨c1, c2, c3, c4, c5, c6, c7, c8, c9, c10, c11⟩ := cd
  have hh : c6 = true := hh
  subst hh
  unfold storeInOwnDict ownDictForStores
  repeat (first | with_reducible refine HandSPX.store_in_new ?_ ?_ | with_reducible refine wpAny_loadPart_at hx ?_ | with_reducible refine LC.at ?_ | wp_step)
  · exact ⟨_, #[], _, (Heap.get?_update_ne _ _ _ _ (Ne.symm nx)).trans (Heap.get?_push_at rfl rfl), rfl, fun y hy => absurd hy (by simp), fun _ => rfl⟩
  · intro h2 t2 n2 b2
    have old : (hp.push { cls := .type "dict", data := .dict #[] }).get? x = some (rawX C t none) := Heap.get?_push_of_some _ hx
    refine k h2 t2 hp.objs.size (fun y o ny hy => ?_) (Nat.le_refl _) (Ne.symm nx) ?_ n2
    · rw [b2.2 y (Nat.ne_of_lt (Heap.lt_size hy)), Heap.get?_update_ne _ _ _ _ ny]
      exact Heap.get?_push_of_some _ hy
    · rw [b2.2 x nx]
      exact Heap.get?_update_self _ old rfl
end
section
variable {X : Cx} {pins : List (Addr × Obj)} {σ : L2.St} {H : Hp} {s : Shared} {a C : Addr} {f : Str} {y : V} {u : Value} {bmB : List Value} {B newId initId : String}
/-- self.f = y in an __init__, the first one -/
theorem set_first {A : Around} {E : Value → Shared → Prop} {Q : Unit → Shared → Prop} (SF : StoreFacts B bmB "object.__setattr__" "object") (T : OexG X.K C bmB newId) (I : L2.Inv X pins σ H s) (e : H a = some (exo a C none)) (ht : PySem.W.takerIn X.K C f = some none) (ry : RelV y u)
    (h : ∀ dx s', H dx = none → dx ≠ a → L2.Inv X pins σ (upd (upd H dx (exd dx [(f, y)])) a (exo a C (some dx))) s' → Q () s') : wpAny (model X.prog X.w) A (setAttr (.ref a) f u) Q E s := by
  obtain ⟨t, ho⟩ := exo_at I.hok e
  have KI := I.kIn
  obtain ⟨hp, g, d, tok, os⟩ := s
  refine PySem.W.set_plain KI (ox := rawX C t none) (od := none) ⟨ho, rfl, rfl, trivial⟩ T.sa (PySem.W.osa_openX (ox := rawX C t none) (od := none) SF KI ⟨ho, rfl, rfl, trivial⟩ T.over ht fun b => store_first KI ho T.hd fun h2 t2 dx kp ge ne at2 ns => ?_)
  have hdx : H dx = none := I.hok.fresh ge
  have da : ∀ {b : Addr}, H b = none → b ≠ a := fun {b} n z => by
    rw [z, e] at n
    exact nomatch n
  have dd : ∀ {b : Addr} {o : Obj}, hp.get? b = some o → b ≠ dx := fun {b o} q z => absurd (Heap.lt_size q) (by rw [z]; exact Nat.not_lt.mpr ge)
  have eq2 : ∀ b o, H b = some o → o ≠ exo a C none → upd (upd H dx (exd dx [(f, y)])) a (exo a C (some dx)) b = some o := fun b o q nq => by
    rw [upd_ne (fun z => by rw [z, e] at q; exact nq (Option.some.inj q).symm), upd_ne (ne_of_none q hdx)]
    exact q
  have U : Un X.fs [] H (upd (upd H dx (exd dx [(f, y)])) a (exo a C (some dx))) hp h2 := by
    refine ⟨?_, ?_, ?_, ?_, ?_, ?_, ?_⟩
    · exact fun b o q n _ _ => kp b o (da n) q
    · exact fun b o q n _ _ => ⟨o.slots, kp b o (da n) q⟩
    · exact fun b o q n _ => (upd_ne (da n)).trans ((upd_ne (dd q)).trans n)
    · intro b o q _
      by_cases z : b = a
      · exact z ▸ ⟨_, at2⟩
      · exact ⟨o, kp b o z q⟩
    · exact fun b xs q => eq2 b _ q (Ne.symm exo_tup)
    · exact fun b o v q => eq2 b _ q (Ne.symm exo_frz)
    · exact fun b ps q => ⟨#[], by rw [eq2 b _ q (Ne.symm exo_tbl)]; simp⟩
  refine h dx _ hdx ne (I.un (t' := t2) U fun b o q => ?_)
  by_cases za : b = a
  · subst za
    obtain rfl := Option.some.inj ((upd_same).symm.trans q)
    exact exo_ok at2
  · rw [upd_ne za] at q
    by_cases zd : b = dx
    · subst zd
      obtain rfl := Option.some.inj ((upd_same).symm.trans q)
      exact exd_ok ns (relO_put (fs := []) ry fun _ => trivial)
    · rw [upd_ne zd] at q
      refine (I.hok b o q).stay (fun c v hc z => kp c v ?_ z) (fun c hc => eq2 c _ hc (Ne.symm exo_own)) (fun c xs hc => eq2 c _ hc (Ne.symm exo_tup))
      rcases hc with hc | hc
      · exact hc ▸ za
      · exact at_ne e hc exo_own
def tSetF (a C : Addr) (f : Str) (te : TE) : TS := fun D σ H => te σ H fun y H1 => H1 a = some (exo a C none) ∧ σ[0]? = some (some (.ref a)) ∧ ∀ dx, H1 dx = none → dx ≠ a → D.nx σ (upd (upd H1 dx (exd dx [(f, y)])) a (exo a C (some dx)))
end
/-- __init__ of an error that keeps what it is made with under the name f -/
def SpXI (C : Addr) (f : Str) : Sp := fun vs H Q _ => ∃ (a : Addr) (y : V), vs = [.ref a, y] ∧ H a = some (exo a C none) ∧
  ∀ d, H d = none → d ≠ a → Q .non (upd (upd H d (exd d [(f, y)])) a (exo a C (some d)))
section
variable {X : Cx} {C : Addr} {f : Str} {bmB : List Value} {B newId initId : String} {o e : Expr} {to te : TE} {p' pos : Pos}
def tOsG (C : Addr) (f : Str) (to te : TE) : TS := fun D σ H => te σ H fun y H1 => to σ H1 fun x H2 => ∃ a : Addr, x = .ref a ∧ H2 a = some (exo a C none) ∧ ∀ dx, H2 dx = none → dx ≠ a → D.nx σ (upd (upd H2 dx (exd dx [(f, y)])) a (exo a C (some dx)))
theorem ps_osG (SF : StoreFacts B bmB "object.__setattr__" "object") (T : OexG X.K C bmB newId) (ht : PySem.W.takerIn X.K C f = some none) (ho : PE X o to) (he : PE X e te) (hs : swapsWith e (some (.Attribute o f p')) pos.line X.env = pure false := by rfl) :
    PS X (.Assign [.Attribute o f p'] e pos) (tOsG C f to te) := by
  refine ⟨fun pins s σ H D I h => plainObj_wpAny_Assign_Attribute (thn (he.run pins s σ H _ I h) ?_) hs⟩
  rintro v s1 ⟨y, H1, I1, r1, q1⟩
  refine thn (ho.run pins s1 σ H1 _ I1 q1) ?_
  rintro u s2 ⟨x, H2, I2, r2, a, rfl, ea, q⟩
  cases r2
  exact set_first SF T I2 ea ht r1 fun dx s' n ne J => ⟨σ, _, J, q dx n ne⟩
end
/-- what C(v) makes: a new error at a, its dict at d -/
def tMkV (C : Addr) (f : Str) (ta : TA) : TE := fun σ H Q => ta σ H fun vs H1 => ∃ v, vs = [v] ∧ ∀ a d H', H1 a = none → H1 d = none → Same H1 H' → H' a = some (exo a C (some d)) → H' d = some (exd d [(f, v)]) → Q (.ref a) H'
/-- what is known of the class x, which keeps one thing under f -/
structure XAt (K : PySem.W.Frag) (mg : Str → Option Value) (x : Str) (C : Addr) (f : Str) (bmB : List Value) (newId : String) (fI : Addr) (fd : FuncData) : Prop where
  T : OexG K C bmB newId
  g : mg x = some (.ref C)
  ini : PySem.W.findIn K (.ref C) "__init__" = some (some (.ref fI))
  ty : PySem.W.typeIn K (.ref fI) = some (.type "function")
  b : Binds K fd ["self", f] []
  kb : KBn K fd ["self", f] 1 [f] (fun us ws => us ++ ws) (fun vs zs => vs ++ zs)
/-- what __init__ has made of the new error at a -/
def MadeOf (H : Hp) (C : Addr) (f : Str) (v : V) (a : Addr) (H' : Hp) : Prop := ∃ d, H d = none ∧ Same H H' ∧ H' a = some (exo a C (some d)) ∧ H' d = some (exd d [(f, v)])
section
variable {X : Cx} {C fI : Addr} {f : Str} {bmB : List Value} {B newId initId : String} {e : Expr} {te : TE} {fd : FuncData} {p pos kp : Pos} {x : Str} {pins : List (Addr × Obj)} {σ : L2.St} {H : Hp} {s : Shared} {u : Value} {v : V} {Q : VK}
/-- the making, whatever way v comes in: what __init__ leaves is the error -/
theorem made_end {A : Around} {args : Args} (F : FnOk X.prog X.w X.K X.mg X.base CX0 1 fI fd ["self", f] (SpXI C f)) (hr : Room 1 A) {h2 : Heap} {g : Array GenState} {dr : Drawn} {tk : Nat} {os : OsState} {a : Addr} (hn : H a = none)
    (e0 : Env0 X.prog X.w X.K X.mg X.base A X.stack ⟨h2, g, dr, tk, os⟩ (upd H a (exo a C none))) (I2 : L2.Inv X pins σ (upd H a (exo a C none)) ⟨h2, g, dr, tk, os⟩) (hb : BindsTo ⟨h2, g, dr, tk, os⟩ fd args [("self", .ref a), (f, u)]) (r : RelV v u)
    (k : ∀ d H', H d = none → Same H H' → H' a = some (exo a C (some d)) → H' d = some (exd d [(f, v)]) → Q (.ref a) H') :
    codeAny (model X.prog X.w) A (.call (.ref fI) args) (fun r s' => match r with | .ok (.ret z) => z = .none ∧ EP X pins σ Q (.ref a) s' | _ => False) ⟨h2, g, dr, tk, os⟩ := by
  refine codeAny_mono (F.run A X.stack ⟨h2, g, dr, tk, os⟩ (upd H a (exo a C none)) args [.ref a, u] [.ref a, v] (fun z H3 => z = .non ∧ MadeOf H C f v a H3) (fun _ _ _ => False) hr e0 hb (.cons rfl (.cons r .nil)) ⟨a, v, rfl, upd_same, fun d hd hne => ⟨rfl, d, ?_, fun b o q => ?_, upd_same, ?_⟩⟩) fun rr s' hq => ?_
  · rw [upd_ne hne] at hd
    exact hd
  · rw [upd_ne hne] at hd
    rw [upd_ne (ne_of_none q hn), upd_ne (ne_of_none q hd), upd_ne (ne_of_none q hn)]
    exact q
  · rw [upd_ne hne, upd_same]
  · cases rr with
    | error z => exact False.elim hq
    | ok fl =>
      cases fl with
      | next => exact False.elim hq
      | brk => exact False.elim hq
      | cont => exact False.elim hq
      | ret z =>
        obtain ⟨y, H3, o3, b3, u3, k3, rz, ez, d, hd, sm, h1, h2'⟩ := hq
        subst ez
        refine ⟨rz, .ref a, H3, I2.call' (ch := []) o3 u3 k3 b3 (fun b hb => (List.not_mem_nil hb).elim), rfl, k d H3 hd sm h1 h2'⟩
theorem run_pos (FB : ExcBaseFacts B newId initId bmB) (D : XAt X.K X.mg x C f bmB newId fI fd) (F : FnOk X.prog X.w X.K X.mg X.base CX0 1 fI fd ["self", f] (SpXI C f)) (hr : Room 2 X.A) (I : L2.Inv X pins σ H s) (r : RelV v u)
    (k : ∀ a d H', H a = none → H d = none → Same H H' → H' a = some (exo a C (some d)) → H' d = some (exd d [(f, v)]) → Q (.ref a) H') : wpAny (model X.prog X.w) X.A (call (.ref C) [u]) (EP X pins σ Q) X.xe s := by
  have KI := I.kIn
  obtain ⟨nm, N', qn, bs, bm, hdct, sn, sub, ab, col, dd, k0, k1, k2, k3, k5, hC, hT⟩ := PySem.W.excInit_of KI D.T.ini
  obtain ⟨hp, g, dr, tk, os⟩ := s
  have ge : hp.objs.size ≤ hp.objs.size + 1 := Nat.le_succ _
  have hn : H (hp.objs.size + 1) = none := I.hok.fresh ge
  have at2 : ((hp.push (PySem.W.kdv_tup [u])).push (HandSPX.excO C hp.objs.size)).get? (hp.objs.size + 1) = some (HandSPX.excO C hp.objs.size) := by heap_get
  have I2 := I.laid (t' := tk) (a := hp.objs.size + 1) (o := exo (hp.objs.size + 1) C none) (h' := (hp.push (PySem.W.kdv_tup [u])).push (HandSPX.excO C hp.objs.size)) (fun b o q => Heap.get?_push_of_some _ (Heap.get?_push_of_some _ q)) ge (exo_ok at2)
  refine wpAny_call (HandSPX.call_own FB hT hC (PySem.W.looks_findIn KI D.ini) (fun self => PySem.W.bind_fn KI self D.ty) (by show 1 ≤ sizeLine; decide) (codeAny_mono (made_end F (hr.make C [u] []) hn (I2.env0.make C [u] []) I2
    (D.b _ [.ref (hp.objs.size + 1), u] I2.kIn rfl) r fun d H' => k _ d H' hn) fun rr s' hq => ?_))
  rcases rr with z | (z | _ | _ | _) <;> first | exact hq | exact False.elim hq
theorem run_kw (FB : ExcBaseFacts B newId initId bmB) (D : XAt X.K X.mg x C f bmB newId fI fd) (F : FnOk X.prog X.w X.K X.mg X.base CX0 1 fI fd ["self", f] (SpXI C f)) (hr : Room 2 X.A) (I : L2.Inv X pins σ H s) (r : RelV v u)
    (k : ∀ a d H', H a = none → H d = none → Same H H' → H' a = some (exo a C (some d)) → H' d = some (exd d [(f, v)]) → Q (.ref a) H') : codeAny (model X.prog X.w) X.A (.call (.ref C) ⟨[], [(f, u)]⟩) (fun r s' => match r with | .ok (.ret z) => EP X pins σ Q z s' | _ => False) s := by
  have KI := I.kIn
  obtain ⟨nm, N', qn, bs, bm, hdct, sn, sub, ab, col, dd, k0, k1, k2, k3, k5, hC, hT⟩ := PySem.W.excInit_of KI D.T.ini
  obtain ⟨hp, g, dr, tk, os⟩ := s
  have ge : hp.objs.size ≤ hp.objs.size + 1 := Nat.le_succ _
  have hn : H (hp.objs.size + 1) = none := I.hok.fresh ge
  have at2 : ((hp.push { cls := .type "tuple", data := .seq #[] }).push (CsLow.rawX C hp.objs.size none)).get? (hp.objs.size + 1) = some (CsLow.rawX C hp.objs.size none) := by heap_get
  have I2 := I.laid (t' := tk) (a := hp.objs.size + 1) (o := exo (hp.objs.size + 1) C none) (h' := (hp.push { cls := .type "tuple", data := .seq #[] }).push (CsLow.rawX C hp.objs.size none)) (fun b o q => Heap.get?_push_of_some _ (Heap.get?_push_of_some _ q)) ge (exo_ok at2)
  refine CsLow.call_kw FB hT hC (PySem.W.looks_findIn KI D.ini) (fun self => PySem.W.bind_fn KI self D.ty) (codeAny_mono (made_end F (hr.make C [] [(f, u)]) hn (I2.env0.make C [] [(f, u)]) I2
    (D.kb.to _ [.ref (hp.objs.size + 1)] [u] I2.kIn rfl rfl) r fun d H' => k _ d H' hn) fun rr s' hq => ?_)
  rcases rr with z | (z | _ | _ | _) <;> first | exact hq | exact False.elim hq
/-- C(e), as a value -/
theorem mk_pos (FB : ExcBaseFacts B newId initId bmB) (D : XAt X.K X.mg x C f bmB newId fI fd) (F : FnOk X.prog X.w X.K X.mg X.base CX0 1 fI fd ["self", f] (SpXI C f)) (hr : Room 2 X.A) (hg : Gl X x) (he : PE X e te) (hdb : (x == ("__debug__" : Str)) = false := by rfl)
    (hs : starEach [e] X.env = (false, eval e X.env) :: starEach [] X.env := by rfl) (hpl : ((backTo pos (starEach [] X.env)).any fun x => x.1) = false := by rfl) : PE X (.Call (.Name x p) [e] [] pos) (tMkV C f (tCons te tNil)) := by
  refine ⟨fun pins s σ H Q I h => wpAny_Call_Name_kw (ld_glob I hg D.g (PySem.W.callWith_K I.ok.mod.kin D.T.kC (thn ((pa_cons he pa_nil hs).run pos pins s σ H _ I h) ?_) hs hpl) hdb)⟩
  rintro us s1 ⟨vs, H1, I1, r, v, rfl, k⟩
  refine ⟨I1.kIn, ?_⟩
  obtain ⟨u, rfl, ru⟩ := r.one
  exact run_pos FB D F hr I1 ru k
/-- C(f=e), as a value -/
theorem mk_kw (FB : ExcBaseFacts B newId initId bmB) (D : XAt X.K X.mg x C f bmB newId fI fd) (F : FnOk X.prog X.w X.K X.mg X.base CX0 1 fI fd ["self", f] (SpXI C f)) (hr : Room 2 X.A) (hg : Gl X x) (he : PE X e te) (hdb : (x == ("__debug__" : Str)) = false := by rfl)
    (hall : ((backToKw pos (keywordEach [⟨some f, e, kp⟩] X.env)).all fun x => x.1.isSome) = true := by rfl) (hks : (backToKw pos (keywordEach [⟨some f, e, kp⟩] X.env)).filterMap (fun x => x.1) = [f] := by rfl)
    (hpl : (((backTo pos (starEach [] X.env)).any fun x => x.1) || ((backToKw pos (keywordEach [⟨some f, e, kp⟩] X.env)).any fun x => x.1.isNone)) = false := by rfl) : PE X (.Call (.Name x p) [] [⟨some f, e, kp⟩] pos) (tMkV C f (tCons te tNil)) := by
  refine ⟨fun pins s σ H Q I h => wpAny_Call_Name_kw (ld_glob I hg D.g (PySem.W.callWith_KW0 (h₀ := X.base) I.ok.mod.kin D.T.kC hall (thn ((pk_cons he pk_nil).run pos pins s σ H _ I h) ?_) hpl) hdb)⟩
  rintro us s1 ⟨vs, H1, I1, r, v, rfl, k⟩
  refine ⟨I1.kIn, ?_⟩
  obtain ⟨u, rfl, ru⟩ := r.one
  rw [hks]
  refine wpAny_call (codeAny_mono (run_kw FB D F hr I1 ru k) fun rr s' hq => ?_)
  rcases rr with z | (z | _ | _ | _) <;> first | exact hq | exact False.elim hq
end
end Cs
set_option maxHeartbeats 4000000
/-! Errors held as values: made with nothing, asked for their class, read. -/
namespace Cs
open PySem L2 PyProof.Rows
open PySem.W (InstAt)
/-- an error of the class C at a; what it keeps is told by fs, if it keeps anything -/
def ErrAt (H : Hp) (a C : Addr) (fs : List (Str × V)) : Prop := (fs = [] ∧ H a = some (exo a C none)) ∨ ∃ d, H a = some (exo a C (some d)) ∧ H d = some (exd d fs)
theorem ErrAt.keep {H H' : Hp} {a C : Addr} {fs : List (Str × V)} (h : ErrAt H a C fs) (s : Same H H') : ErrAt H' a C fs := by
  rcases h with ⟨e, h⟩ | ⟨d, h1, h2⟩
  · exact .inl ⟨e, s _ _ h⟩
  · exact .inr ⟨d, s _ _ h1, s _ _ h2⟩
section
variable {X : Cx} {C : Addr} {bmB : List Value} {B newId initId : String} {p pos : Pos} {x : Str}
def tMk0 (C : Addr) : TE := fun _ H Q => ∀ a H', H a = none → Same H H' → H' a = some (exo a C none) → Q (.ref a) H'
/-- C(), no __init__ of its own -/
theorem mk_none (FB : ExcBaseFacts B newId initId bmB) (q : PySem.W.excIn X.K C bmB newId = true) (g : X.mg x = some (.ref C)) (kC : PySem.W.keepIn X.K (.ref C) = true) (hg : Gl X x) (hdb : (x == ("__debug__" : Str)) = false := by rfl) : PE X (.Call (.Name x p) [] [] pos) (tMk0 C) := by
  refine ⟨fun pins s σ H Q I h => wpAny_Call_Name_kw (ld_glob I hg g (PySem.W.callWith_K0 I.kIn kC ?_) hdb)⟩
  obtain ⟨bm, N, nm, qn, bs, hdct, sn, sub, ab, col, dd, k0, k1, k2, k3, k5, mN, hC, hN, hni, T⟩ := exc_obj I.kIn q
  obtain ⟨hp, gg, d, t, os⟩ := s
  refine wpAny_call_exc_subT FB T hC hN hni (fun h' a hm => ?_) (by show 0 ≤ sizeLine; decide)
  have hn : H a = none := I.hok.gone hm.new
  obtain ⟨t2, ht, _, _⟩ := hm.there
  exact ⟨.ref a, upd H a (exo a C none), I.laidN hm.keeps hm.new hn (exo_ok ht), rfl, h a _ hn (same_new hn) upd_same⟩
/-- an error, as an instance -/
theorem ErrAt.inst {pins : List (Addr × Obj)} {σ : L2.St} {H : Hp} {s : Shared} {a : Addr} {fs : List (Str × V)} (h : ErrAt H a C fs) (I : L2.Inv X pins σ H s) : ∃ ox, InstAt s.heap a ox C none ∨ ∃ od, InstAt s.heap a ox C (some od) ∧ ∀ f v, fs.lookup f = some v → ∃ u, PySem.W.lookIn f od = some (some u) ∧ RelV v u := by
  rcases h with ⟨e, h⟩ | ⟨d, h1, h2⟩
  · obtain ⟨t, ho⟩ := exo_at I.hok h
    exact ⟨_, .inl ⟨ho, rfl, rfl, trivial⟩⟩
  · obtain ⟨t, ho⟩ := exo_at I.hok h1
    obtain ⟨mA, hns, rel⟩ := exd_at I.hok h2
    obtain ⟨od, hod, hl⟩ := lookIn_ns hns
    refine ⟨_, .inr ⟨od, ⟨ho, rfl, rfl, hod⟩, fun f v hf => ?_⟩⟩
    have r := rel f
    rw [hf] at r
    obtain ⟨u, e, ru⟩ := RelO.some_of r
    exact ⟨u, by rw [hl f, e], ru⟩
def rIsV (K : PySem.W.Frag) : List V → Hp → VK → Prop := fun xs H Q => ∃ (a C : Addr) (fs : List (Str × V)) (c : V) (cv : Value) (b : Bool), xs = [.ref a, c] ∧ ClsV c cv ∧ ErrAt H a C fs ∧ ExcC K C ∧ PySem.W.kitOne K (.ref C) cv = some b ∧ Q (.bl b) H
/-- isinstance of an error -/
theorem call_isV : CallR X (.builtin "isinstance") (rIsV X.K) := by
  rintro pins s σ H xs us Q I r ⟨a, C, fs, c, cv, b, rfl, hc, he, T, e, q⟩
  obtain ⟨u1, u2, rfl, r1, r2⟩ := vals2 r
  obtain rfl := hc.eq r2
  cases r1
  obtain ⟨ox, i | ⟨od, i, _⟩⟩ := he.inst I
  · exact PySem.W.kia_one (PySem.W.handS_kitx_exc T.hg T.hk T.hs T.hd T.ha T.hn T.ht T.hm) I.kIn i e (by intro z; cases z) fun tk => ⟨.bl b, H, I.tok tk, rfl, q⟩
  · exact PySem.W.kia_one (cs_kitx T) I.kIn i e (by intro z; cases z) fun tk => ⟨.bl b, H, I.tok tk, rfl, q⟩
def tFldV (K : PySem.W.Frag) (f : Str) (te : TE) : TE := fun σ H Q => te σ H fun x H1 => ∃ (a C d : Addr) (fs : List (Str × V)) (v : V), x = .ref a ∧ H1 a = some (exo a C (some d)) ∧ H1 d = some (exd d fs) ∧ XfC K C ∧ PySem.W.findIn K (.ref C) f = some none ∧ fs.lookup f = some v ∧ Q v H1
/-- e.f of an error -/
theorem pe_fldV {e : Expr} {te : TE} {n : Str} (he : PE X e te) (hb : attributeBase e n X.env (eval e X.env) = eval e X.env := by rfl) : PE X (.Attribute e n pos) (tFldV X.K n te) := by
  refine ⟨fun pins s σ H Q I h => attr_of hb (thn (he.run pins s σ H _ I h) ?_)⟩
  rintro u s1 ⟨x, H1, I1, rx, a, C, d, fs, v, rfl, h1, h2, T, hno, hf, q⟩
  cases rx
  obtain ⟨t, ho⟩ := exo_at I1.hok h1
  obtain ⟨mA, hns, rel⟩ := exd_at I1.hok h2
  obtain ⟨od, hod, hl⟩ := lookIn_ns hns
  have r := rel n
  rw [hf] at r
  obtain ⟨w2, e2, ru⟩ := RelO.some_of r
  exact PySem.HandSPX.exc_get I1.kIn (ox := rawX C t (some d)) ⟨ho, rfl, rfl, hod⟩ T.ga T.gg T.exC (PySem.W.findObj_own T.hdC hno rfl (by rw [hl n, e2])) (handed_of ru) ⟨v, H1, I1.tok _, ru, q⟩
end
/-- __init__ of an error that keeps one thing under the name f -/
theorem ok_xi {P : Program} {w : World} {K : PySem.W.Frag} {mg : Str → Option Value} {base : Heap} {C fI : Addr} {fd : FuncData} {q f : Str} {pr : Arguments} {sc : Scope} {p1 p2 p3 p4 : Pos} {bmB : List Value} {B newId : String} (SF : StoreFacts B bmB "object.__setattr__" "object") (T : OexG K C bmB newId)
    (ht : PySem.W.takerIn K C f = some none) (S : FnScope ["self", f] ["self", f] sc) (hv : Vis sc "self") (hv2 : Vis sc f) (d1 : (f == ("__debug__" : Str)) = false) (d2 : (f == ("__classdict__" : Str)) = false)
    (F : FunD K "__init__" q pr [.Assign [.Attribute (.Name "self" p1) f p2] (.Name f p3) p4] sc [] [] fI fd) : FnOk P w K mg base CX0 1 fI fd ["self", f] (SpXI C f) := by
  refine F.ok S (fun vs H Q E h => by obtain ⟨a, y, rfl, _⟩ := h; rfl) fun cdv A outer s H vs Q E hr h => ?_
  obtain ⟨a, y, rfl, ha, k⟩ := h
  refine ⟨_, PSs.nox (pss_one (ps_osG SF T ht (pe_var (i := 0) rfl hv) (pe_var (i := 1) rfl hv2 d1 d2))), ?_⟩
  exact ⟨_, rfl, _, rfl, a, rfl, ha, fun dx h1 h2 => k dx h1 h2⟩
end Cs
set_option maxHeartbeats 4000000
/-! repr of data, where nothing is being shown just now. -/
namespace Cs
open PySem L2 PyProof.Rows
mutual
/-- no list stands in it -/
def noL : PyData → Bool
  | .list _ => false
  | .tuple ds => noLs ds
  | _ => true
def noLs : List PyData → Bool
  | [] => true
  | d :: ds => noL d && noLs ds
end
section
variable {X : Cx} {pins : List (Addr × Obj)} {σ : L2.St} {H : Hp} {s : Shared} {p : Addr}
mutual
theorem Rp.readsA (I : L2.Inv X pins σ H s) : ∀ {v : V} {d : PyData}, Rp p H v d → ∀ u, RelV v u → ∃ as, Reads s.heap u d as ∧ (noL d = true → sysModules ∉ as)
  | _, _, .non, u, r => by
    obtain rfl : u = .none := r
    exact ⟨_, .none, fun _ => List.not_mem_nil⟩
  | _, _, .bl b, u, r => by
    obtain rfl : u = .bool b := r
    exact ⟨_, .bool b, fun _ => List.not_mem_nil⟩
  | _, _, .int i, u, r => by
    obtain ⟨t, rfl⟩ := r
    exact ⟨_, .int i t, fun _ => List.not_mem_nil⟩
  | _, _, .str x _, u, r => by
    obtain ⟨t, rfl⟩ := r
    exact ⟨_, .str x t, fun _ => List.not_mem_nil⟩
  | _, _, .lst _ h z ra, u, r => by
    obtain rfl := r
    obtain ⟨its, rv, ⟨o, n, ho, hc, _, hd⟩, _⟩ := I.list (SqL.of h)
    obtain ⟨as, hr, _⟩ := RpA.readsA I ra its rv
    exact ⟨_, .list ho hc hd hr, fun h => by simp [noL] at h⟩
  | _, _, .tup _ h z ra, u, r => by
    obtain rfl := r
    obtain ⟨its, rv, ⟨o, ho, hc, n, hd⟩, _⟩ := I.tuple (SqT.rd h)
    obtain ⟨as, hr, k⟩ := RpA.readsA I ra its rv
    exact ⟨_, .tuple ho hc hd hr, fun h2 => k (by simpa [noL] using h2)⟩
  | _, _, .dct _ h, u, r => by
    obtain rfl := r
    obtain ⟨_, ns, vs, kv, o, es, ep, ho, ex, hd, he1, he2⟩ := I.hok _ _ h
    cases kv
    have e0 : es = #[] := Array.toList_inj.mp (List.eq_nil_of_length_eq_zero he2.1.length)
    subst e0
    refine ⟨_, .dict (kvs := []) ho ex.1 hd .nil .nil, fun _ hm => ?_⟩
    have e2 := List.mem_singleton.mp hm
    rw [← e2] at ns
    simp at ns
theorem RpA.readsA (I : L2.Inv X pins σ H s) : ∀ {vs : List V} {ds : List PyData}, RpA p H vs ds → ∀ us, Vals vs us → ∃ as, ReadsAll s.heap us ds as ∧ (noLs ds = true → sysModules ∉ as)
  | _, _, .nil, _, .nil => ⟨_, .nil, fun _ => List.not_mem_nil⟩
  | _, _, .cons h t, _, .cons r rr => by
    obtain ⟨as, h1, k1⟩ := Rp.readsA I h _ r
    obtain ⟨bs, h2, k2⟩ := RpA.readsA I t _ rr
    refine ⟨_, .cons h1 h2, fun hn hm => ?_⟩
    have hn : (noL _ && noLs _) = true := hn
    rw [Bool.and_eq_true] at hn
    exact (List.mem_append.mp hm).elim (k1 hn.1) (k2 hn.2)
end
end
/-- what may be shown: lists and dicts do not stand in one another, but a list at the top -/
def topSafe : PyData → Bool
  | .list ds => !PyData.hasDictAll ds || noLs ds
  | d => !d.hasDict || noL d
section
variable {prog : Program} {w : World} {A : Around} {E : Value → Shared → Prop} {s : Shared} {Q : Value → Shared → Prop} {a : Addr} {as : List Addr}
/-- a list at the top is shown -/
theorem show_list {ds : List PyData} {o : Obj} {vs : Array Value} {n : Nat} {as1 : List Addr} (ho : s.heap.get? a = some o) (hc : o.cls = .type "list") (hdt : o.data = .seq vs n) (hr : ReadsAll s.heap vs.toList ds as1) (in_ : PyData.hasDictAll ds = true → sysModules ∉ as1) (ok : PyData.showableAll ds = true) (hg : A.guards = some []) (hu : A.units + 64 < cLine) (hd : (PyData.list ds).depth ≤ 60)
    (hz : (PyData.list ds).shown.length ≤ sizeLine) (k : ∀ h' u tk, (∀ b o, s.heap.get? b = some o → h'.get? b = some o) → Q (.str (PyData.list ds).shown u) { s with heap := h', toks := tk }) :
    wpAny (model prog w) A (call (.builtin "repr") [.ref a]) Q E s := by
  have r0 : Reads s.heap (.ref a) (.list ds) (a :: as1) := .list ho hc hdt hr
  have hz2 : (listText (PyData.shownAll ds)).length ≤ sizeLine := by simpa only [PyData.shown] using hz
  simp only [PyData.depth] at hd
  simp only [PyData.shown] at k
  obtain ⟨bs, hb, hk⟩ := ReprAllK.of_readsAll (prog := prog) (w := w) hr ok (fun hx hm => in_ hx hm) (fun t ht => Nat.le_trans (listText_mem_le ht) hz2)
  have na : a ∉ bs := not_mem_of_deeper r0 (by simp only [PyData.depth]; omega) hb
  have ty : ∀ t : Shared, (∀ b o, s.heap.get? b = some o → t.heap.get? b = some o) → t.TypeIs (.ref a) "list" := fun t kt => ⟨o, kt _ _ ho, hc⟩
  refine call_repr_slot (by omega) (ty s fun _ _ e => e) F.slot_list_repr.toG ?_
  obtain ⟨l⟩ := vs
  cases l with
  | nil =>
    have hr2 : ReadsAll s.heap [] ds as1 := hr
    cases hr2
    simp only [PyData.shownAll, listText_nil] at k
    exact call_list_repr_empty (ty s fun _ _ e => e) ho hdt ⟨_, _, rfl, k s.heap _ _ fun _ _ e => e⟩
  | cons y l =>
    exact call_list_reprK ho hc hdt na (by simpa using hk.length_eq) (fun i y e => hk.item i y (by simpa using e)) (A := A.in1) hg (fun b _ => Clear.nil b) (by show A.units + 1 + _ < cLine; omega) (fun _ _ e => e) (fun h' u tk kp => ⟨_, _, rfl, k h' u tk kp⟩) hz2
end
def tReprD : List V → Hp → VK → Prop := fun xs H Q => ∃ (p : Addr) (v : V) (d : PyData), xs = [v] ∧ Rp p H v d ∧ d.showable = true ∧ topSafe d = true ∧ d.depth ≤ 60 ∧ d.shown.length ≤ sizeLine ∧ Q (.str d.shown) H
theorem callReprD {X : Cx} (hG : X.A.guards = some []) (hu : X.A.units + 64 < cLine) : CallR X (.builtin "repr") tReprD := by
  rintro pins s σ H xs us Q I r ⟨p, v, d, rfl, rp, ok, top, dep, sz, q⟩
  obtain ⟨u, rfl, ru⟩ := r.one
  have fin : ∀ h' t tk, (∀ b o, s.heap.get? b = some o → h'.get? b = some o) → EP X pins σ Q (.str d.shown t) { s with heap := h', toks := tk } := fun h' t tk kp => ⟨.str d.shown, H, I.kept (t' := tk) kp, ⟨_, rfl⟩, q⟩
  obtain ⟨as, hr, hs⟩ := Rp.readsA I rp u ru
  cases rp with
  | non => cases hr; exact PySem.P.repr_of_none (fin _ _ _ fun _ _ e => e)
  | bl b => cases hr; exact PySem.P.repr_of_bool (by
      have z := fin s.heap s.toks (s.toks + 1) fun _ _ e => e
      simp only [PyData.shown] at z
      cases b <;> exact z)
  | int i => cases hr; exact PySem.P.repr_of_int (by simpa [PyData.showable] using ok) (fin _ _ _ fun _ _ e => e)
  | str x z => cases hr; exact PySem.P.repr_of_str (fin _ _ _ fun _ _ e => e) sz
  | @lst a vs ds n h z ra =>
    obtain rfl := ru
    obtain ⟨its, rv, ⟨o, m, ho, hc, _, hdt⟩, _⟩ := I.list (SqL.of h)
    obtain ⟨bs, hr2, hs2⟩ := RpA.readsA I ra its rv
    exact show_list ho hc hdt hr2 (fun hx => hs2 (by simpa [topSafe, hx] using top)) (by simpa [PyData.showable] using ok) hG hu dep sz fin
  | tup n h z ra =>
    obtain rfl := ru
    exact repr_of_reads' hr ok (fun hx => hs (by simpa [topSafe, hx] using top)) hG (by omega) (fun _ _ e => e) fin sz
  | dct n h =>
    obtain rfl := ru
    exact repr_of_reads' hr ok (fun hx => hs rfl) hG (by simp [PyData.depth, PyData.depthKv] at dep ⊢; omega) (fun _ _ e => e) fin sz
end Cs
set_option maxHeartbeats 4000000
namespace Cs
open PySem L2 PyProof.Rows
structure DefAt (K : PySem.W.Frag) (mg : Str → Option Value) (x : Str) (st : Stmt) (ps : List Str) : Prop where
  ex : ∃ (f : Addr) (fd : FuncData), FunD K x x (defArgs st) (defBody st) (defScope st) [] [] f fd ∧ mg x = some (.ref f) ∧ Binds K fd ps []
/-- what the module has not, so that a built-in is meant; its numbers -/
structure Txt (mg : Str → Option Value) : Prop where
  len_ : mg "len" = none
  isinstance_ : mg "isinstance" = none
  int_ : mg "int" = none
  all_ : mg "all" = none
  abs_ : mg "abs" = none
  divmod_ : mg "divmod" = none
  range_ : mg "range" = none
  repr_ : mg "repr" = none
  ValueError_ : mg "ValueError" = none
  LookupError_ : mg "LookupError" = none
  ArithmeticError_ : mg "ArithmeticError" = none
  c_MOST_END : ∃ u, mg "MOST_END" = some u ∧ RelV (.int 10000) u
  c_MOST_COLUMNS : ∃ u, mg "MOST_COLUMNS" = some u ∧ RelV (.int 4) u
  c_MOST_ROWS : ∃ u, mg "MOST_ROWS" = some u ∧ RelV (.int 8) u
  c_MOST_WEIGHT : ∃ u, mg "MOST_WEIGHT" = some u ∧ RelV (.int 1000) u
  c_MOST_PRICE : ∃ u, mg "MOST_PRICE" = some u ∧ RelV (.int 1000) u
  c_MOST_POINTS : ∃ u, mg "MOST_POINTS" = some u ∧ RelV (.int 6) u
  c_MOST_FACTS : ∃ u, mg "MOST_FACTS" = some u ∧ RelV (.int 12) u
  c_MOST_PLACES : ∃ u, mg "MOST_PLACES" = some u ∧ RelV (.int 6) u
  c_MOST_TIES : ∃ u, mg "MOST_TIES" = some u ∧ RelV (.int 10) u
  c_MOST_LENGTH : ∃ u, mg "MOST_LENGTH" = some u ∧ RelV (.int 1000) u
  c_MOST_NAMES : ∃ u, mg "MOST_NAMES" = some u ∧ RelV (.int 5) u
  c_MOST_SEATS : ∃ u, mg "MOST_SEATS" = some u ∧ RelV (.int 12) u
theorem DefAt.cal {P : Program} {w : World} {K : PySem.W.Frag} {mg : Str → Option Value} {base : Heap} {x : Str} {st : Stmt} {N ps : List Str} {k : Nat} {sp : Sp} (D : DefAt K mg x st ps) (S : FnScope N ps (defScope st)) (len : ∀ vs H Q E, sp vs H Q E → vs.length = ps.length)
    (hbody : ∀ (f : Addr) (cdv : Value) (A : Around) (outer : List Env) (s : Shared) (H : Hp) (vs : List V) (Q : VK) (E : XK), Room k (A.deeper (envOfC x (defScope st) s.heap.objs.size f cdv)) → sp vs H Q E →
      ∃ t, PSs (cxOf CX0 P w K mg base N x (defScope st) f cdv A outer s H E).nox (defBody st) t ∧ t { nx := fun _ H' => Q .non H', rt := Q } (start N vs) H) : C8.Cal P w K mg base (k + 1) x sp [] := by
  obtain ⟨f, fd, F, g, b⟩ := D.ex
  refine ⟨f, fd, ps, [], F.ok S len fun cdv A outer s H vs Q E hr h => ?_, g, F.kp, b, .nil⟩
  obtain ⟨t, h1, h2⟩ := hbody f cdv A outer s H vs Q E hr h
  exact ⟨t, h1.nox, h2⟩
theorem DefAt.calG {P : Program} {w : World} {K : PySem.W.Frag} {mg : Str → Option Value} {base : Heap} {x : Str} {st : Stmt} {N ps : List Str} {k : Nat} {sp : Sp} (D : DefAt K mg x st ps) (S : FnScope N ps (defScope st)) (len : ∀ vs H Q E, sp vs H Q E → vs.length = ps.length)
    (hbody : ∀ (f : Addr) (cdv : Value) (A : Around) (outer : List Env) (s : Shared) (H : Hp) (vs : List V) (Q : VK) (E : XK), A.guards = some [] → Room k (A.deeper (envOfC x (defScope st) s.heap.objs.size f cdv)) → sp vs H Q E →
      ∃ t, PSs (cxOf CX0 P w K mg base N x (defScope st) f cdv A outer s H E).nox (defBody st) t ∧ t { nx := fun _ H' => Q .non H', rt := Q } (start N vs) H) : CalG P w K mg base (k + 1) x sp := by
  obtain ⟨f, fd, F, g, b⟩ := D.ex
  refine ⟨f, fd, ps, ?_, g, F.kp, b⟩
  obtain ⟨oc, od, dV, kV, doc, pm, an, cdv, ct, osl, rfl, lk, hcd, _, _⟩ := F.ex
  refine fn_ofG lk hcd S len fun A outer s H vs Q E hg hr h => ?_
  obtain ⟨t, h1, h2⟩ := hbody f cdv A outer s H vs Q E hg hr h
  exact ⟨t, h1.nox, h2⟩
theorem len_le {xs : List V} {n : Nat} (h : xs.length = n) (z : n ≤ 1000) : xs.length ≤ sizeLine := by rw [h]; exact sz1000 z
end Cs
set_option maxHeartbeats 4000000
local macro_rules | `(tactic| walk_at "hp") => `(tactic| first
  | assumption
  | with_reducible exact L2.upd_same
  | with_reducible exact Cs.upd_old (by assumption) (by assumption)
  | (with_reducible refine Cs.upd_old (by first | assumption | exact Cs.upd_new (by assumption)) ?_; walk_at "hp")
  | (with_reducible refine Cs.upd_mut (by walk_at "hp") (by intro z; cases z) ?_; walk_at "hp")
  | exact (by assumption : L2.Same _ _) _ _ (by walk_at "hp"))
local macro_rules | `(tactic| walk_at "rp") => `(tactic| first
  | assumption
  | exact Cs.Rp.keep (Cs.ExB.of (by assumption)) (by walk_at "rp"))
local macro_rules | `(tactic| walk_at "sm") => `(tactic| first
  | assumption
  | exact L2.Same.refl _
  | exact Cs.same_new (by assumption)
  | exact Cs.same_tr (by assumption) (by walk_at "sm")
  | exact Cs.same_tr (Cs.same_new (by assumption)) (by walk_at "sm"))
local macro_rules | `(tactic| walk_at "hz") => `(tactic| first
  | with_reducible assumption
  | exact Cs.Rd.back (by with_reducible assumption) (by with_reducible assumption)
  | exact Cs.Rd.back (by with_reducible assumption) (Cs.Rd.back (by with_reducible assumption) (by with_reducible assumption))
  | exact Cs.Rd.back (by with_reducible assumption) (Cs.Rd.back (by with_reducible assumption) (Cs.Rd.back (by with_reducible assumption) (by with_reducible assumption)))
  | exact Or.inl (by with_reducible assumption)
  | exact Or.inl (by with_reducible exact L2.upd_same)
  | exact Or.inl ((by with_reducible assumption : L2.Same _ _) _ _ (by with_reducible assumption)))
local macro_rules | `(tactic| walk_at "e") => `(tactic| first
  | refine ⟨_, rfl, ?_⟩
  | refine ⟨_, _, rfl, rfl, ?_⟩
  | refine Or.inr (Or.inl ⟨_, _, _, _, rfl, rfl, (Cs.SqT.rd (by walk_at "hz")), rfl, ?_⟩)
  | refine Or.inl ⟨_, _, rfl, Or.inr (Cs.SqT.rd (by walk_at "hz")), ?_⟩
  | refine ⟨_, _, rfl, (Cs.SqT.rd (by walk_at "hz")), rfl, ?_⟩
  | refine ⟨_, _, _, _, rfl, rfl, L2.SqL.of (by walk_at "hp"), rfl, ?_⟩
  | refine ⟨_, _, _, _, rfl, rfl, (by walk_at "hp"), rfl, ?_⟩
  | refine Or.inl ⟨_, rfl, ?_⟩
  | refine Or.inl ⟨rfl, ?_⟩
  | refine Or.inl ⟨_, _, rfl, rfl, ?_⟩
  | refine Or.inl ⟨_, _, _, _, rfl, rfl, L2.SqL.of (by walk_at "hp"), rfl, ?_⟩
  | refine Or.inr ⟨_, rfl, Cs.sz1000 (by assumption), ?_⟩
  | refine Or.inr ⟨_, _, rfl, rfl, ?_⟩
  | refine Or.inl ⟨_, _, rfl, Or.inl (L2.SqL.of (by walk_at "hp")), ?_⟩
  | refine ⟨_, _, _, _, _, rfl, .ty _, Cs.Rp.ty (by walk_at "rp"), (by first | exact Cs.kit_int | exact Cs.kit_bool | exact Cs.kit_str | exact Cs.kit_tup), ?_⟩
  | refine ⟨_, _, _, rfl, (by walk_at "rp"), fun _ _ => ?_⟩
  | refine ⟨_, _, _, _, rfl, (by walk_at "rp"), fun _ _ => ?_⟩
  | refine ⟨_, _, _, _, _, rfl, (by walk_at "rp"), fun _ _ => ?_⟩
  | refine ⟨_, _, rfl, ?_⟩
  | refine And.intro rfl ?_
  | refine And.intro (by first | decide | (dsimp only; decide)) ?_
  | refine And.intro (by first | assumption | (dsimp only; assumption)) ?_
  | refine And.intro (Or.inr ⟨by decide, by decide⟩) ?_
  | refine And.intro (Or.inl ⟨by omega, by omega⟩) ?_
  | refine And.intro ⟨by decide, by decide⟩ ?_
  | refine And.intro ⟨by assumption, by assumption⟩ ?_)
local macro_rules | `(tactic| walk_at "es") => `(tactic| repeat (walk_at "e"))
namespace Cs
open PySem L2 PyProof.Rows
def PailAt (H : Hp) (p : Addr) (n : Nat) : Prop := ∃ a b c : Int, 0 ≤ c ∧ c ≤ n ∧ H p = some (.lst [.int a, .int b, .int c])
theorem PailAt.keep {H H' : Hp} {p : Addr} {n : Nat} (h : PailAt H p n) (s : Same H H') : PailAt H' p n := by
  obtain ⟨a, b, c, h1, h2, h3⟩ := h
  exact ⟨a, b, c, h1, h2, s _ _ h3⟩
theorem PailAt.more {H : Hp} {p : Addr} {n m : Nat} (h : PailAt H p n) (z : n ≤ m) : PailAt H p m := by
  obtain ⟨a, b, c, h1, h2, h3⟩ := h
  exact ⟨a, b, c, h1, by omega, h3⟩
def SpScoop : Sp := fun vs H Q _ => ∃ (p : Addr) (m : Int) (n : Nat), vs = [.ref p, .int m] ∧ 0 < m ∧ m < 1073741824 ∧ PailAt H p n ∧ n < 1000000000 ∧
  ∀ (r : Int) (H' : Hp), 0 ≤ r → r < m → ExB p H H' → PailAt H' p (n + 1) → Q (.int r) H'
def SpAny : Sp := fun vs H Q _ => ∃ (p : Addr) (v : V) (ds : List PyData) (n : Nat), vs = [.ref p, v] ∧ Rp p H v (.list ds) ∧ 1 ≤ ds.length ∧ PailAt H p n ∧ n < 1000000000 ∧
  ∀ (u : V) (d : PyData) (H' : Hp), d ∈ ds → Rp p H' u d → ExB p H H' → PailAt H' p (n + 1) → Q u H'
def SpPail (K : PySem.W.Frag) : Sp := fun vs H Q _ => ∃ (a : Addr) (ns : List Int) (i : Nat), vs = [.ref a, .int (i : Nat)] ∧ SqL K H a (ns.map V.int) ∧ ns.length ≤ 1000 ∧ i ≤ 1 ∧
  ∀ p H', H p = none → Same H H' → PailAt H' p 0 → Q (.ref p) H'
section
variable {P : Program} {w : World} {K : PySem.W.Frag} {mg : Str → Option Value} {base : Heap}
theorem sc__law_scoop : FnScope ["_law_pail_here", "_law_most", "_law_figure", "_law_mixed"] ["_law_pail_here", "_law_most"] (defScope (topS 69)) := ⟨rfl, rfl, rfl, by decide +kernel, rfl, by decide +kernel, by decide +kernel⟩
theorem ok__law_scoop (D : DefAt K mg "_law_scoop" (topS 69) ["_law_pail_here", "_law_most"]) (T : Txt mg) : C8.Cal P w K mg base 1 "_law_scoop" SpScoop [] := by
  refine D.cal sc__law_scoop (fun vs H Q E h => by obtain ⟨p, m, n, rfl, _⟩ := h; rfl) fun f cdv A outer s H vs Q E hr h => ?_
  obtain ⟨p, m, n, rfl, m0, m1, ⟨a, b, c, c0, c1, hp⟩, hn, k⟩ := h
  have nd := sc__law_scoop.nd
  refine ⟨_, (pss_cons (ps_if (pt_cmpR op_gt (pe_ix ix_seq (pv 0) pe_int (fun _ _ => rfl)) pe_int (nomark _)) (pss_cons (ps_asg (pe_callB call_divmod (by rfl) T.divmod_ (by decide +kernel) (pa_cons (pe_ix ix_seq (pv 0) pe_int (fun _ _ => rfl)) (pa_cons (pv 1) pa_nil))) (pg_tup (by rfl) (pgs_cons (pg_sub (pv 0) pe_int set_list) (pgs_cons (pg_name (i := 2) nd rfl (.inl rfl)) pgs_nil))))
      (pss_one (ps_ret (pv 2)))) pss_nil)
      (pss_cons (ps_asg (pe_op opAdd (pe_ix ix_seq (pv 0) pe_int (fun _ _ => rfl)) pe_int) (pg_sub (pv 0) pe_int set_list))
      (pss_cons (ps_set (i := 3) nd rfl (.inl rfl) (pe_op op_mod (pe_callTy call_int1 (by rfl) T.int_ (by decide +kernel) (pa_cons (pe_op opAdd (pe_op opAdd (pe_op opMul (pe_ix ix_seq (pv 0) pe_int (fun _ _ => rfl)) pe_int) (pe_op opMul (pe_op opMul (pe_ix ix_seq (pv 0) pe_int (fun _ _ => rfl)) (pe_ix ix_seq (pv 0) pe_int (fun _ _ => rfl))) pe_int)) pe_int) pa_nil)) pe_int))
      (pss_cons (ps_asg (pe_op op_mod (pe_callTy call_int1 (by rfl) T.int_ (by decide +kernel) (pa_cons (pe_op opAdd (pe_op opMul (pv 3) (pe_op opAdd pe_int (pe_op op_mod (pe_callTy call_int1 (by rfl) T.int_ (by decide +kernel) (pa_cons (pv 3) pa_nil)) pe_int))) pe_int) pa_nil)) pe_int) (pg_sub (pv 0) pe_int set_list))
      (pss_one (ps_ret (pe_op op_mod (pe_callTy call_int1 (by rfl) T.int_ (by decide +kernel) (pa_cons (pe_op op_fdiv (pe_ix ix_seq (pv 0) pe_int (fun _ _ => rfl)) pe_int) pa_nil)) (pv 1)))))))), ?_⟩
  walk_at "es"
  refine ite2 (fun e1 => ?_) (fun e1 => ?_)
  · walk_at "es"
    intro t ht
    walk_at "es"
    refine k _ _ (Int.emod_nonneg _ (by omega)) (Int.emod_lt_of_pos _ m0) (fun b o nb e => ?_) ⟨_, _, _, c0, by omega, L2.upd_same⟩
    rw [upd_ne nb]
    exact upd_old ht e
  · walk_at "es"
    refine k _ _ (Int.emod_nonneg _ (by omega)) (Int.emod_lt_of_pos _ m0) (fun b o nb e => ?_) ⟨_, _, _, ?_, ?_, L2.upd_same⟩
    · rw [upd_ne nb, upd_ne nb]
      exact e
    · omega
    · omega
theorem sc__law_any : FnScope ["_law_pail_here", "_law_menu"] ["_law_pail_here", "_law_menu"] (defScope (topS 70)) := ⟨rfl, rfl, rfl, by decide +kernel, rfl, by decide +kernel, by decide +kernel⟩
theorem ok__law_any (D : DefAt K mg "_law_any" (topS 70) ["_law_pail_here", "_law_menu"]) (T : Txt mg) (c_law_scoop : C8.Cal P w K mg base 1 "_law_scoop" SpScoop []) : C8.Cal P w K mg base 2 "_law_any" SpAny [] := by
  refine D.cal sc__law_any (fun vs H Q E h => by obtain ⟨p, v, ds, n, rfl, _⟩ := h; rfl) fun f cdv A outer s H vs Q E hr h => ?_
  obtain ⟨p, v, ds, n, rfl, r, hl, hp, hn, k⟩ := h
  refine ⟨_, (pss_one (ps_ret (pe_ix ix_seq (pv 1) (C8.pe_c c_law_scoop hr (by decide) rfl (pa_cons (pv 0) (pa_cons (pe_callB call_lenA (by rfl) T.len_ (by decide +kernel) (pa_cons (pv 1) pa_nil)) pa_nil))) (fun _ _ => rfl)))), ?_⟩
  cases r with
  | @lst a xs _ na h z ra =>
    walk_at "es"
    have ln := ra.length
    refine ⟨p, (xs.length : Nat), n, rfl, by omega, by omega, hp, hn, fun i H' i0 i1 eb hp' => ?_⟩
    obtain ⟨j, rfl⟩ : ∃ j : Nat, i = (j : Nat) := ⟨i.toNat, by omega⟩
    have hi : j < xs.length := by omega
    obtain ⟨d, hd, rd⟩ := ra.get (List.getElem?_eq_getElem hi)
    refine .inl ⟨a, _, _, xs[j], rfl, rfl, SqL.of (eb _ _ na h), atI_nat (List.getElem?_eq_getElem hi), ?_⟩
    exact k _ d H' (List.mem_of_getElem? hd) (rd.keep eb) eb hp'
theorem sc__law_pail : FnScope ["_law_script", "_law_at", "_law_mixed", "_law_cell", "_law_own"] ["_law_script", "_law_at"] (defScope (topS 68)) := ⟨rfl, rfl, rfl, by decide +kernel, rfl, by decide +kernel, by decide +kernel⟩
theorem ok__law_pail (D : DefAt K mg "_law_pail" (topS 68) ["_law_script", "_law_at"]) (T : Txt mg) : C8.Cal P w K mg base 1 "_law_pail" (SpPail K) [] := by
  refine D.cal sc__law_pail (fun vs H Q E h => by obtain ⟨a, ns, i, rfl, _⟩ := h; rfl) fun f cdv A outer s H vs Q E hr h => ?_
  obtain ⟨a, ns, i, rfl, hq, hl, hi, k⟩ := h
  have nd := sc__law_pail.nd
  refine ⟨_, (pss_cons (ps_set (i := 2) nd rfl (.inl rfl) (pe_op opAdd pe_int (pe_op opMul pe_int (pv 1))))
      (pss_cons (ps_for PassesOwn.never rfl (pi_list (pe_slice slAny (pv 0) po_none (po_some pe_int))) (pg_name (i := 3) nd rfl (.inl rfl)) (pss_one (ps_set (i := 2) nd rfl (.inl rfl) (pe_op op_mod (pe_callTy call_int1 (by rfl) T.int_ (by decide +kernel) (pa_cons (pe_op opAdd (pe_op opMul (pv 2) pe_int) (pv 3)) pa_nil)) pe_int))))
      (pss_cons (ps_set (i := 4) nd rfl (.inl rfl) (pe_ifExp (pt_cmpR opLt (pv 1) (pe_callB call_lenA (by rfl) T.len_ (by decide +kernel) (pa_cons (pv 0) pa_nil)) (nomark _)) (pe_ix ix_seq (pv 0) (pv 1) (fun _ _ => rfl)) (pe_op opAdd (pe_op opMul pe_int (pv 1)) pe_int)))
      (pss_one (ps_ret (pe_lst (pa_cons (pe_ifExp (pt_cmpR op_ge (pe_callB call_abs (by rfl) T.abs_ (by decide +kernel) (pa_cons (pv 4) pa_nil)) (pe_op op_pow pe_int pe_int) (nomark _)) (pe_callB call_abs (by rfl) T.abs_ (by decide +kernel) (pa_cons (pv 4) pa_nil)) pe_int) (pa_cons (pe_op op_mod (pe_callTy call_int1 (by rfl) T.int_ (by decide +kernel) (pa_cons (pe_op opAdd (pe_op opAdd (pe_op opMul (pv 2) pe_int) (pe_op opMul (pv 4) pe_int)) pe_int) pa_nil)) pe_int) (pa_cons pe_int pa_nil))))))))), ?_⟩
  walk_at "es"
  refine .inl ⟨a, _, rfl, hq, fun l hl0 => ?_⟩
  have s0 : Same H (upd H l (.lst (cutV (ns.map V.int) none (some 6)))) := same_new hl0
  have hcut : cutV (ns.map V.int) none (some 6) = (ns.take 6).map V.int := by
    unfold cutV
    rw [HT.sIx_none, List.drop_zero, List.map_take]
    by_cases h6 : 6 ≤ ns.length
    · rw [show (6 : Int) = ((6 : Nat) : Int) from rfl, HT.sIx_nat, List.length_map, Nat.min_eq_left h6, Nat.sub_zero]
    · rw [show (6 : Int) = ((6 : Nat) : Int) from rfl, HT.sIx_nat, List.length_map, Nat.min_eq_right (by omega), Nat.sub_zero, List.take_of_length_le (by rw [List.length_map]; omega), List.take_of_length_le (by rw [List.length_map]; omega)]
  rw [hcut] at s0 ⊢
  refine ⟨l, rfl, ⟨_, SqL.of upd_same⟩, for_list (xs := (ns.take 6).map V.int) (fun j σ H' => ∃ m u, σ = [some (.ref a), some (.int (i : Nat)), some (.int m), u, none] ∧ 0 ≤ m ∧ m < 2147479971 ∧ Same (upd H l (.lst ((ns.take 6).map V.int))) H')
    ⟨_, none, rfl, by omega, by omega, Same.refl _⟩ (fun j σ H' _ ⟨_, _, _, _, _, sm⟩ => SqL.of (sm _ _ upd_same)) ?_ ?_⟩
  · rintro j x σ H' hx ⟨m, u, rfl, m0, m1, sm⟩
    rw [List.getElem?_map] at hx
    obtain ⟨y, hy, rfl⟩ := Option.map_eq_some_iff.mp hx
    walk_at "es"
    exact ⟨Int.emod_nonneg _ (by decide), Int.emod_lt_of_pos _ (by decide), sm⟩
  · rintro σ H' ⟨m, u, rfl, m0, m1, sm⟩
    have s1 := s0.trans sm
    have hq' : SqL K H' a (ns.map V.int) := by
      rcases hq with (h | ⟨o, h⟩) | h
      · exact .inl (.inl (s1 _ _ h))
      · exact .inl (.inr ⟨o, s1 _ _ h⟩)
      · exact .inr h
    walk_at "e"
    walk_at "e"
    refine .inl ⟨a, _, rfl, .inl hq', ?_⟩
    refine .inl ⟨_, _, rfl, rfl, _, rfl, ?_⟩
    have fin : ∀ x : Int, ∀ b : Int, ∀ p, H' p = none → Q (.ref p) (upd H' p (.lst [.int x, .int b, .int 0])) := fun x b p hp => k p _ (s1.free hp) (s1.trans (same_new hp)) ⟨x, b, 0, by decide, by decide, upd_same⟩
    have hl2 : (List.map V.int ns).length = ns.length := List.length_map ..
    refine ite2 (fun e1 => ?_) (fun e1 => ?_)
    · have e2 : i < ns.length := by
        have z := of_decide_eq_true e1
        rw [hl2] at z
        omega
      walk_at "e"
      walk_at "e"
      refine .inl ⟨a, _, _, .int ns[i], rfl, rfl, hq', atI_nat (by rw [List.getElem?_map, List.getElem?_eq_getElem e2]; rfl), ?_⟩
      walk_at "e"
      walk_at "e"
      walk_at "e"
      walk_at "e"
      refine ⟨_, _, rfl, rfl, _, rfl, ?_⟩
      refine ite2 (fun e5 => ?_) (fun e5 => ?_) <;> clear e5
      · walk_at "es"
        exact ⟨len_le (n := 3) rfl (by decide), fin _ _⟩
      · walk_at "es"
        exact ⟨len_le (n := 3) rfl (by decide), fin _ _⟩
    · walk_at "e"
      walk_at "e"
      walk_at "e"
      walk_at "e"
      walk_at "e"
      walk_at "e"
      walk_at "e"
      walk_at "e"
      refine ⟨_, _, rfl, rfl, _, rfl, ?_⟩
      refine ite2 (fun e5 => ?_) (fun e5 => ?_) <;> clear e5
      · walk_at "es"
        exact ⟨len_le (n := 3) rfl (by decide), fin _ _⟩
      · walk_at "es"
        exact ⟨len_le (n := 3) rfl (by decide), fin _ _⟩
end
end Cs
set_option maxHeartbeats 4000000
namespace Cs
open PySem L2 PyProof.Rows
structure ExcFacts (K : PySem.W.Frag) (c : Nat → Addr) : Prop where
  x : ∀ n, n < 51 → ExcC K (c n)
  f : ∀ n, n < 51 → XfC K (c n)
  no : ∀ n, n < 51 → PySem.W.findIn K (.ref (c n)) "given" = some none ∧ PySem.W.findIn K (.ref (c n)) "index" = some none
  kit : ∀ n m, n < 51 → m < 51 → PySem.W.kitOne K (.ref (c n)) (.ref (c m)) = some (n == m)
/-- the class n can be called -/
def XK (P : Program) (w : World) (K : PySem.W.Frag) (mg : Str → Option Value) (base : Heap) (c : Nat → Addr) (n : Nat) (f : Str) : Prop :=
  ∃ (B newId initId : String) (bmB : List Value) (fI : Addr) (fd : FuncData), ExcBaseFacts B newId initId bmB ∧ XAt K mg (cN n) (c n) f bmB newId fI fd ∧ FnOk P w K mg base CX0 1 fI fd ["self", f] (SpXI (c n) f)
def X0 (K : PySem.W.Frag) (mg : Str → Option Value) (c : Nat → Addr) (n : Nat) : Prop := ∃ (B newId initId : String) (bmB : List Value), ExcBaseFacts B newId initId bmB ∧ PySem.W.excIn K (c n) bmB newId = true ∧ mg (cN n) = some (.ref (c n)) ∧ PySem.W.keepIn K (.ref (c n)) = true
/-- v is an error of the class n that keeps x -/
def EV (c : Nat → Addr) (H : Hp) (x v : V) (n : Nat) : Prop := ∃ a, v = .ref a ∧ match kd n with
  | some f => ∃ d, H a = some (exo a (c n) (some d)) ∧ H d = some (exd d [(f, x)])
  | none => H a = some (exo a (c n) none)
theorem EV.keep {c : Nat → Addr} {H H' : Hp} {x v : V} {n : Nat} (h : EV c H x v n) (s : Same H H') : EV c H' x v n := by
  obtain ⟨a, rfl, h⟩ := h
  refine ⟨a, rfl, ?_⟩
  cases e : kd n with
  | some f =>
    rw [e] at h
    obtain ⟨d, h1, h2⟩ := h
    exact ⟨d, s _ _ h1, s _ _ h2⟩
  | none =>
    rw [e] at h
    exact s _ _ h
theorem EV.err {c : Nat → Addr} {H : Hp} {x v : V} {n : Nat} (h : EV c H x v n) : ∃ a fs, v = .ref a ∧ ErrAt H a (c n) fs := by
  obtain ⟨a, rfl, h⟩ := h
  cases e : kd n with
  | some f =>
    rw [e] at h
    obtain ⟨d, h1, h2⟩ := h
    exact ⟨a, _, rfl, .inr ⟨d, h1, h2⟩⟩
  | none =>
    rw [e] at h
    exact ⟨a, [], rfl, .inl ⟨rfl, h⟩⟩
inductive EA (c : Nat → Addr) (H : Hp) (x : V) : List V → List Nat → Prop
  | nil : EA c H x [] []
  | cons {v : V} {vs : List V} {n : Nat} {ns : List Nat} (h : EV c H x v n) (t : EA c H x vs ns) : EA c H x (v :: vs) (n :: ns)
theorem EA.keep {c : Nat → Addr} {H H' : Hp} {x : V} {vs : List V} {ns : List Nat} (h : EA c H x vs ns) (s : Same H H') : EA c H' x vs ns := by
  induction h with
  | nil => exact .nil
  | cons h t ih => exact .cons (h.keep s) ih
theorem EA.append {c : Nat → Addr} {H : Hp} {x : V} {vs ws : List V} {ns ms : List Nat} (h : EA c H x vs ns) (k : EA c H x ws ms) : EA c H x (vs ++ ws) (ns ++ ms) := by
  induction h with
  | nil => exact k
  | cons h t ih => exact .cons h ih
theorem EA.length {c : Nat → Addr} {H : Hp} {x : V} {vs : List V} {ns : List Nat} (h : EA c H x vs ns) : vs.length = ns.length := by
  induction h with
  | nil => rfl
  | cons h t ih => rw [List.length_cons, List.length_cons, ih]
theorem EA.get {c : Nat → Addr} {H : Hp} {x : V} {vs : List V} {ns : List Nat} (h : EA c H x vs ns) : ∀ {i n : Nat}, ns[i]? = some n → ∃ v, vs[i]? = some v ∧ EV c H x v n := by
  induction h with
  | nil => intro i n e; simp at e
  | cons h t ih =>
    intro i n e
    cases i with
    | zero =>
      obtain rfl := Option.some.inj e
      exact ⟨_, rfl, h⟩
    | succ i => exact ih (i := i) e
theorem EA.take {c : Nat → Addr} {H : Hp} {x : V} {vs : List V} {ns : List Nat} (h : EA c H x vs ns) : ∀ k, EA c H x (vs.take k) (ns.take k) := by
  induction h with
  | nil => intro k; rw [List.take_nil, List.take_nil]; exact .nil
  | cons h t ih =>
    intro k
    cases k with
    | zero => exact .nil
    | succ k => exact .cons h (ih k)
/-! ### expressions that are errors keeping what slot i holds -/
def tX (c : Nat → Addr) (i n : Nat) : TE := fun σ H Q => ∃ x, σ[i]? = some (some x) ∧ ∀ v H', Same H H' → EV c H' x v n → Q v H'
def tXs (c : Nat → Addr) (i : Nat) (ns : List Nat) : TA := fun σ H Q => ∃ x, σ[i]? = some (some x) ∧ ∀ vs H', Same H H' → EA c H' x vs ns → Q vs H'
def tXL (c : Nat → Addr) (i : Nat) (ns : List Nat) : TE := fun σ H Q => ∃ x, σ[i]? = some (some x) ∧ ∀ l xs H', Same H H' → H' l = some (.lst xs) → EA c H' x xs ns → Q (.ref l) H'
theorem pe_wk1 {X : Cx} {e : Expr} {t t' : TE} (h : PE X e t) (w : ∀ σ H Q, t' σ H Q → t σ H Q) : PE X e t' := ⟨fun pins s σ H Q I q => h.run pins s σ H Q I (w σ H Q q)⟩
section
variable {X : Cx} {c : Nat → Addr} {i n : Nat} {f : Str} {e : Expr} {es : List Expr} {ns : List Nat} {p pos kp : Pos}
theorem EV.mk {H' : Hp} {x : V} {a d : Addr} (hk : kd n = some f) (h1 : H' a = some (exo a (c n) (some d))) (h2 : H' d = some (exd d [(f, x)])) : EV c H' x (.ref a) n := ⟨a, rfl, by rw [hk]; exact ⟨d, h1, h2⟩⟩
theorem px_pos (h : XK X.prog X.w X.K X.mg X.base c n f) (hk : kd n = some f) (hr : Room 2 X.A) (hg : Gl X (cN n)) (he : PE X e (tVar i)) (hdb : (cN n == ("__debug__" : Str)) = false := by rfl)
    (hs : starEach [e] X.env = (false, eval e X.env) :: starEach [] X.env := by rfl) (hpl : ((backTo pos (starEach [] X.env)).any fun x => x.1) = false := by rfl) : PE X (.Call (.Name (cN n) p) [e] [] pos) (tX c i n) := by
  obtain ⟨B, newId, initId, bmB, fI, fd, FB, D, F⟩ := h
  refine pe_wk1 (mk_pos FB D F hr hg he hdb hs hpl) fun σ H Q q => ?_
  obtain ⟨x, hx, k⟩ := q
  exact ⟨x, hx, x, rfl, fun a d H' ha hd sm h1 h2 => k _ H' sm (EV.mk hk h1 h2)⟩
theorem px_kw (h : XK X.prog X.w X.K X.mg X.base c n f) (hk : kd n = some f) (hr : Room 2 X.A) (hg : Gl X (cN n)) (he : PE X e (tVar i)) (hdb : (cN n == ("__debug__" : Str)) = false := by rfl)
    (hall : ((backToKw pos (keywordEach [⟨some f, e, kp⟩] X.env)).all fun x => x.1.isSome) = true := by rfl) (hks : (backToKw pos (keywordEach [⟨some f, e, kp⟩] X.env)).filterMap (fun x => x.1) = [f] := by rfl)
    (hpl : (((backTo pos (starEach [] X.env)).any fun x => x.1) || ((backToKw pos (keywordEach [⟨some f, e, kp⟩] X.env)).any fun x => x.1.isNone)) = false := by rfl) : PE X (.Call (.Name (cN n) p) [] [⟨some f, e, kp⟩] pos) (tX c i n) := by
  obtain ⟨B, newId, initId, bmB, fI, fd, FB, D, F⟩ := h
  refine pe_wk1 (mk_kw FB D F hr hg he hdb hall hks hpl) fun σ H Q q => ?_
  obtain ⟨x, hx, k⟩ := q
  exact ⟨x, hx, x, rfl, fun a d H' ha hd sm h1 h2 => k _ H' sm (EV.mk hk h1 h2)⟩
theorem px_none (h : X0 X.K X.mg c n) (hk : kd n = none) (hg : Gl X (cN n)) (hdb : (cN n == ("__debug__" : Str)) = false := by rfl) : PE X (.Call (.Name (cN n) p) [] [] pos) (tX c i n) := by
  obtain ⟨B, newId, initId, bmB, FB, q, g, kC⟩ := h
  refine pe_wk1 (mk_none FB q g kC hg hdb) fun σ H Q q => ?_
  obtain ⟨x, hx, k⟩ := q
  exact fun a H' ha sm h1 => k _ H' sm ⟨a, rfl, by rw [hk]; exact h1⟩
theorem pxs_nil : PA X [] (tXs c i []) := ⟨fun pos pins s σ H Q I q => by
  obtain ⟨x, hx, k⟩ := q
  exact pa_nil.run pos pins s σ H Q I (k [] H (Same.refl H) .nil)⟩
theorem pxs_cons (a : PE X e (tX c i n)) (b : PA X es (tXs c i ns)) (hs : starEach (e :: es) X.env = (false, eval e X.env) :: starEach es X.env := by rfl) : PA X (e :: es) (tXs c i (n :: ns)) := ⟨fun pos pins s σ H Q I q => by
  obtain ⟨x, hx, k⟩ := q
  exact (pa_cons a b hs).run pos pins s σ H Q I ⟨x, hx, fun v H1 s1 r1 => ⟨x, hx, fun vs H2 s2 r2 => k _ H2 (s1.trans s2) (.cons (r1.keep s2) r2)⟩⟩⟩
theorem pxl (b : PA X es (tXs c i ns)) (hz : ns.length ≤ 1000) : PE X (.List es pos) (tXL c i ns) := by
  refine pe_wk1 (pe_lst b) fun σ H Q q => ?_
  obtain ⟨x, hx, k⟩ := q
  exact ⟨x, hx, fun vs H1 s1 r1 => ⟨by rw [r1.length]; exact sz1000 hz, fun l hl => k l vs _ (s1.trans (same_new hl)) upd_same (r1.keep (same_new hl))⟩⟩
end
/-- the list at l, its errors, in a heap -/
def EL (c : Nat → Addr) (H : Hp) (x v : V) (ns : List Nat) : Prop := ∃ l xs, v = .ref l ∧ H l = some (.lst xs) ∧ EA c H x xs ns
theorem EL.keep {c : Nat → Addr} {H H' : Hp} {x v : V} {ns : List Nat} (h : EL c H x v ns) (s : Same H H') : EL c H' x v ns := by
  obtain ⟨l, xs, rfl, h1, h2⟩ := h
  exact ⟨l, xs, rfl, s _ _ h1, h2.keep s⟩
theorem el_cat {c : Nat → Addr} {H : Hp} {x u v : V} {ns ms : List Nat} {Q : VK} (h1 : EL c H x u ns) (h2 : EL c H x v ms) (hz : ns.length + ms.length ≤ 1000) (k : ∀ w H', Same H H' → EL c H' x w (ns ++ ms) → Q w H') : rCat u v H Q := by
  obtain ⟨l, xs, rfl, a1, b1⟩ := h1
  obtain ⟨m, ys, rfl, a2, b2⟩ := h2
  exact ⟨l, m, xs, ys, rfl, rfl, a1, a2, by rw [b1.length, b2.length]; exact sz1000 hz, fun t ht => k _ _ (same_new ht) ⟨t, _, rfl, upd_same, (b1.append b2).keep (same_new ht)⟩⟩
/-! ### a list of answers to isinstance of what slot 0 holds -/
def tBs (c : Nat → Addr) (gs : List (Nat → Bool)) : TA := fun σ H Q => ∃ a n fs, σ[0]? = some (some (.ref a)) ∧ n < 51 ∧ ErrAt H a (c n) fs ∧ Q (gs.map fun g => V.bl (g n)) H
def tBL (c : Nat → Addr) (gs : List (Nat → Bool)) : TE := fun σ H Q => ∃ a n fs, σ[0]? = some (some (.ref a)) ∧ n < 51 ∧ ErrAt H a (c n) fs ∧ ∀ l H', Same H H' → H' l = some (.lst (gs.map fun g => V.bl (g n))) → Q (.ref l) H'
theorem pa_wk1 {X : Cx} {es : List Expr} {t t' : TA} (h : PA X es t) (w : ∀ σ H Q, t' σ H Q → t σ H Q) : PA X es t' := ⟨fun pos pins s σ H Q I q => h.run pos pins s σ H Q I (w σ H Q q)⟩
section
variable {X : Cx} {c : Nat → Addr} {e0 e1 : Expr} {es : List Expr} {gs : List (Nat → Bool)} {g : Nat → Bool} {p pos : Pos} {v : V} {cv : Value}
theorem pb_nil : PA X [] (tBs c []) := pa_wk1 pa_nil fun σ H Q q => by
  obtain ⟨a, n, fs, h1, h2, h3, h4⟩ := q
  exact h4
theorem pb_cons (E : ExcFacts X.K c) (hc : ClsV v cv) (kit : ∀ n, n < 51 → PySem.W.kitOne X.K (.ref (c n)) cv = some (g n)) (b : PA X es (tBs c gs))
    (h2 : PE X (.Call (.Name "isinstance" p) [e0, e1] [] pos) (tCB (rIsV X.K) (tCons (tVar 0) (tCons (tC v) tNil)))) (hs : starEach (.Call (.Name "isinstance" p) [e0, e1] [] pos :: es) X.env = (false, eval (.Call (.Name "isinstance" p) [e0, e1] [] pos) X.env) :: starEach es X.env := by rfl) :
    PA X (.Call (.Name "isinstance" p) [e0, e1] [] pos :: es) (tBs c (g :: gs)) := pa_wk1 (pa_cons h2 b hs) fun σ H Q q => by
  obtain ⟨a, n, fs, h1, hn, he, k⟩ := q
  exact ⟨_, h1, a, c n, fs, v, cv, g n, rfl, hc, he, E.x n hn, kit n hn, a, n, fs, h1, hn, he, k⟩
theorem pbl (b : PA X es (tBs c gs)) (hz : gs.length ≤ 1000) : PE X (.List es pos) (tBL c gs) := pe_wk1 (pe_lst b) fun σ H Q q => by
  obtain ⟨a, n, fs, h1, h2, h3, k⟩ := q
  exact ⟨a, n, fs, h1, h2, h3, by rw [List.length_map]; exact sz1000 hz, fun l hl => k l _ (same_new hl) upd_same⟩
end
/-- a list of bools at v -/
def BL (H : Hp) (v : V) (gs : List (Nat → Bool)) (n : Nat) : Prop := ∃ l, v = .ref l ∧ H l = some (.lst (gs.map fun g => V.bl (g n)))
theorem BL.keep {H H' : Hp} {v : V} {gs : List (Nat → Bool)} {n : Nat} (h : BL H v gs n) (s : Same H H') : BL H' v gs n := by
  obtain ⟨l, rfl, h⟩ := h
  exact ⟨l, rfl, s _ _ h⟩
theorem bl_cat {H : Hp} {u v : V} {gs ks : List (Nat → Bool)} {n : Nat} {Q : VK} (h1 : BL H u gs n) (h2 : BL H v ks n) (hz : gs.length + ks.length ≤ 1000) (k : ∀ w H', Same H H' → BL H' w (gs ++ ks) n → Q w H') : rCat u v H Q := by
  obtain ⟨l, rfl, a1⟩ := h1
  obtain ⟨m, rfl, a2⟩ := h2
  exact ⟨l, m, _, _, rfl, rfl, a1, a2, by rw [List.length_map, List.length_map]; exact sz1000 hz, fun t ht => k _ _ (same_new ht) ⟨t, rfl, by rw [upd_same, List.map_append]⟩⟩
/-- statement by statement: the first list, a list more, what is handed back -/
theorem xl_first {c : Nat → Addr} {i : Nat} {ns : List Nat} {σ : L2.St} {H : Hp} {Q : VK} {x : V} (hx : σ[i]? = some (some x)) (k : ∀ w H', Same H H' → EL c H' x w ns → Q w H') : tXL c i ns σ H Q := ⟨x, hx, fun l xs H1 s1 h1 r1 => k _ H1 s1 ⟨l, xs, rfl, h1, r1⟩⟩
theorem xl_more {c : Nat → Addr} {i j : Nat} {ns ms : List Nat} {σ : L2.St} {H : Hp} {Q : VK} {x u : V} (hx : σ[i]? = some (some x)) (hu : σ[j]? = some (some u)) (e : EL c H x u ms) (hz : ms.length + ns.length ≤ 1000) (k : ∀ w H', Same H H' → EL c H' x w (ms ++ ns) → Q w H') :
    tOp rCat (tVar j) (tXL c i ns) σ H Q := ⟨u, hu, x, hx, fun l xs H1 s1 h1 r1 => el_cat (e.keep s1) ⟨l, xs, rfl, h1, r1⟩ hz fun w H2 s2 e2 => k w H2 (s1.trans s2) e2⟩
theorem bl_first {c : Nat → Addr} {gs : List (Nat → Bool)} {σ : L2.St} {H : Hp} {Q : VK} {a n : Nat} {fs : List (Str × V)} (hx : σ[0]? = some (some (.ref a))) (hn : n < 51) (he : ErrAt H a (c n) fs) (k : ∀ w H', Same H H' → BL H' w gs n → Q w H') : tBL c gs σ H Q :=
  ⟨a, n, fs, hx, hn, he, fun l H1 s1 h1 => k _ H1 s1 ⟨l, rfl, h1⟩⟩
theorem bl_more {c : Nat → Addr} {j : Nat} {gs ks : List (Nat → Bool)} {σ : L2.St} {H : Hp} {Q : VK} {a n : Nat} {fs : List (Str × V)} {u : V} (hx : σ[0]? = some (some (.ref a))) (hn : n < 51) (he : ErrAt H a (c n) fs) (hu : σ[j]? = some (some u)) (e : BL H u ks n) (hz : ks.length + gs.length ≤ 1000)
    (k : ∀ w H', Same H H' → BL H' w (ks ++ gs) n → Q w H') : tOp rCat (tVar j) (tBL c gs) σ H Q :=
  ⟨u, hu, a, n, fs, hx, hn, he, fun l H1 s1 h1 => bl_cat (e.keep s1) ⟨l, rfl, h1⟩ hz fun w H2 s2 e2 => k w H2 (s1.trans s2) e2⟩
end Cs
set_option maxHeartbeats 4000000
namespace Cs
open PySem L2 PyProof.Rows
local macro_rules | `(tactic| walk_at "goD0") => `(tactic| ((try dsimp only [tSeq, tAsg, tRet, gName]); (try simp only [List.set_set])))
/-- the three bases of the program's own, and those of Python's -/
structure BaseFacts (K : PySem.W.Frag) (mg : Str → Option Value) (c cb : Nat → Addr) : Prop where
  g0 : mg "WrongValue" = some (.ref (cb 0))
  g1 : mg "WrongName" = some (.ref (cb 1))
  g2 : mg "NotPossible" = some (.ref (cb 2))
  k0 : ∀ n, n < 51 → PySem.W.kitOne K (.ref (c n)) (.ref (cb 0)) = some (decide (n < 37))
  k1 : ∀ n, n < 51 → PySem.W.kitOne K (.ref (c n)) (.ref (cb 1)) = some (decide (37 ≤ n) && decide (n < 40))
  k2 : ∀ n, n < 51 → PySem.W.kitOne K (.ref (c n)) (.ref (cb 2)) = some (decide (40 ≤ n))
  k3 : ∀ n, n < 51 → PySem.W.kitOne K (.ref (c n)) (.type "ValueError") = some (decide (n < 37))
  k4 : ∀ n, n < 51 → PySem.W.kitOne K (.ref (c n)) (.type "LookupError") = some (decide (37 ≤ n) && decide (n < 40))
  k5 : ∀ n, n < 51 → PySem.W.kitOne K (.ref (c n)) (.type "ArithmeticError") = some (decide (40 ≤ n))
def SpGiven (c : Nat → Addr) (ns : List Nat) : Sp := fun vs H Q _ => ∃ x, vs = [x] ∧ ∀ w H', Same H H' → EL c H' x w ns → Q w H'
def SpFlags (c : Nat → Addr) (gs : List (Nat → Bool)) : Sp := fun vs H Q _ => ∃ a n fs, vs = [.ref a] ∧ n < 51 ∧ ErrAt H a (c n) fs ∧ ∀ w H', Same H H' → BL H' w gs n → Q w H'
section
variable {P : Program} {w : World} {K : PySem.W.Frag} {mg : Str → Option Value} {base : Heap} {c cb : Nat → Addr}
theorem sc__law_given : FnScope ["_law_x", "_law_found"] ["_law_x"] (defScope (topS 72)) := ⟨rfl, rfl, rfl, by decide +kernel, rfl, by decide +kernel, by decide +kernel⟩
theorem ok__law_given (D : DefAt K mg "_law_given" (topS 72) ["_law_x"]) (hX : ∀ n f, n < 51 → kd n = some f → XK P w K mg base c n f) : C8.Cal P w K mg base 3 "_law_given" (SpGiven c (List.range 30)) [] := by
  refine D.cal sc__law_given (fun vs H Q E h => by obtain ⟨x, rfl, _⟩ := h; rfl) fun f cdv A outer s H vs Q E hr h => ?_
  obtain ⟨x, rfl, k⟩ := h
  have nd := sc__law_given.nd
  refine ⟨_, (pss_cons (ps_set (i := 1) nd rfl (.inl rfl) (pxl (c := c) (i := 0) (pxs_cons (px_pos (n := 0) (f := "given") (hX 0 _ (by decide) rfl) rfl (hr.mono (by decide)) rfl (pv 0)) (pxs_cons (px_kw (n := 1) (f := "given") (hX 1 _ (by decide) rfl) rfl (hr.mono (by decide)) rfl (pv 0)) (pxs_cons (px_pos (n := 2) (f := "given") (hX 2 _ (by decide) rfl) rfl (hr.mono (by decide)) rfl (pv 0)) (pxs_cons (px_kw (n := 3) (f := "given") (hX 3 _ (by decide) rfl) rfl (hr.mono (by decide)) rfl (pv 0)) (pxs_cons (px_pos (n := 4) (f := "given") (hX 4 _ (by decide) rfl) rfl (hr.mono (by decide)) rfl (pv 0)) pxs_nil))))) (by decide)))
      (pss_cons (ps_set (i := 1) nd rfl (.inl rfl) (pe_op op_cat (pv 1) (pxl (c := c) (i := 0) (pxs_cons (px_kw (n := 5) (f := "given") (hX 5 _ (by decide) rfl) rfl (hr.mono (by decide)) rfl (pv 0)) (pxs_cons (px_pos (n := 6) (f := "given") (hX 6 _ (by decide) rfl) rfl (hr.mono (by decide)) rfl (pv 0)) (pxs_cons (px_kw (n := 7) (f := "given") (hX 7 _ (by decide) rfl) rfl (hr.mono (by decide)) rfl (pv 0)) (pxs_cons (px_pos (n := 8) (f := "given") (hX 8 _ (by decide) rfl) rfl (hr.mono (by decide)) rfl (pv 0)) pxs_nil)))) (by decide))))
      (pss_cons (ps_set (i := 1) nd rfl (.inl rfl) (pe_op op_cat (pv 1) (pxl (c := c) (i := 0) (pxs_cons (px_kw (n := 9) (f := "given") (hX 9 _ (by decide) rfl) rfl (hr.mono (by decide)) rfl (pv 0)) (pxs_cons (px_pos (n := 10) (f := "given") (hX 10 _ (by decide) rfl) rfl (hr.mono (by decide)) rfl (pv 0)) (pxs_cons (px_kw (n := 11) (f := "given") (hX 11 _ (by decide) rfl) rfl (hr.mono (by decide)) rfl (pv 0)) (pxs_cons (px_pos (n := 12) (f := "given") (hX 12 _ (by decide) rfl) rfl (hr.mono (by decide)) rfl (pv 0)) pxs_nil)))) (by decide))))
      (pss_cons (ps_set (i := 1) nd rfl (.inl rfl) (pe_op op_cat (pv 1) (pxl (c := c) (i := 0) (pxs_cons (px_kw (n := 13) (f := "given") (hX 13 _ (by decide) rfl) rfl (hr.mono (by decide)) rfl (pv 0)) (pxs_cons (px_pos (n := 14) (f := "given") (hX 14 _ (by decide) rfl) rfl (hr.mono (by decide)) rfl (pv 0)) (pxs_cons (px_kw (n := 15) (f := "given") (hX 15 _ (by decide) rfl) rfl (hr.mono (by decide)) rfl (pv 0)) (pxs_cons (px_pos (n := 16) (f := "given") (hX 16 _ (by decide) rfl) rfl (hr.mono (by decide)) rfl (pv 0)) pxs_nil)))) (by decide))))
      (pss_cons (ps_set (i := 1) nd rfl (.inl rfl) (pe_op op_cat (pv 1) (pxl (c := c) (i := 0) (pxs_cons (px_kw (n := 17) (f := "given") (hX 17 _ (by decide) rfl) rfl (hr.mono (by decide)) rfl (pv 0)) (pxs_cons (px_pos (n := 18) (f := "given") (hX 18 _ (by decide) rfl) rfl (hr.mono (by decide)) rfl (pv 0)) (pxs_cons (px_kw (n := 19) (f := "given") (hX 19 _ (by decide) rfl) rfl (hr.mono (by decide)) rfl (pv 0)) (pxs_cons (px_pos (n := 20) (f := "given") (hX 20 _ (by decide) rfl) rfl (hr.mono (by decide)) rfl (pv 0)) pxs_nil)))) (by decide))))
      (pss_cons (ps_set (i := 1) nd rfl (.inl rfl) (pe_op op_cat (pv 1) (pxl (c := c) (i := 0) (pxs_cons (px_kw (n := 21) (f := "given") (hX 21 _ (by decide) rfl) rfl (hr.mono (by decide)) rfl (pv 0)) (pxs_cons (px_pos (n := 22) (f := "given") (hX 22 _ (by decide) rfl) rfl (hr.mono (by decide)) rfl (pv 0)) (pxs_cons (px_kw (n := 23) (f := "given") (hX 23 _ (by decide) rfl) rfl (hr.mono (by decide)) rfl (pv 0)) (pxs_cons (px_pos (n := 24) (f := "given") (hX 24 _ (by decide) rfl) rfl (hr.mono (by decide)) rfl (pv 0)) pxs_nil)))) (by decide))))
      (pss_one (ps_ret (pe_op op_cat (pv 1) (pxl (c := c) (i := 0) (pxs_cons (px_kw (n := 25) (f := "given") (hX 25 _ (by decide) rfl) rfl (hr.mono (by decide)) rfl (pv 0)) (pxs_cons (px_pos (n := 26) (f := "given") (hX 26 _ (by decide) rfl) rfl (hr.mono (by decide)) rfl (pv 0)) (pxs_cons (px_kw (n := 27) (f := "given") (hX 27 _ (by decide) rfl) rfl (hr.mono (by decide)) rfl (pv 0)) (pxs_cons (px_pos (n := 28) (f := "given") (hX 28 _ (by decide) rfl) rfl (hr.mono (by decide)) rfl (pv 0)) (pxs_cons (px_kw (n := 29) (f := "given") (hX 29 _ (by decide) rfl) rfl (hr.mono (by decide)) rfl (pv 0)) pxs_nil))))) (by decide))))))))))), ?_⟩
  walk_at "goD0"
  refine xl_first (x := x) (by rfl) fun w1 H1 s1 e1 => ?_
  walk_at "goD0"
  refine xl_more (x := x) (by rfl) (by rfl) e1 (by decide) fun w2 H2 s2 e2 => ?_
  walk_at "goD0"
  refine xl_more (x := x) (by rfl) (by rfl) e2 (by decide) fun w3 H3 s3 e3 => ?_
  walk_at "goD0"
  refine xl_more (x := x) (by rfl) (by rfl) e3 (by decide) fun w4 H4 s4 e4 => ?_
  walk_at "goD0"
  refine xl_more (x := x) (by rfl) (by rfl) e4 (by decide) fun w5 H5 s5 e5 => ?_
  walk_at "goD0"
  refine xl_more (x := x) (by rfl) (by rfl) e5 (by decide) fun w6 H6 s6 e6 => ?_
  walk_at "goD0"
  refine xl_more (x := x) (by rfl) (by rfl) e6 (by decide) fun w7 H7 s7 e7 => ?_
  exact k w7 H7 ((((((s1.trans s2).trans s3).trans s4).trans s5).trans s6).trans s7) e7
theorem sc__law_placed : FnScope ["_law_x", "_law_found"] ["_law_x"] (defScope (topS 73)) := ⟨rfl, rfl, rfl, by decide +kernel, rfl, by decide +kernel, by decide +kernel⟩
theorem ok__law_placed (D : DefAt K mg "_law_placed" (topS 73) ["_law_x"]) (hX : ∀ n f, n < 51 → kd n = some f → XK P w K mg base c n f) : C8.Cal P w K mg base 3 "_law_placed" (SpGiven c (List.range' 30 7)) [] := by
  refine D.cal sc__law_placed (fun vs H Q E h => by obtain ⟨x, rfl, _⟩ := h; rfl) fun f cdv A outer s H vs Q E hr h => ?_
  obtain ⟨x, rfl, k⟩ := h
  have nd := sc__law_placed.nd
  refine ⟨_, (pss_cons (ps_set (i := 1) nd rfl (.inl rfl) (pxl (c := c) (i := 0) (pxs_cons (px_pos (n := 30) (f := "index") (hX 30 _ (by decide) rfl) rfl (hr.mono (by decide)) rfl (pv 0)) (pxs_cons (px_kw (n := 31) (f := "index") (hX 31 _ (by decide) rfl) rfl (hr.mono (by decide)) rfl (pv 0)) (pxs_cons (px_pos (n := 32) (f := "index") (hX 32 _ (by decide) rfl) rfl (hr.mono (by decide)) rfl (pv 0)) (pxs_cons (px_kw (n := 33) (f := "index") (hX 33 _ (by decide) rfl) rfl (hr.mono (by decide)) rfl (pv 0)) (pxs_cons (px_pos (n := 34) (f := "index") (hX 34 _ (by decide) rfl) rfl (hr.mono (by decide)) rfl (pv 0)) pxs_nil))))) (by decide)))
      (pss_one (ps_ret (pe_op op_cat (pv 1) (pxl (c := c) (i := 0) (pxs_cons (px_kw (n := 35) (f := "index") (hX 35 _ (by decide) rfl) rfl (hr.mono (by decide)) rfl (pv 0)) (pxs_cons (px_pos (n := 36) (f := "index") (hX 36 _ (by decide) rfl) rfl (hr.mono (by decide)) rfl (pv 0)) pxs_nil)) (by decide)))))), ?_⟩
  walk_at "goD0"
  refine xl_first (x := x) (by rfl) fun w1 H1 s1 e1 => ?_
  walk_at "goD0"
  refine xl_more (x := x) (by rfl) (by rfl) e1 (by decide) fun w2 H2 s2 e2 => ?_
  exact k w2 H2 (s1.trans s2) e2
theorem sc__law_one_of : FnScope ["_law_e", "_law_found"] ["_law_e"] (defScope (topS 71)) := ⟨rfl, rfl, rfl, by decide +kernel, rfl, by decide +kernel, by decide +kernel⟩
theorem ok__law_one_of (D : DefAt K mg "_law_one_of" (topS 71) ["_law_e"]) (T : Txt mg) (EF : ExcFacts K c) (hcl : ∀ n, n < 51 → mg (cN n) = some (.ref (c n))) (eb : BaseFacts K mg c cb) : C8.Cal P w K mg base 1 "_law_one_of" (SpFlags c ((List.range 51).map fun m n => n == m)) [] := by
  refine D.cal sc__law_one_of (fun vs H Q E h => by obtain ⟨a, n, fs, rfl, _⟩ := h; rfl) fun f cdv A outer s H vs Q E hr h => ?_
  obtain ⟨a, n, fs, rfl, hn, he, k⟩ := h
  have nd := sc__law_one_of.nd
  refine ⟨_, (pss_cons (ps_set (i := 1) nd rfl (.inl rfl) (pbl (c := c) (pb_cons (g := (fun n => n == 0)) (v := (.ref (c 0))) EF (.own _) (fun n hn => EF.kit n 0 hn (by decide)) (pb_cons (g := (fun n => n == 1)) (v := (.ref (c 1))) EF (.own _) (fun n hn => EF.kit n 1 hn (by decide)) (pb_cons (g := (fun n => n == 2)) (v := (.ref (c 2))) EF (.own _) (fun n hn => EF.kit n 2 hn (by decide)) pb_nil (pe_callB call_isV (by rfl) T.isinstance_ (by decide +kernel) (pa_cons (pv 0) (pa_cons (C8.pe_gc rfl ⟨_, hcl 2 (by decide), rfl⟩) pa_nil)))) (pe_callB call_isV (by rfl) T.isinstance_ (by decide +kernel) (pa_cons (pv 0) (pa_cons (C8.pe_gc rfl ⟨_, hcl 1 (by decide), rfl⟩) pa_nil)))) (pe_callB call_isV (by rfl) T.isinstance_ (by decide +kernel) (pa_cons (pv 0) (pa_cons (C8.pe_gc rfl ⟨_, hcl 0 (by decide), rfl⟩) pa_nil)))) (by decide)))
      (pss_cons (ps_set (i := 1) nd rfl (.inl rfl) (pe_op op_cat (pv 1) (pbl (c := c) (pb_cons (g := (fun n => n == 3)) (v := (.ref (c 3))) EF (.own _) (fun n hn => EF.kit n 3 hn (by decide)) (pb_cons (g := (fun n => n == 4)) (v := (.ref (c 4))) EF (.own _) (fun n hn => EF.kit n 4 hn (by decide)) (pb_cons (g := (fun n => n == 5)) (v := (.ref (c 5))) EF (.own _) (fun n hn => EF.kit n 5 hn (by decide)) pb_nil (pe_callB call_isV (by rfl) T.isinstance_ (by decide +kernel) (pa_cons (pv 0) (pa_cons (C8.pe_gc rfl ⟨_, hcl 5 (by decide), rfl⟩) pa_nil)))) (pe_callB call_isV (by rfl) T.isinstance_ (by decide +kernel) (pa_cons (pv 0) (pa_cons (C8.pe_gc rfl ⟨_, hcl 4 (by decide), rfl⟩) pa_nil)))) (pe_callB call_isV (by rfl) T.isinstance_ (by decide +kernel) (pa_cons (pv 0) (pa_cons (C8.pe_gc rfl ⟨_, hcl 3 (by decide), rfl⟩) pa_nil)))) (by decide))))
      (pss_cons (ps_set (i := 1) nd rfl (.inl rfl) (pe_op op_cat (pv 1) (pbl (c := c) (pb_cons (g := (fun n => n == 6)) (v := (.ref (c 6))) EF (.own _) (fun n hn => EF.kit n 6 hn (by decide)) (pb_cons (g := (fun n => n == 7)) (v := (.ref (c 7))) EF (.own _) (fun n hn => EF.kit n 7 hn (by decide)) (pb_cons (g := (fun n => n == 8)) (v := (.ref (c 8))) EF (.own _) (fun n hn => EF.kit n 8 hn (by decide)) pb_nil (pe_callB call_isV (by rfl) T.isinstance_ (by decide +kernel) (pa_cons (pv 0) (pa_cons (C8.pe_gc rfl ⟨_, hcl 8 (by decide), rfl⟩) pa_nil)))) (pe_callB call_isV (by rfl) T.isinstance_ (by decide +kernel) (pa_cons (pv 0) (pa_cons (C8.pe_gc rfl ⟨_, hcl 7 (by decide), rfl⟩) pa_nil)))) (pe_callB call_isV (by rfl) T.isinstance_ (by decide +kernel) (pa_cons (pv 0) (pa_cons (C8.pe_gc rfl ⟨_, hcl 6 (by decide), rfl⟩) pa_nil)))) (by decide))))
      (pss_cons (ps_set (i := 1) nd rfl (.inl rfl) (pe_op op_cat (pv 1) (pbl (c := c) (pb_cons (g := (fun n => n == 9)) (v := (.ref (c 9))) EF (.own _) (fun n hn => EF.kit n 9 hn (by decide)) (pb_cons (g := (fun n => n == 10)) (v := (.ref (c 10))) EF (.own _) (fun n hn => EF.kit n 10 hn (by decide)) (pb_cons (g := (fun n => n == 11)) (v := (.ref (c 11))) EF (.own _) (fun n hn => EF.kit n 11 hn (by decide)) pb_nil (pe_callB call_isV (by rfl) T.isinstance_ (by decide +kernel) (pa_cons (pv 0) (pa_cons (C8.pe_gc rfl ⟨_, hcl 11 (by decide), rfl⟩) pa_nil)))) (pe_callB call_isV (by rfl) T.isinstance_ (by decide +kernel) (pa_cons (pv 0) (pa_cons (C8.pe_gc rfl ⟨_, hcl 10 (by decide), rfl⟩) pa_nil)))) (pe_callB call_isV (by rfl) T.isinstance_ (by decide +kernel) (pa_cons (pv 0) (pa_cons (C8.pe_gc rfl ⟨_, hcl 9 (by decide), rfl⟩) pa_nil)))) (by decide))))
      (pss_cons (ps_set (i := 1) nd rfl (.inl rfl) (pe_op op_cat (pv 1) (pbl (c := c) (pb_cons (g := (fun n => n == 12)) (v := (.ref (c 12))) EF (.own _) (fun n hn => EF.kit n 12 hn (by decide)) (pb_cons (g := (fun n => n == 13)) (v := (.ref (c 13))) EF (.own _) (fun n hn => EF.kit n 13 hn (by decide)) (pb_cons (g := (fun n => n == 14)) (v := (.ref (c 14))) EF (.own _) (fun n hn => EF.kit n 14 hn (by decide)) pb_nil (pe_callB call_isV (by rfl) T.isinstance_ (by decide +kernel) (pa_cons (pv 0) (pa_cons (C8.pe_gc rfl ⟨_, hcl 14 (by decide), rfl⟩) pa_nil)))) (pe_callB call_isV (by rfl) T.isinstance_ (by decide +kernel) (pa_cons (pv 0) (pa_cons (C8.pe_gc rfl ⟨_, hcl 13 (by decide), rfl⟩) pa_nil)))) (pe_callB call_isV (by rfl) T.isinstance_ (by decide +kernel) (pa_cons (pv 0) (pa_cons (C8.pe_gc rfl ⟨_, hcl 12 (by decide), rfl⟩) pa_nil)))) (by decide))))
      (pss_cons (ps_set (i := 1) nd rfl (.inl rfl) (pe_op op_cat (pv 1) (pbl (c := c) (pb_cons (g := (fun n => n == 15)) (v := (.ref (c 15))) EF (.own _) (fun n hn => EF.kit n 15 hn (by decide)) (pb_cons (g := (fun n => n == 16)) (v := (.ref (c 16))) EF (.own _) (fun n hn => EF.kit n 16 hn (by decide)) (pb_cons (g := (fun n => n == 17)) (v := (.ref (c 17))) EF (.own _) (fun n hn => EF.kit n 17 hn (by decide)) pb_nil (pe_callB call_isV (by rfl) T.isinstance_ (by decide +kernel) (pa_cons (pv 0) (pa_cons (C8.pe_gc rfl ⟨_, hcl 17 (by decide), rfl⟩) pa_nil)))) (pe_callB call_isV (by rfl) T.isinstance_ (by decide +kernel) (pa_cons (pv 0) (pa_cons (C8.pe_gc rfl ⟨_, hcl 16 (by decide), rfl⟩) pa_nil)))) (pe_callB call_isV (by rfl) T.isinstance_ (by decide +kernel) (pa_cons (pv 0) (pa_cons (C8.pe_gc rfl ⟨_, hcl 15 (by decide), rfl⟩) pa_nil)))) (by decide))))
      (pss_cons (ps_set (i := 1) nd rfl (.inl rfl) (pe_op op_cat (pv 1) (pbl (c := c) (pb_cons (g := (fun n => n == 18)) (v := (.ref (c 18))) EF (.own _) (fun n hn => EF.kit n 18 hn (by decide)) (pb_cons (g := (fun n => n == 19)) (v := (.ref (c 19))) EF (.own _) (fun n hn => EF.kit n 19 hn (by decide)) (pb_cons (g := (fun n => n == 20)) (v := (.ref (c 20))) EF (.own _) (fun n hn => EF.kit n 20 hn (by decide)) pb_nil (pe_callB call_isV (by rfl) T.isinstance_ (by decide +kernel) (pa_cons (pv 0) (pa_cons (C8.pe_gc rfl ⟨_, hcl 20 (by decide), rfl⟩) pa_nil)))) (pe_callB call_isV (by rfl) T.isinstance_ (by decide +kernel) (pa_cons (pv 0) (pa_cons (C8.pe_gc rfl ⟨_, hcl 19 (by decide), rfl⟩) pa_nil)))) (pe_callB call_isV (by rfl) T.isinstance_ (by decide +kernel) (pa_cons (pv 0) (pa_cons (C8.pe_gc rfl ⟨_, hcl 18 (by decide), rfl⟩) pa_nil)))) (by decide))))
      (pss_cons (ps_set (i := 1) nd rfl (.inl rfl) (pe_op op_cat (pv 1) (pbl (c := c) (pb_cons (g := (fun n => n == 21)) (v := (.ref (c 21))) EF (.own _) (fun n hn => EF.kit n 21 hn (by decide)) (pb_cons (g := (fun n => n == 22)) (v := (.ref (c 22))) EF (.own _) (fun n hn => EF.kit n 22 hn (by decide)) (pb_cons (g := (fun n => n == 23)) (v := (.ref (c 23))) EF (.own _) (fun n hn => EF.kit n 23 hn (by decide)) pb_nil (pe_callB call_isV (by rfl) T.isinstance_ (by decide +kernel) (pa_cons (pv 0) (pa_cons (C8.pe_gc rfl ⟨_, hcl 23 (by decide), rfl⟩) pa_nil)))) (pe_callB call_isV (by rfl) T.isinstance_ (by decide +kernel) (pa_cons (pv 0) (pa_cons (C8.pe_gc rfl ⟨_, hcl 22 (by decide), rfl⟩) pa_nil)))) (pe_callB call_isV (by rfl) T.isinstance_ (by decide +kernel) (pa_cons (pv 0) (pa_cons (C8.pe_gc rfl ⟨_, hcl 21 (by decide), rfl⟩) pa_nil)))) (by decide))))
      (pss_cons (ps_set (i := 1) nd rfl (.inl rfl) (pe_op op_cat (pv 1) (pbl (c := c) (pb_cons (g := (fun n => n == 24)) (v := (.ref (c 24))) EF (.own _) (fun n hn => EF.kit n 24 hn (by decide)) (pb_cons (g := (fun n => n == 25)) (v := (.ref (c 25))) EF (.own _) (fun n hn => EF.kit n 25 hn (by decide)) (pb_cons (g := (fun n => n == 26)) (v := (.ref (c 26))) EF (.own _) (fun n hn => EF.kit n 26 hn (by decide)) pb_nil (pe_callB call_isV (by rfl) T.isinstance_ (by decide +kernel) (pa_cons (pv 0) (pa_cons (C8.pe_gc rfl ⟨_, hcl 26 (by decide), rfl⟩) pa_nil)))) (pe_callB call_isV (by rfl) T.isinstance_ (by decide +kernel) (pa_cons (pv 0) (pa_cons (C8.pe_gc rfl ⟨_, hcl 25 (by decide), rfl⟩) pa_nil)))) (pe_callB call_isV (by rfl) T.isinstance_ (by decide +kernel) (pa_cons (pv 0) (pa_cons (C8.pe_gc rfl ⟨_, hcl 24 (by decide), rfl⟩) pa_nil)))) (by decide))))
      (pss_cons (ps_set (i := 1) nd rfl (.inl rfl) (pe_op op_cat (pv 1) (pbl (c := c) (pb_cons (g := (fun n => n == 27)) (v := (.ref (c 27))) EF (.own _) (fun n hn => EF.kit n 27 hn (by decide)) (pb_cons (g := (fun n => n == 28)) (v := (.ref (c 28))) EF (.own _) (fun n hn => EF.kit n 28 hn (by decide)) (pb_cons (g := (fun n => n == 29)) (v := (.ref (c 29))) EF (.own _) (fun n hn => EF.kit n 29 hn (by decide)) pb_nil (pe_callB call_isV (by rfl) T.isinstance_ (by decide +kernel) (pa_cons (pv 0) (pa_cons (C8.pe_gc rfl ⟨_, hcl 29 (by decide), rfl⟩) pa_nil)))) (pe_callB call_isV (by rfl) T.isinstance_ (by decide +kernel) (pa_cons (pv 0) (pa_cons (C8.pe_gc rfl ⟨_, hcl 28 (by decide), rfl⟩) pa_nil)))) (pe_callB call_isV (by rfl) T.isinstance_ (by decide +kernel) (pa_cons (pv 0) (pa_cons (C8.pe_gc rfl ⟨_, hcl 27 (by decide), rfl⟩) pa_nil)))) (by decide))))
      (pss_cons (ps_set (i := 1) nd rfl (.inl rfl) (pe_op op_cat (pv 1) (pbl (c := c) (pb_cons (g := (fun n => n == 30)) (v := (.ref (c 30))) EF (.own _) (fun n hn => EF.kit n 30 hn (by decide)) (pb_cons (g := (fun n => n == 31)) (v := (.ref (c 31))) EF (.own _) (fun n hn => EF.kit n 31 hn (by decide)) (pb_cons (g := (fun n => n == 32)) (v := (.ref (c 32))) EF (.own _) (fun n hn => EF.kit n 32 hn (by decide)) pb_nil (pe_callB call_isV (by rfl) T.isinstance_ (by decide +kernel) (pa_cons (pv 0) (pa_cons (C8.pe_gc rfl ⟨_, hcl 32 (by decide), rfl⟩) pa_nil)))) (pe_callB call_isV (by rfl) T.isinstance_ (by decide +kernel) (pa_cons (pv 0) (pa_cons (C8.pe_gc rfl ⟨_, hcl 31 (by decide), rfl⟩) pa_nil)))) (pe_callB call_isV (by rfl) T.isinstance_ (by decide +kernel) (pa_cons (pv 0) (pa_cons (C8.pe_gc rfl ⟨_, hcl 30 (by decide), rfl⟩) pa_nil)))) (by decide))))
      (pss_cons (ps_set (i := 1) nd rfl (.inl rfl) (pe_op op_cat (pv 1) (pbl (c := c) (pb_cons (g := (fun n => n == 33)) (v := (.ref (c 33))) EF (.own _) (fun n hn => EF.kit n 33 hn (by decide)) (pb_cons (g := (fun n => n == 34)) (v := (.ref (c 34))) EF (.own _) (fun n hn => EF.kit n 34 hn (by decide)) (pb_cons (g := (fun n => n == 35)) (v := (.ref (c 35))) EF (.own _) (fun n hn => EF.kit n 35 hn (by decide)) pb_nil (pe_callB call_isV (by rfl) T.isinstance_ (by decide +kernel) (pa_cons (pv 0) (pa_cons (C8.pe_gc rfl ⟨_, hcl 35 (by decide), rfl⟩) pa_nil)))) (pe_callB call_isV (by rfl) T.isinstance_ (by decide +kernel) (pa_cons (pv 0) (pa_cons (C8.pe_gc rfl ⟨_, hcl 34 (by decide), rfl⟩) pa_nil)))) (pe_callB call_isV (by rfl) T.isinstance_ (by decide +kernel) (pa_cons (pv 0) (pa_cons (C8.pe_gc rfl ⟨_, hcl 33 (by decide), rfl⟩) pa_nil)))) (by decide))))
      (pss_cons (ps_set (i := 1) nd rfl (.inl rfl) (pe_op op_cat (pv 1) (pbl (c := c) (pb_cons (g := (fun n => n == 36)) (v := (.ref (c 36))) EF (.own _) (fun n hn => EF.kit n 36 hn (by decide)) (pb_cons (g := (fun n => n == 37)) (v := (.ref (c 37))) EF (.own _) (fun n hn => EF.kit n 37 hn (by decide)) (pb_cons (g := (fun n => n == 38)) (v := (.ref (c 38))) EF (.own _) (fun n hn => EF.kit n 38 hn (by decide)) pb_nil (pe_callB call_isV (by rfl) T.isinstance_ (by decide +kernel) (pa_cons (pv 0) (pa_cons (C8.pe_gc rfl ⟨_, hcl 38 (by decide), rfl⟩) pa_nil)))) (pe_callB call_isV (by rfl) T.isinstance_ (by decide +kernel) (pa_cons (pv 0) (pa_cons (C8.pe_gc rfl ⟨_, hcl 37 (by decide), rfl⟩) pa_nil)))) (pe_callB call_isV (by rfl) T.isinstance_ (by decide +kernel) (pa_cons (pv 0) (pa_cons (C8.pe_gc rfl ⟨_, hcl 36 (by decide), rfl⟩) pa_nil)))) (by decide))))
      (pss_cons (ps_set (i := 1) nd rfl (.inl rfl) (pe_op op_cat (pv 1) (pbl (c := c) (pb_cons (g := (fun n => n == 39)) (v := (.ref (c 39))) EF (.own _) (fun n hn => EF.kit n 39 hn (by decide)) (pb_cons (g := (fun n => n == 40)) (v := (.ref (c 40))) EF (.own _) (fun n hn => EF.kit n 40 hn (by decide)) (pb_cons (g := (fun n => n == 41)) (v := (.ref (c 41))) EF (.own _) (fun n hn => EF.kit n 41 hn (by decide)) (pb_cons (g := (fun n => n == 42)) (v := (.ref (c 42))) EF (.own _) (fun n hn => EF.kit n 42 hn (by decide)) pb_nil (pe_callB call_isV (by rfl) T.isinstance_ (by decide +kernel) (pa_cons (pv 0) (pa_cons (C8.pe_gc rfl ⟨_, hcl 42 (by decide), rfl⟩) pa_nil)))) (pe_callB call_isV (by rfl) T.isinstance_ (by decide +kernel) (pa_cons (pv 0) (pa_cons (C8.pe_gc rfl ⟨_, hcl 41 (by decide), rfl⟩) pa_nil)))) (pe_callB call_isV (by rfl) T.isinstance_ (by decide +kernel) (pa_cons (pv 0) (pa_cons (C8.pe_gc rfl ⟨_, hcl 40 (by decide), rfl⟩) pa_nil)))) (pe_callB call_isV (by rfl) T.isinstance_ (by decide +kernel) (pa_cons (pv 0) (pa_cons (C8.pe_gc rfl ⟨_, hcl 39 (by decide), rfl⟩) pa_nil)))) (by decide))))
      (pss_cons (ps_set (i := 1) nd rfl (.inl rfl) (pe_op op_cat (pv 1) (pbl (c := c) (pb_cons (g := (fun n => n == 43)) (v := (.ref (c 43))) EF (.own _) (fun n hn => EF.kit n 43 hn (by decide)) (pb_cons (g := (fun n => n == 44)) (v := (.ref (c 44))) EF (.own _) (fun n hn => EF.kit n 44 hn (by decide)) (pb_cons (g := (fun n => n == 45)) (v := (.ref (c 45))) EF (.own _) (fun n hn => EF.kit n 45 hn (by decide)) pb_nil (pe_callB call_isV (by rfl) T.isinstance_ (by decide +kernel) (pa_cons (pv 0) (pa_cons (C8.pe_gc rfl ⟨_, hcl 45 (by decide), rfl⟩) pa_nil)))) (pe_callB call_isV (by rfl) T.isinstance_ (by decide +kernel) (pa_cons (pv 0) (pa_cons (C8.pe_gc rfl ⟨_, hcl 44 (by decide), rfl⟩) pa_nil)))) (pe_callB call_isV (by rfl) T.isinstance_ (by decide +kernel) (pa_cons (pv 0) (pa_cons (C8.pe_gc rfl ⟨_, hcl 43 (by decide), rfl⟩) pa_nil)))) (by decide))))
      (pss_cons (ps_set (i := 1) nd rfl (.inl rfl) (pe_op op_cat (pv 1) (pbl (c := c) (pb_cons (g := (fun n => n == 46)) (v := (.ref (c 46))) EF (.own _) (fun n hn => EF.kit n 46 hn (by decide)) (pb_cons (g := (fun n => n == 47)) (v := (.ref (c 47))) EF (.own _) (fun n hn => EF.kit n 47 hn (by decide)) (pb_cons (g := (fun n => n == 48)) (v := (.ref (c 48))) EF (.own _) (fun n hn => EF.kit n 48 hn (by decide)) pb_nil (pe_callB call_isV (by rfl) T.isinstance_ (by decide +kernel) (pa_cons (pv 0) (pa_cons (C8.pe_gc rfl ⟨_, hcl 48 (by decide), rfl⟩) pa_nil)))) (pe_callB call_isV (by rfl) T.isinstance_ (by decide +kernel) (pa_cons (pv 0) (pa_cons (C8.pe_gc rfl ⟨_, hcl 47 (by decide), rfl⟩) pa_nil)))) (pe_callB call_isV (by rfl) T.isinstance_ (by decide +kernel) (pa_cons (pv 0) (pa_cons (C8.pe_gc rfl ⟨_, hcl 46 (by decide), rfl⟩) pa_nil)))) (by decide))))
      (pss_cons (ps_set (i := 1) nd rfl (.inl rfl) (pe_op op_cat (pv 1) (pbl (c := c) (pb_cons (g := (fun n => n == 49)) (v := (.ref (c 49))) EF (.own _) (fun n hn => EF.kit n 49 hn (by decide)) (pb_cons (g := (fun n => n == 50)) (v := (.ref (c 50))) EF (.own _) (fun n hn => EF.kit n 50 hn (by decide)) pb_nil (pe_callB call_isV (by rfl) T.isinstance_ (by decide +kernel) (pa_cons (pv 0) (pa_cons (C8.pe_gc rfl ⟨_, hcl 50 (by decide), rfl⟩) pa_nil)))) (pe_callB call_isV (by rfl) T.isinstance_ (by decide +kernel) (pa_cons (pv 0) (pa_cons (C8.pe_gc rfl ⟨_, hcl 49 (by decide), rfl⟩) pa_nil)))) (by decide))))
      (pss_one (ps_ret (pv 1)))))))))))))))))))), ?_⟩
  walk_at "goD0"
  refine bl_first (by rfl) hn he fun w1 H1 s1 e1 => ?_
  have he2 := he.keep s1
  walk_at "goD0"
  refine bl_more (by rfl) hn he2 (by rfl) e1 (by decide) fun w2 H2 s2 e2 => ?_
  have he3 := he.keep (s1.trans s2)
  walk_at "goD0"
  refine bl_more (by rfl) hn he3 (by rfl) e2 (by decide) fun w3 H3 s3 e3 => ?_
  have he4 := he.keep ((s1.trans s2).trans s3)
  walk_at "goD0"
  refine bl_more (by rfl) hn he4 (by rfl) e3 (by decide) fun w4 H4 s4 e4 => ?_
  have he5 := he.keep (((s1.trans s2).trans s3).trans s4)
  walk_at "goD0"
  refine bl_more (by rfl) hn he5 (by rfl) e4 (by decide) fun w5 H5 s5 e5 => ?_
  have he6 := he.keep ((((s1.trans s2).trans s3).trans s4).trans s5)
  walk_at "goD0"
  refine bl_more (by rfl) hn he6 (by rfl) e5 (by decide) fun w6 H6 s6 e6 => ?_
  have he7 := he.keep (((((s1.trans s2).trans s3).trans s4).trans s5).trans s6)
  walk_at "goD0"
  refine bl_more (by rfl) hn he7 (by rfl) e6 (by decide) fun w7 H7 s7 e7 => ?_
  have he8 := he.keep ((((((s1.trans s2).trans s3).trans s4).trans s5).trans s6).trans s7)
  walk_at "goD0"
  refine bl_more (by rfl) hn he8 (by rfl) e7 (by decide) fun w8 H8 s8 e8 => ?_
  have he9 := he.keep (((((((s1.trans s2).trans s3).trans s4).trans s5).trans s6).trans s7).trans s8)
  walk_at "goD0"
  refine bl_more (by rfl) hn he9 (by rfl) e8 (by decide) fun w9 H9 s9 e9 => ?_
  have he10 := he.keep ((((((((s1.trans s2).trans s3).trans s4).trans s5).trans s6).trans s7).trans s8).trans s9)
  walk_at "goD0"
  refine bl_more (by rfl) hn he10 (by rfl) e9 (by decide) fun w10 H10 s10 e10 => ?_
  have he11 := he.keep (((((((((s1.trans s2).trans s3).trans s4).trans s5).trans s6).trans s7).trans s8).trans s9).trans s10)
  walk_at "goD0"
  refine bl_more (by rfl) hn he11 (by rfl) e10 (by decide) fun w11 H11 s11 e11 => ?_
  have he12 := he.keep ((((((((((s1.trans s2).trans s3).trans s4).trans s5).trans s6).trans s7).trans s8).trans s9).trans s10).trans s11)
  walk_at "goD0"
  refine bl_more (by rfl) hn he12 (by rfl) e11 (by decide) fun w12 H12 s12 e12 => ?_
  have he13 := he.keep (((((((((((s1.trans s2).trans s3).trans s4).trans s5).trans s6).trans s7).trans s8).trans s9).trans s10).trans s11).trans s12)
  walk_at "goD0"
  refine bl_more (by rfl) hn he13 (by rfl) e12 (by decide) fun w13 H13 s13 e13 => ?_
  have he14 := he.keep ((((((((((((s1.trans s2).trans s3).trans s4).trans s5).trans s6).trans s7).trans s8).trans s9).trans s10).trans s11).trans s12).trans s13)
  walk_at "goD0"
  refine bl_more (by rfl) hn he14 (by rfl) e13 (by decide) fun w14 H14 s14 e14 => ?_
  have he15 := he.keep (((((((((((((s1.trans s2).trans s3).trans s4).trans s5).trans s6).trans s7).trans s8).trans s9).trans s10).trans s11).trans s12).trans s13).trans s14)
  walk_at "goD0"
  refine bl_more (by rfl) hn he15 (by rfl) e14 (by decide) fun w15 H15 s15 e15 => ?_
  have he16 := he.keep ((((((((((((((s1.trans s2).trans s3).trans s4).trans s5).trans s6).trans s7).trans s8).trans s9).trans s10).trans s11).trans s12).trans s13).trans s14).trans s15)
  walk_at "goD0"
  refine bl_more (by rfl) hn he16 (by rfl) e15 (by decide) fun w16 H16 s16 e16 => ?_
  have he17 := he.keep (((((((((((((((s1.trans s2).trans s3).trans s4).trans s5).trans s6).trans s7).trans s8).trans s9).trans s10).trans s11).trans s12).trans s13).trans s14).trans s15).trans s16)
  walk_at "goD0"
  refine bl_more (by rfl) hn he17 (by rfl) e16 (by decide) fun w17 H17 s17 e17 => ?_
  refine ⟨_, rfl, ?_⟩
  exact k w17 H17 ((((((((((((((((s1.trans s2).trans s3).trans s4).trans s5).trans s6).trans s7).trans s8).trans s9).trans s10).trans s11).trans s12).trans s13).trans s14).trans s15).trans s16).trans s17) e17
theorem sc__law_bases : FnScope ["_law_e", "_law_found"] ["_law_e"] (defScope (topS 74)) := ⟨rfl, rfl, rfl, by decide +kernel, rfl, by decide +kernel, by decide +kernel⟩
theorem ok__law_bases (D : DefAt K mg "_law_bases" (topS 74) ["_law_e"]) (T : Txt mg) (EF : ExcFacts K c) (hcl : ∀ n, n < 51 → mg (cN n) = some (.ref (c n))) (eb : BaseFacts K mg c cb) : C8.Cal P w K mg base 1 "_law_bases" (SpFlags c [(fun n => decide (n < 37)), (fun n => decide (37 ≤ n) && decide (n < 40)), (fun n => decide (40 ≤ n)), (fun n => decide (n < 37)), (fun n => decide (37 ≤ n) && decide (n < 40)), (fun n => decide (40 ≤ n))]) [] := by
  refine D.cal sc__law_bases (fun vs H Q E h => by obtain ⟨a, n, fs, rfl, _⟩ := h; rfl) fun f cdv A outer s H vs Q E hr h => ?_
  obtain ⟨a, n, fs, rfl, hn, he, k⟩ := h
  have nd := sc__law_bases.nd
  refine ⟨_, (pss_cons (ps_set (i := 1) nd rfl (.inl rfl) (pbl (c := c) (pb_cons (g := (fun n => decide (n < 37))) (v := (.ref (cb 0))) EF (.own _) eb.k0 (pb_cons (g := (fun n => decide (37 ≤ n) && decide (n < 40))) (v := (.ref (cb 1))) EF (.own _) eb.k1 (pb_cons (g := (fun n => decide (40 ≤ n))) (v := (.ref (cb 2))) EF (.own _) eb.k2 pb_nil (pe_callB call_isV (by rfl) T.isinstance_ (by decide +kernel) (pa_cons (pv 0) (pa_cons (C8.pe_gc rfl ⟨_, eb.g2, rfl⟩) pa_nil)))) (pe_callB call_isV (by rfl) T.isinstance_ (by decide +kernel) (pa_cons (pv 0) (pa_cons (C8.pe_gc rfl ⟨_, eb.g1, rfl⟩) pa_nil)))) (pe_callB call_isV (by rfl) T.isinstance_ (by decide +kernel) (pa_cons (pv 0) (pa_cons (C8.pe_gc rfl ⟨_, eb.g0, rfl⟩) pa_nil)))) (by decide)))
      (pss_one (ps_ret (pe_op op_cat (pv 1) (pbl (c := c) (pb_cons (g := (fun n => decide (n < 37))) (v := (.ty "ValueError")) EF (.ty _) eb.k3 (pb_cons (g := (fun n => decide (37 ≤ n) && decide (n < 40))) (v := (.ty "LookupError")) EF (.ty _) eb.k4 (pb_cons (g := (fun n => decide (40 ≤ n))) (v := (.ty "ArithmeticError")) EF (.ty _) eb.k5 pb_nil (pe_callB call_isV (by rfl) T.isinstance_ (by decide +kernel) (pa_cons (pv 0) (pa_cons (pe_bltn (v := .ty "ArithmeticError") (u := .type "ArithmeticError") (by rfl) T.ArithmeticError_ (by decide +kernel) rfl) pa_nil)))) (pe_callB call_isV (by rfl) T.isinstance_ (by decide +kernel) (pa_cons (pv 0) (pa_cons (pe_bltn (v := .ty "LookupError") (u := .type "LookupError") (by rfl) T.LookupError_ (by decide +kernel) rfl) pa_nil)))) (pe_callB call_isV (by rfl) T.isinstance_ (by decide +kernel) (pa_cons (pv 0) (pa_cons (pe_bltn (v := .ty "ValueError") (u := .type "ValueError") (by rfl) T.ValueError_ (by decide +kernel) rfl) pa_nil)))) (by decide)))))), ?_⟩
  walk_at "goD0"
  refine bl_first (by rfl) hn he fun w1 H1 s1 e1 => ?_
  have he2 := he.keep s1
  walk_at "goD0"
  refine bl_more (by rfl) hn he2 (by rfl) e1 (by decide) fun w2 H2 s2 e2 => ?_
  exact k w2 H2 (s1.trans s2) e2
end
end Cs
set_option maxHeartbeats 4000000
namespace Cs
open PySem L2 PyProof.Rows
theorem x_slT {f : List PyData → Prop} {fl fh : Option Int → Prop} {ds : List PyData} {i j : Option Int} (h : f ds) (h1 : fl i) (h2 : fh j) (hl : (cutD ds i j).length ≤ 1000) :
    ∃ es a b, f es ∧ fl a ∧ fh b ∧ (cutD es a b).length ≤ 1000 ∧ PyData.tuple (cutD ds i j) = .tuple (cutD es a b) := ⟨ds, i, j, h, h1, h2, hl, rfl⟩
theorem iteSame {α : Type} [DecidableEq α] {a b : α} {p q : Prop} (e : a = b) (k : q) : if (!decide (a = b)) = true then p else q := by
  subst e
  rw [decide_eq_true rfl]
  exact k
local macro_rules | `(tactic| walk_at "goD1") => `(tactic| try dsimp only [gName, tSeq, tAsg, tRet, tLst, tCons, tOp, tTup, tCall, tNil, tC, tDrop, tCB, tPar, tNext])
theorem PailAt.has {H : Hp} {p : Addr} {n : Nat} (h : PailAt H p n) : Has p H := by
  obtain ⟨a, b, c, _, _, e⟩ := h
  exact ⟨_, e⟩
theorem x_slL {f : List PyData → Prop} {fl fh : Option Int → Prop} {ds : List PyData} {i j : Option Int} (h : f ds) (h1 : fl i) (h2 : fh j) (hl : (cutD ds i j).length ≤ 1000) :
    ∃ es a b, f es ∧ fl a ∧ fh b ∧ (cutD es a b).length ≤ 1000 ∧ PyData.list (cutD ds i j) = .list (cutD es a b) := ⟨ds, i, j, h, h1, h2, hl, rfl⟩
theorem cutD_len {ds : List PyData} {i j : Option Int} : (cutD ds i j).length ≤ ds.length := by
  unfold cutD
  rw [List.length_take, List.length_drop]
  omega
local macro_rules | `(tactic| walk_at "pd") => `(tactic| repeat' first
  | exact Nat.le_of_ble_eq_true rfl
  | rfl
  | (apply Cs.x_var; (focus rfl); first | exact Cs.Rp.int _ | walk_at "rp")
  | apply Cs.x_tup
  | apply Cs.x_lst
  | apply Cs.x_cons
  | apply Cs.x_neg
  | exact Cs.x_add
  | exact Cs.x_sub
  | apply Cs.x_cat
  | apply Cs.x_catT
  | apply Cs.x_rep
  | apply Cs.x_bin
  | apply Cs.x_slT
  | apply Cs.x_slL
  | apply Cs.x_po
  | apply Cs.x_ix
  | apply Cs.x_list
  | apply Cs.x_str
  | (refine Nat.le_trans Cs.cutD_len ?_)
  | (focus (simp only [List.length_map, List.length_append, List.length_cons, List.length_nil]; omega))
  | fail "pd")
theorem pe_fldVK {X : Cx} {K : PySem.W.Frag} {e : Expr} {te : TE} {n : Str} {pos : Pos} (hK : X.K = K) (he : PE X e te) (hb : attributeBase e n X.env (eval e X.env) = eval e X.env := by rfl) : PE X (.Attribute e n pos) (tFldV K n te) := by
  subst hK
  exact pe_fldV he hb
/-- [e.f for e in errors], all of which keep x under f -/
theorem lc_fld {K : PySem.W.Frag} {c : Nat → Addr} {x : V} {ns : List Nat} {f : Str} {i : Nat} {tl : TE} {vs : List Nat} {σ : L2.St} {H : Hp} {Q : VK} (EF : ExcFacts K c) (hk : ∀ n ∈ ns, n < 51 ∧ kd n = some f) (hf : f = "given" ∨ f = "index") (hz : ns.length ≤ 1000)
    (ht : ∀ R : VK, (∀ w H1, Same H H1 → EL c H1 x w ns → R w H1) → tl σ H R) (w1 : ∀ v, ((wipe σ vs).set i (some v))[i]? = some (some v)) (w2 : ∀ v, wipe ((wipe σ vs).set i (some v)) vs = wipe σ vs)
    (k : ∀ D H', Same H H' → H' D = some (.lst (List.replicate ns.length x)) → Q (.ref D) H') : tLc (iList K tl) (gName i) tYes (tFldV K f (tVar i)) vs σ H Q := by
  refine ht _ fun w H1 s1 e1 => ?_
  obtain ⟨a, xs, rfl, ha, ea⟩ := e1
  refine ⟨a, rfl, ⟨xs, SqL.of ha⟩, fun D hD => ?_⟩
  refine lc_list (K := K) (a := a) (xs := xs) (fun j H2 => Same H1 H2 ∧ H2 D = some (.lst (List.replicate j x))) ⟨same_new hD, upd_same⟩ (fun j H2 _ p => SqL.of (p.1 _ _ ha)) (fun j v H2 hj ⟨sm, hd⟩ => ?_) (fun H2 ⟨sm, hd⟩ => k D H2 (s1.trans sm) (by rw [hd, ea.length]))
  · have hj2 := (List.getElem?_eq_some_iff.mp hj).1
    have ln := ea.length
    obtain ⟨n, hn⟩ : ∃ n, ns[j]? = some n := ⟨_, List.getElem?_eq_getElem (by omega : j < ns.length)⟩
    obtain ⟨v2, hv2, ev⟩ := ea.get hn
    rw [hj] at hv2
    obtain rfl := Option.some.inj hv2
    obtain ⟨h51, hkd⟩ := hk n (List.mem_of_getElem? hn)
    obtain ⟨e, rfl, m⟩ := ev.keep sm
    rw [hkd] at m
    obtain ⟨d, h1, h2⟩ := m
    refine ⟨w2 _, ?_⟩
    refine ⟨_, w1 _, e, c n, d, [(f, x)], x, rfl, h1, h2, EF.f n h51, ?_, ?_, ?_⟩
    · rcases hf with rfl | rfl
      · exact (EF.no n h51).1
      · exact (EF.no n h51).2
    · show ((f, x) :: ([] : List (Str × V))).lookup f = some x
      rw [lookup_put, if_pos rfl]
    · refine ⟨_, hd, ?_, fun b o q => ?_, ?_⟩
      · rw [List.length_replicate]
        exact Nat.lt_of_lt_of_le (by omega : j < 1001) (by decide)
      · rw [upd_ne (ne_of_none q hD)]
        exact sm _ _ q
      · rw [upd_same, List.replicate_succ']
theorem cutV_to {xs : List V} {i : Nat} (h : i ≤ xs.length) : cutV xs none (some ((i : Nat) : Int)) = xs.take i := by
  unfold cutV
  rw [HT.sIx_none, HT.sIx_nat, List.drop_zero, Nat.min_eq_left h, Nat.sub_zero]
theorem el_cut {K : PySem.W.Frag} {c : Nat → Addr} {H : Hp} {x u : V} {ns : List Nat} {k : Nat} {Q : VK} (e : EL c H x u ns) (hk : k ≤ ns.length) (q : ∀ w H', Same H H' → EL c H' x w (ns.take k) → Q w H') : rSlL K u none (some ((k : Nat) : Int)) H Q := by
  obtain ⟨l, xs, rfl, h, ea⟩ := e
  refine ⟨l, xs, rfl, SqL.of h, fun t ht => ?_⟩
  rw [cutV_to (by rw [ea.length]; exact hk)]
  exact q _ _ (same_new ht) ⟨t, _, rfl, upd_same, (ea.take k).keep (same_new ht)⟩
theorem chain_at {r r' : R2} {lo hi k : Int} {v : Nat} {σ : L2.St} {H : Hp} {Q : VK} {b : Bool} (h1 : ∀ x y H Q, rI0 (fun i j => V.bl (decide (i ≤ j))) x y H Q → r x y H Q) (h2 : ∀ x y H Q, rI0 (fun i j => V.bl (decide (i < j))) x y H Q → r' x y H Q)
    (hv : σ[v]? = some (some (.int k))) (hb : (decide (lo ≤ k) && decide (k < hi)) = b) (q : Q (.bl b) H) : tChain r r' (tC (.int lo)) (tVar v) (tC (.int hi)) σ H Q := by
  subst hb
  refine ⟨_, hv, h1 _ _ _ _ ⟨_, _, rfl, rfl, _, rfl, ?_⟩⟩
  cases e : decide (lo ≤ k) with
  | true =>
    rw [e, Bool.true_and] at q
    exact h2 _ _ _ _ ⟨_, _, rfl, rfl, q⟩
  | false =>
    rw [e, Bool.false_and] at q
    exact q
def bl6 (a b c d e f : Bool) : PyData := .list [.bool a, .bool b, .bool c, .bool d, .bool e, .bool f]
theorem dp6 {K : PySem.W.Frag} {H : Hp} {l : Addr} {a b c d e f : Bool} (h : H l = some (.lst [.bl a, .bl b, .bl c, .bl d, .bl e, .bl f])) : Dp K H (.ref l) (bl6 a b c d e f) := .lst (SqL.of h) (.cons (.bl a) (.cons (.bl b) (.cons (.bl c) (.cons (.bl d) (.cons (.bl e) (.cons (.bl f) .nil))))))
theorem eqv6 (a b c : Bool) : (bl6 a b c a b c).eqv (bl6 a b c a b c) = true := by cases a <;> cases b <;> cases c <;> rfl
theorem iteNe {p q : Prop} {d e : PyData} (h : d.eqv e = true) (k : q) : if (!d.eqv e) = true then p else q := by
  rw [h]
  exact k
def flagsOf (i : Nat) : List V := ((List.range 51).map fun m => (fun n => n == m : Nat → Bool)).map fun g => V.bl (g i)
theorem flags_ok : ∀ i, i < 51 → (flagsOf i).countP (fun z => eqV z (.bl true)) = 1 ∧ (flagsOf i)[i]? = some (.bl true) ∧ (flagsOf i).all flatV = true ∧ ∀ m, m < i → (flagsOf i)[m]? = some (.bl false) := by decide +kernel
theorem rep_rp {p : Addr} {H : Hp} {v : V} {d : PyData} (r : Rp p H v d) : ∀ n, RpA p H (List.replicate n v) (List.replicate n d)
  | 0 => .nil
  | n + 1 => .cons r (rep_rp r n)
/-- what is shown of one thing -/
structure Shows (d : PyData) : Prop where
  ok : d.showable = true
  safe : d.hasDict = true → noL d = true
  dep : d.depth ≤ 10
  len : d.shown.length ≤ 100
theorem rep_show {d : PyData} (h : d.showable = true) : ∀ n, PyData.showableAll (List.replicate n d) = true
  | 0 => rfl
  | n + 1 => by
    show (d.showable && PyData.showableAll (List.replicate n d)) = true
    rw [h, rep_show h n]
    rfl
theorem rep_dict {d : PyData} (h : d.hasDict = false) : ∀ n, PyData.hasDictAll (List.replicate n d) = false
  | 0 => rfl
  | n + 1 => by
    show (d.hasDict || PyData.hasDictAll (List.replicate n d)) = false
    rw [h, rep_dict h n]
    rfl
theorem rep_noL {d : PyData} (h : noL d = true) : ∀ n, noLs (List.replicate n d) = true
  | 0 => rfl
  | n + 1 => by
    show (noL d && noLs (List.replicate n d)) = true
    rw [h, rep_noL h n]
    rfl
theorem rep_shown {d : PyData} : ∀ n, PyData.shownAll (List.replicate n d) = List.replicate n d.shown
  | 0 => rfl
  | n + 1 => by
    show d.shown :: PyData.shownAll (List.replicate n d) = _
    rw [rep_shown n]
    rfl
theorem rep_dep {d : PyData} : ∀ n, PyData.depthAll (List.replicate n d) ≤ d.depth
  | 0 => Nat.zero_le _
  | n + 1 => by
    have z := rep_dep (d := d) n
    show Nat.max d.depth (PyData.depthAll (List.replicate n d)) ≤ d.depth
    exact Nat.max_le.mpr ⟨Nat.le_refl _, z⟩
theorem Shows.rep {d : PyData} (h : Shows d) : (PyData.list (List.replicate 47 d)).showable = true ∧ topSafe (.list (List.replicate 47 d)) = true ∧ (PyData.list (List.replicate 47 d)).depth ≤ 60 ∧ (PyData.list (List.replicate 47 d)).shown.length ≤ sizeLine := by
  refine ⟨?_, ?_, ?_, ?_⟩
  · rw [PyData.showable]
    exact rep_show h.ok 47
  · show (!PyData.hasDictAll (List.replicate 47 d) || noLs (List.replicate 47 d)) = true
    cases e : d.hasDict with
    | true => rw [rep_noL (h.safe e), Bool.or_true]
    | false => rw [rep_dict e]; rfl
  · have z := rep_dep (d := d) 47
    have y := h.dep
    rw [PyData.depth]
    omega
  · rw [PyData.shown, rep_shown]
    refine Nat.le_trans (PySem.listText_len_le _) (Nat.le_trans ?_ (show 5000 ≤ sizeLine by decide))
    rw [List.map_replicate, List.sum_replicate_nat, List.length_replicate]
    have y := h.len
    omega
theorem menu_show {d : PyData} {r : Int} (r0 : 0 ≤ r) (r1 : r < 1000000000) (hd : d ∈ [PyData.none, .int 0, .int (-7), .bool true, .str "", .str "rye", .tuple [], .tuple [.tuple [.int 1, .int 2]], .list [], .dict [], .int (10 ^ (60 : Int).toNat), .int r]) : Shows d := by
  simp only [List.mem_cons, List.not_mem_nil, or_false] at hd
  rcases hd with rfl | rfl | rfl | rfl | rfl | rfl | rfl | rfl | rfl | rfl | rfl | rfl
  all_goals first
    | exact ⟨by decide +kernel, by decide +kernel, by decide +kernel, by decide +kernel⟩
    | skip
  have z : (PyData.int r).shown.length ≤ 9 := toString_length_le r0 (by decide) r1
  refine ⟨?_, fun h => by simp [PyData.hasDict] at h, by simp [PyData.depth], by omega⟩
  rw [PyData.showable]
  have y : r.natAbs < 2 ^ 1900 := Nat.lt_of_lt_of_le (show r.natAbs < 1000000000 by omega) (by decide +kernel)
  have w := Nat.log2_le_self r.natAbs
  refine decide_eq_true ?_
  by_cases e : r.natAbs = 0
  · rw [e]
    decide
  · exact Nat.lt_trans ((Nat.log2_lt e).mpr y) (by decide)
def SpRight : Sp := fun vs H Q _ => ∃ p, vs = [.ref p] ∧ PailAt H p 0 ∧ ∀ H', ExB p H H' → Q (.bl true) H'
section
variable {P : Program} {w : World} {K : PySem.W.Frag} {mg : Str → Option Value} {base : Heap} {c cb : Nat → Addr}
theorem sc__law_right : FnScope ["_law_pail_here", "_law_told", "_law_x", "_law_value", "_law_places", "_law_names_here", "_law_plain", "_law_every", "_law_at", "_law_flags", "_law_due", "_law_kept", "_law_e"] ["_law_pail_here"] (defScope (topS 75)) := ⟨rfl, rfl, rfl, by decide +kernel, rfl, by decide +kernel, by decide +kernel⟩
theorem ok__law_right (D : DefAt K mg "_law_right" (topS 75) ["_law_pail_here"]) (T : Txt mg) (EF : ExcFacts K c) (hX : ∀ n f, n < 51 → kd n = some f → XK P w K mg base c n f) (h0 : ∀ n, n < 51 → kd n = none → X0 K mg c n)
    (c_law_scoop : C8.Cal P w K mg base 1 "_law_scoop" SpScoop []) (c_law_any : C8.Cal P w K mg base 2 "_law_any" SpAny []) (c_law_given : C8.Cal P w K mg base 3 "_law_given" (SpGiven c (List.range 30)) []) (c_law_placed : C8.Cal P w K mg base 3 "_law_placed" (SpGiven c (List.range' 30 7)) [])
    (c_law_one_of : C8.Cal P w K mg base 1 "_law_one_of" (SpFlags c ((List.range 51).map fun m n => n == m)) []) (c_law_bases : C8.Cal P w K mg base 1 "_law_bases" (SpFlags c [(fun n => decide (n < 37)), (fun n => decide (37 ≤ n) && decide (n < 40)), (fun n => decide (40 ≤ n)), (fun n => decide (n < 37)), (fun n => decide (37 ≤ n) && decide (n < 40)), (fun n => decide (40 ≤ n))]) []) :
    CalG P w K mg base 5 "_law_right" SpRight := by
  refine D.calG sc__law_right (fun vs H Q E h => by obtain ⟨p, rfl, _⟩ := h; rfl) fun f cdv A outer s H vs Q E hg hr h => ?_
  obtain ⟨p, rfl, hp, k⟩ := h
  have nd := sc__law_right.nd
  have hu64 := hr.units
  have hG : (A.deeper (envOfC "_law_right" (defScope (topS 75)) s.heap.objs.size f cdv)).guards = some [] := hg
  refine ⟨_, (pss_cons (ps_set (i := 1) nd rfl (.inl rfl) (pe_lst (pa_cons (C8.pe_gc rfl T.c_MOST_END) (pa_cons (C8.pe_gc rfl T.c_MOST_COLUMNS) (pa_cons (C8.pe_gc rfl T.c_MOST_ROWS) (pa_cons (C8.pe_gc rfl T.c_MOST_WEIGHT) (pa_cons (C8.pe_gc rfl T.c_MOST_PRICE) (pa_cons (C8.pe_gc rfl T.c_MOST_POINTS) (pa_cons (C8.pe_gc rfl T.c_MOST_FACTS) (pa_cons (C8.pe_gc rfl T.c_MOST_PLACES) pa_nil))))))))))
      (pss_cons (ps_set (i := 1) nd rfl (.inl rfl) (pe_op op_cat (pv 1) (pe_lst (pa_cons (C8.pe_gc rfl T.c_MOST_TIES) (pa_cons (C8.pe_gc rfl T.c_MOST_LENGTH) (pa_cons (C8.pe_gc rfl T.c_MOST_NAMES) (pa_cons (C8.pe_gc rfl T.c_MOST_SEATS) pa_nil)))))))
      (pss_cons (ps_if (pt_cmpR (opNe hu64) (pe_callB (callReprD hG hu64) (by rfl) T.repr_ (by decide +kernel) (pa_cons (pv 1) pa_nil)) (pe_callB (callReprD hG hu64) (by rfl) T.repr_ (by decide +kernel) (pa_cons (PD.pe (p := p) (pd_lst' (pds_cons (pd_c pe_int (fun _ => .int _)) (pds_cons (pd_c pe_int (fun _ => .int _)) (pds_cons (pd_c pe_int (fun _ => .int _)) (pds_cons (pd_c pe_int (fun _ => .int _)) (pds_cons (pd_c pe_int (fun _ => .int _)) (pds_cons (pd_c pe_int (fun _ => .int _)) (pds_cons (pd_c pe_int (fun _ => .int _)) (pds_cons (pd_c pe_int (fun _ => .int _)) (pds_cons (pd_c pe_int (fun _ => .int _)) (pds_cons (pd_c pe_int (fun _ => .int _)) (pds_cons (pd_c pe_int (fun _ => .int _)) (pds_cons (pd_c pe_int (fun _ => .int _)) pds_nil)))))))))))))) pa_nil)) (nomark _)) (pss_one (ps_ret pe_bl)) pss_nil)
      (pss_cons (ps_set (i := 2) nd rfl (.inl rfl) (C8.pe_c c_law_any hr (by decide) rfl (pa_cons (pv 0) (pa_cons (pe_lst (pa_cons pe_non (pa_cons pe_int (pa_cons (pe_un un_neg pe_int) (pa_cons pe_bl (pa_cons pe_str (pa_cons pe_str (pa_cons (PD.pe (p := p) (pd_tup pds_nil)) (pa_cons (PD.pe (p := p) (pd_tup (pds_cons (pd_tup (pds_cons (pd_c pe_int (fun _ => .int _)) (pds_cons (pd_c pe_int (fun _ => .int _)) pds_nil))) pds_nil))) (pa_cons (pe_lst pa_nil) (pa_cons (PD.pe (p := p) pd_dict) (pa_cons (pe_op op_pow pe_int pe_int) (pa_cons (C8.pe_c c_law_scoop hr (by decide) rfl (pa_cons (pv 0) (pa_cons (pe_op op_pow pe_int pe_int) pa_nil))) pa_nil))))))))))))) pa_nil))))
      (pss_cons (ps_par (i := 3) (j := 4) (by rfl) nd rfl rfl (by decide) rfl rfl (pa_cons (C8.pe_c c_law_given hr (by decide) rfl (pa_cons (pv 2) pa_nil)) (pa_cons (C8.pe_c c_law_placed hr (by decide) rfl (pa_cons (pv 2) pa_nil)) pa_nil)) (by rfl))
      (pss_cons (ps_par (i := 5) (j := 6) (by rfl) nd rfl rfl (by decide) rfl rfl (pa_cons (pxl (c := c) (i := 2) (pxs_cons (px_pos (n := 37) (f := "given") (hX 37 _ (by decide) rfl) rfl (hr.mono (by decide)) rfl (pv 2)) (pxs_cons (px_kw (n := 38) (f := "given") (hX 38 _ (by decide) rfl) rfl (hr.mono (by decide)) rfl (pv 2)) (pxs_cons (px_pos (n := 39) (f := "index") (hX 39 _ (by decide) rfl) rfl (hr.mono (by decide)) rfl (pv 2)) pxs_nil))) (by decide)) (pa_cons (pxl (c := c) (i := 2) (pxs_cons (px_pos (n := 40) (f := "given") (hX 40 _ (by decide) rfl) rfl (hr.mono (by decide)) rfl (pv 2)) (pxs_cons (px_kw (n := 41) (f := "given") (hX 41 _ (by decide) rfl) rfl (hr.mono (by decide)) rfl (pv 2)) (pxs_cons (px_pos (n := 42) (f := "given") (hX 42 _ (by decide) rfl) rfl (hr.mono (by decide)) rfl (pv 2)) pxs_nil))) (by decide)) pa_nil)) (by rfl))
      (pss_cons (ps_set (i := 6) nd rfl (.inl rfl) (pe_op op_cat (pv 6) (pxl (c := c) (i := 2) (pxs_cons (px_kw (n := 43) (f := "given") (hX 43 _ (by decide) rfl) rfl (hr.mono (by decide)) rfl (pv 2)) (pxs_cons (px_pos (n := 44) (f := "given") (hX 44 _ (by decide) rfl) rfl (hr.mono (by decide)) rfl (pv 2)) (pxs_cons (px_kw (n := 45) (f := "given") (hX 45 _ (by decide) rfl) rfl (hr.mono (by decide)) rfl (pv 2)) (pxs_cons (px_none (n := 46) (h0 46 (by decide) rfl) rfl rfl) (pxs_cons (px_none (n := 47) (h0 47 (by decide) rfl) rfl rfl) (pxs_cons (px_none (n := 48) (h0 48 (by decide) rfl) rfl rfl) pxs_nil)))))) (by decide))))
      (pss_cons (ps_set (i := 7) nd rfl (.inl rfl) (pe_op op_cat (pe_op op_cat (pe_op op_cat (pe_op op_cat (pv 3) (pv 4)) (pv 5)) (pv 6)) (pxl (c := c) (i := 2) (pxs_cons (px_none (n := 49) (h0 49 (by decide) rfl) rfl rfl) (pxs_cons (px_kw (n := 50) (f := "index") (hX 50 _ (by decide) rfl) rfl (hr.mono (by decide)) rfl (pv 2)) pxs_nil)) (by decide))))
      (pss_cons (ps_if (pt_cmpR (opNe hu64) (pe_callB call_lenA (by rfl) T.len_ (by decide +kernel) (pa_cons (pv 7) pa_nil)) pe_int (nomark _)) (pss_one (ps_ret pe_bl)) pss_nil)
      (pss_cons (ps_for PassesOwn.never rfl (pi_range1 rfl T.range_ (pa_cons pe_int pa_nil)) (pg_name (i := 8) nd rfl (.inl rfl)) (pss_cons (ps_set (i := 9) nd rfl (.inl rfl) (C8.pe_c c_law_one_of hr (by decide) rfl (pa_cons (pe_ix ix_seq (pv 7) (pv 8) (fun _ _ => rfl)) pa_nil)))
      (pss_cons (ps_if (PW.pt (pw_or (pt_cmpR (opNe hu64) (pe_bm PySem.F.plainAttrs_list PySem.F.slot_list_count PySem.F.type_list_count mt_countF (pv 9) (pa_cons pe_bl pa_nil)) pe_int (nomark _)) (pw_or1 (pt_cmpR (opNe hu64) (pe_bm PySem.F.plainAttrs_list PySem.F.slot_list_index PySem.F.type_list_index mt_index (pv 9) (pa_cons pe_bl pa_nil)) (pv 8) (nomark _))))) (pss_one (ps_ret pe_bl)) pss_nil)
      (pss_cons (ps_set (i := 10) nd rfl (.inl rfl) (pe_lst (pa_cons (pe_cmpR opLt (pv 8) pe_int (nomark _)) (pa_cons (pe_chain opLe opLt pe_int (pv 8) pe_int) (pa_cons (pe_cmpR op_ge (pv 8) pe_int (nomark _)) pa_nil)))))
      (pss_one (ps_if (pt_cmpR (opNe hu64) (C8.pe_c c_law_bases hr (by decide) rfl (pa_cons (pe_ix ix_seq (pv 7) (pv 8) (fun _ _ => rfl)) pa_nil)) (pe_op op_cat (pv 10) (pv 10)) (nomark _)) (pss_one (ps_ret pe_bl)) pss_nil))))))
      (pss_cons (ps_setLc (i := 11) (own := [("_law_e", 12)]) rfl nd rfl rfl (sw_true rfl rfl rfl (by decide +kernel)) (pi_list (pe_op op_cat (pe_op op_cat (pv 3) (pe_slice slAny (pv 5) po_none (po_some pe_int))) (pe_slice slAny (pv 6) po_none (po_some pe_int)))) (blkOk_by (N := ["_law_pail_here", "_law_told", "_law_x", "_law_value", "_law_places", "_law_names_here", "_law_plain", "_law_every", "_law_at", "_law_flags", "_law_due", "_law_kept", "_law_e"]) (sc := defScope (topS 75)) (by decide +kernel)) (fun _ _ _ _ _ => (pg_name (i := 12) nd rfl (.inl rfl))) (fun _ _ _ _ _ => pts_nil) (fun _ _ _ _ _ => (pe_fldVK (K := K) rfl (pv 12))))
      (pss_cons (ps_set (i := 11) nd rfl (.inl rfl) (pe_op op_cat (pv 11) (pe_lc (own := [("_law_e", 12)]) rfl nd (pi_list (pe_op op_cat (pv 4) (pe_lst (pa_cons (pe_ix ix_seq (pv 5) pe_int (fun _ _ => rfl)) (pa_cons (pe_ix ix_seq (pv 7) pe_int (fun _ _ => rfl)) pa_nil))))) (blkOk_by (N := ["_law_pail_here", "_law_told", "_law_x", "_law_value", "_law_places", "_law_names_here", "_law_plain", "_law_every", "_law_at", "_law_flags", "_law_due", "_law_kept", "_law_e"]) (sc := defScope (topS 75)) (by decide +kernel)) (fun _ _ _ _ _ => (pg_name (i := 12) nd rfl (.inl rfl))) (fun _ _ _ _ _ => pts_nil) (fun _ _ _ _ _ => (pe_fldVK (K := K) rfl (pv 12))))))
      (pss_one (ps_ret (pe_cmpR (opEq hu64) (pe_callB (callReprD hG hu64) (by rfl) T.repr_ (by decide +kernel) (pa_cons (pv 11) pa_nil)) (pe_callB (callReprD hG hu64) (by rfl) T.repr_ (by decide +kernel) (pa_cons (PD.pe (p := p) (pd_rep (pd_lst' (pds_cons (pd_var (i := 2) (pv 2) (fun _ _ _ h => h)) pds_nil)) (pd_add (pd_add (pd_add (pd_add (pd_c pe_int (fun _ => .int _)) (pd_c pe_int (fun _ => .int _))) (pd_c pe_int (fun _ => .int _))) (pd_c pe_int (fun _ => .int _))) (pd_c pe_int (fun _ => .int _))))) pa_nil)) (nomark _)))))))))))))))), ?_⟩
  have ph := hp.has
  walk_at "goD1"
  refine ⟨len_le (n := 8) rfl (by decide), fun l1 hl1 => ?_⟩
  refine ⟨_, rfl, len_le (n := 4) rfl (by decide), fun l2 hl2 => ?_⟩
  refine ⟨l1, l2, _, _, rfl, rfl, upd_old hl2 upd_same, upd_same, (by exact Nat.le_of_ble_eq_true rfl), fun l3 hl3 => ?_⟩
  have s3 : Same H (upd (upd (upd H l1 (.lst [.int 10000, .int 4, .int 8, .int 1000, .int 1000, .int 6, .int 12, .int 6])) l2 (.lst [.int 10, .int 1000, .int 5, .int 12])) l3 (.lst ([.int 10000, .int 4, .int 8, .int 1000, .int 1000, .int 6, .int 12, .int 6] ++ [.int 10, .int 1000, .int 5, .int 12]))) :=
    same_tr (same_new hl3) (same_tr (same_new hl2) (same_new hl1))
  have r3 : Rp p (upd (upd (upd H l1 (.lst [.int 10000, .int 4, .int 8, .int 1000, .int 1000, .int 6, .int 12, .int 6])) l2 (.lst [.int 10, .int 1000, .int 5, .int 12])) l3 (.lst ([.int 10000, .int 4, .int 8, .int 1000, .int 1000, .int 6, .int 12, .int 6] ++ [.int 10, .int 1000, .int 5, .int 12]))) (.ref l3)
      (.list [.int 10000, .int 4, .int 8, .int 1000, .int 1000, .int 6, .int 12, .int 6, .int 10, .int 1000, .int 5, .int 12]) :=
    .lst ((ph.keep (same_tr (same_new hl2) (same_new hl1))).ne hl3) upd_same (by exact Nat.le_of_ble_eq_true rfl) (.cons (.int _) (.cons (.int _) (.cons (.int _) (.cons (.int _) (.cons (.int _) (.cons (.int _) (.cons (.int _) (.cons (.int _) (.cons (.int _) (.cons (.int _) (.cons (.int _) (.cons (.int _) .nil))))))))))))
  generalize upd (upd (upd H l1 (.lst [.int 10000, .int 4, .int 8, .int 1000, .int 1000, .int 6, .int 12, .int 6])) l2 (.lst [.int 10, .int 1000, .int 5, .int 12])) l3 (.lst ([.int 10000, .int 4, .int 8, .int 1000, .int 1000, .int 6, .int 12, .int 6] ++ [.int 10, .int 1000, .int 5, .int 12])) = H3 at *
  have hp3 := hp.keep s3
  walk_at "goD1"
  refine ⟨_, rfl, p, _, _, rfl, r3, by decide +kernel, by decide +kernel, by decide +kernel, by decide +kernel, ?_⟩
  walk_at "goD1"
  apply tdat hp3.has
  · walk_at "pd"
  intro v4 H4 s4 r4
  refine ⟨p, v4, _, rfl, r4, by decide +kernel, by decide +kernel, by decide +kernel, by decide +kernel, ?_⟩
  have hp4 := hp3.keep s4
  have s04 := s3.trans s4
  clear r3 r4 hl1 hl2 hl3 s3 s4 hp3
  refine .inl ⟨rfl, _, rfl, ?_⟩
  refine iteSame rfl ?_
  refine ⟨_, rfl, ?_⟩
  walk_at "goD1"
  refine ⟨7, rfl, ?_⟩
  walk_at "goD1"
  apply tdat hp4.has
  · walk_at "pd"
  intro vt1 H5 s5 r5
  have hp5 := hp4.keep s5
  walk_at "goD1"
  apply tdat hp5.has
  · walk_at "pd"
  intro vt2 H6 s6 r6
  have hp6 := hp5.keep s6
  walk_at "goD1"
  refine ⟨Nat.zero_le _, fun le hle => ?_⟩
  have s7 : Same H6 (upd H6 le (.lst [])) := same_new hle
  have r7 : Rp p (upd H6 le (.lst [])) (.ref le) (.list []) := .lst (hp6.has.ne hle) upd_same (by decide) .nil
  generalize upd H6 le (.lst []) = H7 at *
  have hp7 := hp6.keep s7
  walk_at "goD1"
  apply tdat hp7.has
  · walk_at "pd"
  intro vd H8 s8 r8
  have hp8 := hp7.keep s8
  walk_at "goD1"
  refine ⟨_, _, rfl, rfl, ⟨by decide, by decide, by decide⟩, ?_⟩
  refine ⟨_, rfl, ?_⟩
  walk_at "goD1"
  refine ⟨_, _, rfl, rfl, ⟨by decide, by decide, by decide⟩, ?_⟩
  refine ⟨p, 1000000000, 0, rfl, by decide, by decide, hp8, by decide, fun r H9 r0 r1 e9 hp9 => ?_⟩
  refine ⟨len_le (n := 12) rfl (by decide), fun lm hlm => ?_⟩
  have s10 : Same H9 (upd H9 lm (.lst [.non, .int 0, .int (-7), .bl true, .str "", .str "rye", vt1, vt2, .ref le, vd, .int (10 ^ (60 : Int).toNat), .int r])) := same_new hlm
  have r10 : Rp p (upd H9 lm (.lst [.non, .int 0, .int (-7), .bl true, .str "", .str "rye", vt1, vt2, .ref le, vd, .int (10 ^ (60 : Int).toNat), .int r])) (.ref lm)
      (.list [.none, .int 0, .int (-7), .bool true, .str "", .str "rye", .tuple [], .tuple [.tuple [.int 1, .int 2]], .list [], .dict [], .int (10 ^ (60 : Int).toNat), .int r]) :=
    .lst (hp9.has.ne hlm) upd_same (by exact Nat.le_of_ble_eq_true rfl) (.cons .non (.cons (.int _) (.cons (.int _) (.cons (.bl _) (.cons (.str _ (by decide)) (.cons (.str _ (by decide)) (.cons (((r5.keep (ExB.of ((s6.trans s7).trans s8))).keep e9).keep (ExB.of s10))
      (.cons (((r6.keep (ExB.of (s7.trans s8))).keep e9).keep (ExB.of s10)) (.cons (((r7.keep (ExB.of s8)).keep e9).keep (ExB.of s10)) (.cons ((r8.keep e9).keep (ExB.of s10)) (.cons (.int _) (.cons (.int _) .nil))))))))))))
  generalize upd H9 lm (.lst [.non, .int 0, .int (-7), .bl true, .str "", .str "rye", vt1, vt2, .ref le, vd, .int (10 ^ (60 : Int).toNat), .int r]) = H10 at *
  have hp10 := hp9.keep s10
  have e10 : ExB p H H10 := ((ExB.of (s04.trans (s5.trans (s6.trans (s7.trans s8))))).trans e9).trans (ExB.of s10)
  refine ⟨p, _, _, _, rfl, r10, (by exact Nat.le_of_ble_eq_true rfl), hp10, by decide, fun x dx H11 hd rx e11 hp11 => ?_⟩
  have e0 : ExB p H H11 := e10.trans e11
  clear r5 r6 r7 r8 r10 s04 s5 s6 s7 s8 s10 e9 e10 e11 hp4 hp5 hp6 hp7 hp8 hp9 hp10 hle hlm
  walk_at "goD1"
  refine ⟨_, rfl, x, rfl, fun w1 H12 s12 e1 => ?_⟩
  refine ⟨_, rfl, x, rfl, fun w2 H13 s13 e2 => ?_⟩
  refine ⟨_, _, rfl, ?_⟩
  walk_at "goD1"
  have e1' := e1.keep s13
  refine xl_first (x := x) (by rfl) fun w3 H14 s14 e3 => ?_
  refine xl_first (x := x) (by rfl) fun w4 H15 s15 e4 => ?_
  refine ⟨_, _, rfl, ?_⟩
  walk_at "goD1"
  refine xl_more (x := x) (by rfl) (by rfl) e4 (by decide) fun w5 H16 s16 e5 => ?_
  have v1 := ((e1'.keep s14).keep s15).keep s16
  have v2 := ((e2.keep s14).keep s15).keep s16
  have v3 := (e3.keep s15).keep s16
  have sA : Same H11 H16 := s12.trans (s13.trans (s14.trans (s15.trans s16)))
  have hp16 := hp11.keep sA
  have rx16 := rx.keep (ExB.of sA)
  clear e1 e1' e2 e3 e4 s12 s13 s14 s15 s16
  walk_at "goD1"
  refine ⟨_, rfl, _, rfl, el_cat v1 v2 (by decide) fun w6 H17 s17 e6 => ?_⟩
  refine ⟨_, rfl, el_cat e6 (v3.keep s17) (by decide) fun w7 H18 s18 e7 => ?_⟩
  refine ⟨_, rfl, el_cat e7 ((e5.keep s17).keep s18) (by decide) fun w8 H19 s19 e8 => ?_⟩
  refine xl_first (x := x) (by rfl) fun w9 H20 s20 e9 => ?_
  refine el_cat (e8.keep s20) e9 (by decide) fun w10 H21 s21 e10 => ?_
  have sB : Same H16 H21 := s17.trans (s18.trans (s19.trans (s20.trans s21)))
  have v1 := v1.keep sB
  have v2 := v2.keep sB
  have v3 := v3.keep sB
  have v4 := e5.keep sB
  have hp21 := hp16.keep sB
  have rx21 := rx16.keep (ExB.of sB)
  have eZ : ExB p H H21 := e0.trans (ExB.of (sA.trans sB))
  clear e6 e7 e8 e9 e5 s17 s18 s19 s20 s21 sA sB rx rx16 hp11 hp16 e0
  have all_ : EL c H21 x w10 (List.range 51) := e10
  clear e10
  walk_at "goD1"
  obtain ⟨lE, xE, rfl, hE, eE⟩ := all_
  have lenE : xE.length = 51 := eE.length
  refine ⟨_, rfl, .inl ⟨lE, xE, rfl, .inl (SqL.of hE), .inl ⟨rfl, _, rfl, iteSame (by rw [lenE]; rfl) ?_⟩⟩⟩
  walk_at "goD1"
  refine ⟨51, rfl, by decide, by decide, ?_⟩
  refine for_range (fun i σ H' => ∃ u8 u9 u10, σ = [some (.ref p), some (.ref l3), some x, some w1, some w2, some w3, some w5, some (.ref lE), u8, u9, u10, none, none] ∧ Same H21 H') ⟨_, _, _, rfl, Same.refl _⟩ ?_ ?_
  · rintro i σ H' hi ⟨u8, u9, u10, rfl, sm⟩
    have hi : i < 51 := hi
    obtain ⟨cnt, atI_, flt, bef⟩ := flags_ok i hi
    have gi : (List.range 51)[i]? = some i := List.getElem?_range hi
    obtain ⟨v, hv, ev⟩ := eE.get gi
    obtain ⟨a, fs, rfl, err⟩ := (ev.keep sm).err
    have z0 : (0 : Int) + (i : Nat) = ((i : Nat) : Int) := Int.zero_add _
    walk_at "goD1"
    refine ⟨_, rfl, _, rfl, .inl ⟨lE, xE, _, .ref a, rfl, rfl, SqL.of (sm _ _ hE), by rw [z0]; exact atI_nat hv, ?_⟩⟩
    refine ⟨a, i, fs, rfl, hi, err, fun wf H22 s22 bf => ?_⟩
    obtain ⟨lf, rfl, hf⟩ := bf
    have hf : H22 lf = some (.lst (flagsOf i)) := hf
    walk_at "goD1"
    refine ⟨_, rfl, .inl ⟨rfl, _, SqL.of hf⟩, ?_⟩
    refine ⟨lf, _, _, rfl, rfl, SqL.of hf, rfl, flt, ?_⟩
    walk_at "goD1"
    refine .inl ⟨rfl, _, rfl, iteSame (by rw [cnt]; rfl) ?_⟩
    walk_at "goD1"
    refine ⟨_, rfl, .inl ⟨rfl, _, SqL.of hf⟩, ?_⟩
    refine ⟨lf, _, _, i, V.bl true, rfl, rfl, SqL.of hf, (by first | rfl | exact flt | exact atI_), (by first | rfl | exact flt | exact atI_), (by first | rfl | exact flt | exact atI_), (by first | rfl | exact flt | exact atI_), (fun m z' h e => by
      rw [bef m h] at e
      obtain rfl := Option.some.inj e
      rfl), ?_⟩
    walk_at "goD1"
    refine ⟨_, rfl, .inl ⟨rfl, _, rfl, iteSame (by rw [z0]) ?_⟩⟩
    walk_at "goD1"
    refine ⟨_, rfl, .inl ⟨_, _, rfl, rfl, ?_⟩⟩
    walk_at "goD1"
    refine chain_at (b := decide (37 ≤ i) && decide (i < 40)) (fun _ _ _ _ q => .inl q) (fun _ _ _ _ q => .inl q) rfl ?_ ?_
    · rw [decide_eq_decide.mpr (show ((37 : Int) ≤ 0 + (i : Nat)) ↔ 37 ≤ i by omega), decide_eq_decide.mpr (show ((0 : Int) + (i : Nat) < 40) ↔ i < 40 by omega)]
    walk_at "goD1"
    refine ⟨_, rfl, _, _, rfl, rfl, ?_⟩
    refine ⟨len_le (n := 3) rfl (by decide), fun ld hld => ?_⟩
    have s23 : Same H22 (upd H22 ld (.lst [.bl (decide ((0 : Int) + (i : Nat) < 37)), .bl (decide (37 ≤ i) && decide (i < 40)), .bl (decide (40 ≤ (0 : Int) + (i : Nat)))])) := same_new hld
    have hd3 : upd H22 ld (.lst [.bl (decide ((0 : Int) + (i : Nat) < 37)), .bl (decide (37 ≤ i) && decide (i < 40)), .bl (decide (40 ≤ (0 : Int) + (i : Nat)))]) ld = some (.lst [.bl (decide (i < 37)), .bl (decide (37 ≤ i) && decide (i < 40)), .bl (decide (40 ≤ i))]) := by
      rw [upd_same, decide_eq_decide.mpr (show ((0 : Int) + (i : Nat) < 37) ↔ i < 37 by omega), decide_eq_decide.mpr (show (40 ≤ (0 : Int) + (i : Nat)) ↔ 40 ≤ i by omega)]
    generalize upd H22 ld (.lst [.bl (decide ((0 : Int) + (i : Nat) < 37)), .bl (decide (37 ≤ i) && decide (i < 40)), .bl (decide (40 ≤ (0 : Int) + (i : Nat)))]) = H23 at *
    have sm3 : Same H21 H23 := sm.trans (s22.trans s23)
    walk_at "goD1"
    refine ⟨_, rfl, _, rfl, .inl ⟨lE, xE, _, .ref a, rfl, rfl, SqL.of (sm3 _ _ hE), by rw [z0]; exact atI_nat hv, ?_⟩⟩
    refine ⟨a, i, fs, rfl, hi, err.keep (s22.trans s23), fun wb H24 s24 bb => ?_⟩
    obtain ⟨lb, rfl, hb⟩ := bb
    walk_at "goD1"
    refine ⟨_, rfl, _, rfl, ?_⟩
    refine ⟨ld, ld, _, _, rfl, rfl, s24 _ _ hd3, s24 _ _ hd3, (by exact Nat.le_of_ble_eq_true rfl), fun lq hlq => ?_⟩
    have s25 := same_new (o := .lst ([.bl (decide (i < 37)), .bl (decide (37 ≤ i) && decide (i < 40)), .bl (decide (40 ≤ i))] ++ [.bl (decide (i < 37)), .bl (decide (37 ≤ i) && decide (i < 40)), .bl (decide (40 ≤ i))])) hlq
    refine .inr ⟨_, _, dp6 (s25 _ _ hb), dp6 upd_same, rfl, rfl, _, rfl, iteNe (eqv6 _ _ _) ?_⟩
    exact ⟨_, _, _, rfl, sm3.trans (s24.trans s25)⟩
  · rintro σ H' ⟨u8, u9, u10, rfl, sm⟩
    have hpL := hp21.keep sm
    walk_at "goD1"
    refine lc_fld (c := c) (x := x) (ns := List.range 30 ++ [37, 38] ++ [40, 41, 42, 43, 44, 45]) (f := "given") EF (by decide +kernel) (.inl rfl) (by decide) (fun R hR => ?_) ?_ ?_ fun lk Hk sk hlk => ?_
    rotate_left
    · exact fun _ => rfl
    · exact fun _ => rfl
    rotate_left
    · walk_at "goD1"
      refine ⟨_, rfl, _, rfl, ⟨2, rfl, .inl (el_cut (k := 2) (v3.keep sm) (by decide) fun wa Ha sa ea => ?_)⟩⟩
      refine el_cat ((v1.keep sm).keep sa) ea (by decide) fun wb Hb sb eb => ?_
      refine ⟨_, rfl, ⟨6, rfl, .inl (el_cut (k := 6) ((v4.keep sm).keep (sa.trans sb)) (by decide) fun wc Hc sc ec => ?_)⟩⟩
      refine el_cat (eb.keep sc) ec (by decide) fun wd Hd sd ed => ?_
      exact hR wd Hd (sa.trans (sb.trans (sc.trans sd))) ed
    have smk := sm.trans sk
    walk_at "goD1"
    refine ⟨_, rfl, ?_⟩
    refine lc_fld (c := c) (x := x) (ns := List.range' 30 7 ++ [39, 50]) (f := "index") EF (by decide +kernel) (.inr rfl) (by decide) (fun R hR => ?_) ?_ ?_ fun lk2 Hk2 sk2 hlk2 => ?_
    rotate_left
    · exact fun _ => rfl
    · exact fun _ => rfl
    rotate_left
    · walk_at "goD1"
      obtain ⟨l3n, x3n, e3n, h3n, a3n⟩ := v3.keep smk
      obtain ⟨u39, g39, ev39⟩ := a3n.get (i := 2) (n := 39) rfl
      obtain ⟨u50, g50, ev50⟩ := (eE.keep smk).get (i := 50) (n := 50) (by decide)
      subst e3n
      refine ⟨_, rfl, _, rfl, .inl ⟨l3n, x3n, _, u39, rfl, rfl, SqL.of h3n, atI_nat (j := 2) g39, ?_⟩⟩
      refine ⟨_, rfl, .inl ⟨lE, xE, _, u50, rfl, rfl, SqL.of (smk _ _ hE), atI_nat (j := 50) g50, ?_⟩⟩
      refine ⟨len_le (n := 2) rfl (by decide), fun t ht => ?_⟩
      have st := same_new (o := .lst [u39, u50]) ht
      refine el_cat ((v2.keep smk).keep st) (ms := [39, 50]) ⟨t, _, rfl, upd_same, .cons (ev39.keep st) (.cons (ev50.keep st) .nil)⟩ (by decide) fun we He se ee => ?_
      exact hR we He (st.trans se) ee
    walk_at "goD1"
    refine ⟨lk, lk2, _, _, rfl, rfl, sk2 _ _ hlk, hlk2, (by exact Nat.le_of_ble_eq_true rfl), fun t ht => ?_⟩
    have st : Same Hk2 (upd Hk2 t (.lst (List.replicate 47 x))) := same_new ht
    have smz : Same H21 (upd Hk2 t (.lst (List.replicate 47 x))) := smk.trans (sk2.trans st)
    have hpz := hp21.keep smz
    have rxz := rx21.keep (ExB.of smz)
    have ntp : t ≠ p := (hp21.keep (smk.trans sk2)).has.ne ht
    have rk : Rp p (upd Hk2 t (.lst (List.replicate 47 x))) (.ref t) (.list (List.replicate 47 dx)) := .lst ntp upd_same (by exact Nat.le_of_ble_eq_true rfl) (rep_rp rxz 47)
    have ez : ExB p H (upd Hk2 t (.lst (List.replicate 47 x))) := eZ.trans (ExB.of smz)
    have er : upd Hk2 t (.lst (List.replicate 47 x)) = upd Hk2 t (.lst (List.replicate (List.range 30 ++ [37, 38] ++ [40, 41, 42, 43, 44, 45]).length x ++ List.replicate (List.range' 30 7 ++ [39, 50]).length x)) := rfl
    rw [← er]
    generalize upd Hk2 t (.lst (List.replicate 47 x)) = HZ at *
    obtain ⟨f1, f2, f3, f4⟩ := (menu_show r0 r1 hd).rep
    walk_at "goD1"
    refine ⟨_, rfl, p, _, _, rfl, rk, f1, f2, f3, f4, ?_⟩
    walk_at "goD1"
    apply tdat (d := .list (List.replicate 47 dx)) hpz.has
    · refine ⟨.list [dx], .int 47, ?_, ⟨.int 45, .int 2, ⟨.int 38, .int 7, ⟨.int 32, .int 6, ⟨.int 30, .int 2, rfl, rfl, ⟨30, 2, rfl, rfl, rfl⟩⟩, rfl, ⟨32, 6, rfl, rfl, rfl⟩⟩, rfl, ⟨38, 7, rfl, rfl, rfl⟩⟩, rfl, ⟨45, 2, rfl, rfl, rfl⟩⟩, ⟨[dx], 47, rfl, rfl, by decide, (by exact Nat.le_of_ble_eq_true rfl), rfl⟩⟩
      walk_at "pd"
    intro vz Hy sy ry
    refine ⟨p, vz, _, rfl, ry, f1, f2, f3, f4, ?_⟩
    refine .inl ⟨rfl, ?_⟩
    rw [decide_eq_true rfl]
    exact k _ (ez.trans (ExB.of sy))
end
end Cs
set_option maxHeartbeats 4000000
namespace Cs
open PySem L2 PyProof.Rows
def SpLaw (K : PySem.W.Frag) : Sp := fun vs H Q _ => ∃ (a : Addr) (ns : List Int), vs = [.ref a] ∧ SqL K H a (ns.map V.int) ∧ ns.length ≤ 1000 ∧ ∀ H', Q (.bl true) H'
theorem sqX {K : PySem.W.Frag} {a : Addr} {H H' : Hp} {xs : List V} (h : SqL K H a xs) (e : Same H H') : SqL K H' a xs := by
  rcases h with (h | ⟨o, h⟩) | h
  · exact .inl (.inl (e _ _ h))
  · exact .inl (.inr ⟨o, e _ _ h⟩)
  · exact .inr h
def tG (sp : Sp) (t : TA) : TE := fun σ H Q => t σ H fun vs H1 => sp vs H1 Q fun _ _ _ => False
theorem pe_cG2 {X : Cx} {k j : Nat} {sp : Sp} {x : Str} {q pos : Pos} {e : Expr} {es : List Expr} {t : TA} (c : CalG X.prog X.w X.K X.mg X.base k x sp) (hG : X.A.guards = some []) (hr : Room j X.A) (hk : k ≤ j) (hg : Gl X x) (ha : PA X (e :: es) t)
    (hdb : (x == ("__debug__" : Str)) = false := by rfl) (he : starEach (e :: es) X.env = (false, eval e X.env) :: starEach es X.env := by rfl) (hpl : ((backTo pos (starEach es X.env)).any fun x => x.1) = false := by rfl) :
    PE X (.Call (.Name x q) (e :: es) [] pos) (tG sp t) := pe_cG c hG hr hk hg ha hdb he hpl
section
variable {P : Program} {w : World} {K : PySem.W.Frag} {mg : Str → Option Value} {base : Heap}
theorem sc_law : FnScope ["_law_script", "_law_at"] ["_law_script"] (defScope (topS 76)) := ⟨rfl, rfl, rfl, by decide +kernel, rfl, by decide +kernel, by decide +kernel⟩
theorem ok_law {f : Addr} {fd : FuncData} (F : FunD K "law" "law" (defArgs (topS 76)) (defBody (topS 76)) (defScope (topS 76)) [] [] f fd) (T : Txt mg)
    (c_law_right : CalG P w K mg base 5 "_law_right" SpRight) (c_law_pail : C8.Cal P w K mg base 1 "_law_pail" (SpPail K) []) : FnG P w K mg base 6 f fd ["_law_script"] (SpLaw K) := by
  obtain ⟨oc, od, dV, kV, doc, pm, an, cdv, ct, osl, rfl, lk, hcd, _, _⟩ := F.ex
  refine fn_ofG lk hcd sc_law (fun vs H Q E h => by obtain ⟨a, ns, rfl, _⟩ := h; rfl) fun A outer s H vs Q E hg hr h => ?_
  obtain ⟨a, ns, rfl, hq, hl, k⟩ := h
  have nd := sc_law.nd
  have hG : (A.deeper (envOfC "law" (defScope (topS 76)) s.heap.objs.size f cdv)).guards = some [] := hg
  refine ⟨_, PSs.nox (pss_one (ps_ret (pe_callB (cr_all rfl) (by rfl) T.all_ (by decide +kernel) (pa_cons (pe_lc (own := [("_law_at", 1)]) rfl nd (pi_range1 rfl T.range_ (pa_cons pe_int pa_nil)) (blkOk_by (N := ["_law_script", "_law_at"]) (sc := defScope (topS 76)) (by decide +kernel)) (fun _ _ _ _ _ => (pg_name (i := 1) nd rfl (.inl rfl))) (fun _ _ _ _ _ => pts_nil) (fun _ _ _ _ _ => (pe_cG2 c_law_right hG hr (by decide) rfl (pa_cons (C8.pe_c c_law_pail hr (by decide) rfl (pa_cons (pv 0) (pa_cons (pv 1) pa_nil))) pa_nil)))) pa_nil)))), ?_⟩
  dsimp only [tRet, tCB, tCons]
  refine ⟨_, rfl, by decide, by decide, fun D hD => ?_⟩
  refine lc_range (fun i H' => H' D = some (.lst (List.replicate i (V.bl true))) ∧ Same H H')
    ⟨upd_same, same_new hD⟩ (fun i H' hi ⟨h1, h2⟩ => ?_) (fun H' ⟨h1, h2⟩ => ?_)
  · refine ⟨rfl, ?_⟩
    have hi2 : i < 2 := hi
    refine ⟨_, rfl, _, rfl, a, ns, i, by rw [Int.zero_add]; rfl, sqX hq h2, hl, by omega, fun p H2 hp s2 hP => ?_⟩
    have nD : D ≠ p := ne_of_none h1 hp
    refine ⟨p, rfl, hP, fun H3 e3 => ?_⟩
    have hD3 : H3 D = some (.lst (List.replicate i (V.bl true))) := e3 _ _ nD (s2 _ _ h1)
    refine ⟨_, hD3, ?_, ?_, fun b o hb => ?_⟩
    · rw [List.length_replicate]
      exact Nat.lt_of_lt_of_le (by omega : i < 1000) (by decide)
    · rw [upd_same, List.replicate_succ']
    · have hb' := h2 b o hb
      rw [upd_ne (ne_of_none hb hD)]
      exact e3 _ _ (ne_of_none hb' hp) (s2 _ _ hb')
  · exact ⟨D, [true, true], rfl, SqL.of h1, k _⟩
end
end Cs
set_option maxHeartbeats 0
namespace Cs
open PySem PySem.Spec PyProof.Rows L2
theorem excCB_ok {K : PySem.W.Frag} {D : Addr} (h : excCB K D = true) : ExcC K D := by
  obtain ⟨h1, h⟩ := Bool.and_eq_true_iff.mp h
  obtain ⟨h2, h⟩ := Bool.and_eq_true_iff.mp h
  obtain ⟨h3, h⟩ := Bool.and_eq_true_iff.mp h
  obtain ⟨h4, h⟩ := Bool.and_eq_true_iff.mp h
  obtain ⟨h5, h⟩ := Bool.and_eq_true_iff.mp h
  obtain ⟨h6, h⟩ := Bool.and_eq_true_iff.mp h
  obtain ⟨h7, h8⟩ := Bool.and_eq_true_iff.mp h
  exact ⟨He.eqO_ok h1, He.eqO_ok h2, of_decide_eq_true h3, h4, He.eqO_ok h5, He.eqO_ok h6, of_decide_eq_true h7, of_decide_eq_true h8⟩
theorem base_facts (n : Nat) : ∃ i, ExcBaseFacts (bN n) (nN n) i (bmN n) ∧ StoreFacts (bN n) (bmN n) "object.__setattr__" "object" := by
  unfold bmN bN nN
  by_cases h1 : n < 37
  · rw [if_pos h1, if_pos h1]
    exact ⟨_, PySem.F.excBase_ValueError, PySem.F.store_ValueError⟩
  · rw [if_neg h1, if_neg h1]
    by_cases h2 : n < 40
    · rw [if_pos h2, if_pos h2]
      exact ⟨_, PySem.F.excBase_LookupError, PySem.F.store_LookupError⟩
    · rw [if_neg h2, if_neg h2]
      exact ⟨_, PySem.F.excBase_ArithmeticError, PySem.F.store_ArithmeticError⟩
theorem mroB_ok {K : PySem.W.Frag} {C W : Addr} {bm : List Value} (h : mroB K C W bm = true) : ∃ cd, PySem.W.clsIn K C = some cd ∧ cd.mro = .ref C :: .ref W :: bm := by
  unfold mroB at h
  cases e : PySem.W.clsIn K C with
  | none => rw [e] at h; cases h
  | some cd =>
    rw [e] at h
    exact ⟨cd, rfl, of_decide_eq_true h⟩
theorem sub_mro {K : PySem.W.Frag} {C : Addr} {cd : ClassData} {r : List Value} {c : Value} (h : PySem.W.clsIn K C = some cd) (e : cd.mro = .ref C :: r) : PySem.W.subIn K (.ref C) c = some ((Value.ref C :: r).contains c) := by
  show PySem.W.mroIn K C c = _
  unfold PySem.W.mroIn
  rw [h, Option.bind_some, e]
  rfl
theorem kit_mro {K : PySem.W.Frag} {C D : Addr} {cd : ClassData} {r : List Value} (h : PySem.W.clsIn K C = some cd) (e : cd.mro = .ref C :: r) (hD : clsTB K D = true) : PySem.W.kitOne K (.ref C) (.ref D) = some ((Value.ref C :: r).contains (.ref D)) := by
  obtain ⟨h1, h2⟩ := Bool.and_eq_true_iff.mp hD
  unfold PySem.W.kitOne
  by_cases q : ((Value.ref C) == (Value.ref D)) = true
  · rw [if_pos q, ← beq_iff_eq.mp q, List.contains_cons, beq_self_eq_true, Bool.true_or]
  · rw [if_neg q]
    have h3 : ((PySem.W.clsIn K D).isSome && PySem.W.typeIn K (.ref D) == some (.type "type")) = true := by rw [h1, of_decide_eq_true h2]; rfl
    show (if ((PySem.W.clsIn K D).isSome && PySem.W.typeIn K (.ref D) == some (.type "type")) = true then PySem.W.subIn K (.ref C) (.ref D) else none) = _
    rw [if_pos h3]
    exact sub_mro h e
theorem kit_mroT {K : PySem.W.Frag} {C : Addr} {T : String} {cd : ClassData} {r : List Value} (h : PySem.W.clsIn K C = some cd) (e : cd.mro = .ref C :: r) (hT : PySem.W.kitMeta T = true) : PySem.W.kitOne K (.ref C) (.type T) = some ((Value.ref C :: r).contains (.type T)) := by
  unfold PySem.W.kitOne
  by_cases q : ((Value.ref C) == (Value.type T)) = true
  · exact nomatch beq_iff_eq.mp q
  · rw [if_neg q]
    show (if PySem.W.kitMeta T = true then PySem.W.subIn K (.ref C) (.type T) else none) = _
    rw [if_pos hT]
    exact sub_mro h e
theorem inc_pw : ∀ l : List Nat, incB l = true → l.Pairwise (· < ·)
  | [], _ => .nil
  | [a], _ => List.pairwise_singleton _ _
  | a :: b :: r, h => by
    obtain ⟨h1, h2⟩ := Bool.and_eq_true_iff.mp (show (Nat.blt a b && incB (b :: r)) = true from h)
    have p := inc_pw (b :: r) h2
    have lt : a < b := Nat.le_of_ble_eq_true h1
    refine List.pairwise_cons.mpr ⟨fun x hx => ?_, p⟩
    rcases List.mem_cons.mp hx with rfl | hx
    · exact lt
    · exact Nat.lt_trans lt ((List.pairwise_cons.mp p).1 x hx)
end Cs
set_option maxHeartbeats 0
namespace Cs
open PySem PySem.Spec PyProof.Rows L2
section
variable {P : Program} {w : World} {K : PySem.W.Frag} {h h0 : Heap} {mg : Str → Option Value}
theorem txt_ok (X : K.In h) (G : h.Ns mainGlobals mg) (c : He.SaysD fa fn K) : Txt mg := ⟨He.free_ok X G (c.fact 63 rfl), He.free_ok X G (c.fact 64 rfl), He.free_ok X G (c.fact 65 rfl), He.free_ok X G (c.fact 66 rfl), He.free_ok X G (c.fact 67 rfl), He.free_ok X G (c.fact 68 rfl), He.free_ok X G (c.fact 69 rfl), He.free_ok X G (c.fact 70 rfl), He.free_ok X G (c.fact 71 rfl), He.free_ok X G (c.fact 72 rfl), He.free_ok X G (c.fact 73 rfl), (by obtain ⟨t, e⟩ := He.int_ok X G (c.fact 74 rfl); exact ⟨_, e, _, rfl⟩), (by obtain ⟨t, e⟩ := He.int_ok X G (c.fact 75 rfl); exact ⟨_, e, _, rfl⟩), (by obtain ⟨t, e⟩ := He.int_ok X G (c.fact 76 rfl); exact ⟨_, e, _, rfl⟩), (by obtain ⟨t, e⟩ := He.int_ok X G (c.fact 77 rfl); exact ⟨_, e, _, rfl⟩), (by obtain ⟨t, e⟩ := He.int_ok X G (c.fact 78 rfl); exact ⟨_, e, _, rfl⟩), (by obtain ⟨t, e⟩ := He.int_ok X G (c.fact 79 rfl); exact ⟨_, e, _, rfl⟩), (by obtain ⟨t, e⟩ := He.int_ok X G (c.fact 80 rfl); exact ⟨_, e, _, rfl⟩), (by obtain ⟨t, e⟩ := He.int_ok X G (c.fact 81 rfl); exact ⟨_, e, _, rfl⟩), (by obtain ⟨t, e⟩ := He.int_ok X G (c.fact 82 rfl); exact ⟨_, e, _, rfl⟩), (by obtain ⟨t, e⟩ := He.int_ok X G (c.fact 83 rfl); exact ⟨_, e, _, rfl⟩), (by obtain ⟨t, e⟩ := He.int_ok X G (c.fact 84 rfl); exact ⟨_, e, _, rfl⟩), (by obtain ⟨t, e⟩ := He.int_ok X G (c.fact 85 rfl); exact ⟨_, e, _, rfl⟩)⟩
theorem at__law_scoop (X : K.In h) (G : h.Ns mainGlobals mg) (c : He.SaysD fa fn K) : DefAt K mg "_law_scoop" (topS 69) ["_law_pail_here", "_law_most"] := by
  obtain ⟨fd, F⟩ := c.def_ 0 rfl
  exact ⟨_, fd, F, He.glo_ok X G (c.fact 0 rfl), FunD.bindsN F (fun _ _ _ _ _ _ us hl => match us, hl with | [_, _], _ => rfl)⟩
theorem at__law_any (X : K.In h) (G : h.Ns mainGlobals mg) (c : He.SaysD fa fn K) : DefAt K mg "_law_any" (topS 70) ["_law_pail_here", "_law_menu"] := by
  obtain ⟨fd, F⟩ := c.def_ 1 rfl
  exact ⟨_, fd, F, He.glo_ok X G (c.fact 1 rfl), FunD.bindsN F (fun _ _ _ _ _ _ us hl => match us, hl with | [_, _], _ => rfl)⟩
theorem at__law_pail (X : K.In h) (G : h.Ns mainGlobals mg) (c : He.SaysD fa fn K) : DefAt K mg "_law_pail" (topS 68) ["_law_script", "_law_at"] := by
  obtain ⟨fd, F⟩ := c.def_ 2 rfl
  exact ⟨_, fd, F, He.glo_ok X G (c.fact 2 rfl), FunD.bindsN F (fun _ _ _ _ _ _ us hl => match us, hl with | [_, _], _ => rfl)⟩
theorem at__law_given (X : K.In h) (G : h.Ns mainGlobals mg) (c : He.SaysD fa fn K) : DefAt K mg "_law_given" (topS 72) ["_law_x"] := by
  obtain ⟨fd, F⟩ := c.def_ 3 rfl
  exact ⟨_, fd, F, He.glo_ok X G (c.fact 3 rfl), FunD.bindsN F (fun _ _ _ _ _ _ us hl => match us, hl with | [_], _ => rfl)⟩
theorem at__law_placed (X : K.In h) (G : h.Ns mainGlobals mg) (c : He.SaysD fa fn K) : DefAt K mg "_law_placed" (topS 73) ["_law_x"] := by
  obtain ⟨fd, F⟩ := c.def_ 4 rfl
  exact ⟨_, fd, F, He.glo_ok X G (c.fact 4 rfl), FunD.bindsN F (fun _ _ _ _ _ _ us hl => match us, hl with | [_], _ => rfl)⟩
theorem at__law_one_of (X : K.In h) (G : h.Ns mainGlobals mg) (c : He.SaysD fa fn K) : DefAt K mg "_law_one_of" (topS 71) ["_law_e"] := by
  obtain ⟨fd, F⟩ := c.def_ 5 rfl
  exact ⟨_, fd, F, He.glo_ok X G (c.fact 5 rfl), FunD.bindsN F (fun _ _ _ _ _ _ us hl => match us, hl with | [_], _ => rfl)⟩
theorem at__law_bases (X : K.In h) (G : h.Ns mainGlobals mg) (c : He.SaysD fa fn K) : DefAt K mg "_law_bases" (topS 74) ["_law_e"] := by
  obtain ⟨fd, F⟩ := c.def_ 6 rfl
  exact ⟨_, fd, F, He.glo_ok X G (c.fact 6 rfl), FunD.bindsN F (fun _ _ _ _ _ _ us hl => match us, hl with | [_], _ => rfl)⟩
theorem at__law_right (X : K.In h) (G : h.Ns mainGlobals mg) (c : He.SaysD fa fn K) : DefAt K mg "_law_right" (topS 75) ["_law_pail_here"] := by
  obtain ⟨fd, F⟩ := c.def_ 7 rfl
  exact ⟨_, fd, F, He.glo_ok X G (c.fact 7 rfl), FunD.bindsN F (fun _ _ _ _ _ _ us hl => match us, hl with | [_], _ => rfl)⟩
theorem all_cls {p : Nat → Prop} (h : ∀ i : Fin 51, p i.1) (n : Nat) (hn : n < 51) : p n := h ⟨n, hn⟩
theorem cls_ok (X : K.In h) (G : h.Ns mainGlobals mg) (c : He.SaysD fa fn K) : ∀ n, n < 51 → mg (cN n) = some (.ref (cA K n))
  | 0, _ => He.glo_ok X G (c.fact 9 rfl)
  | 1, _ => He.glo_ok X G (c.fact 10 rfl)
  | 2, _ => He.glo_ok X G (c.fact 11 rfl)
  | 3, _ => He.glo_ok X G (c.fact 12 rfl)
  | 4, _ => He.glo_ok X G (c.fact 13 rfl)
  | 5, _ => He.glo_ok X G (c.fact 14 rfl)
  | 6, _ => He.glo_ok X G (c.fact 15 rfl)
  | 7, _ => He.glo_ok X G (c.fact 16 rfl)
  | 8, _ => He.glo_ok X G (c.fact 17 rfl)
  | 9, _ => He.glo_ok X G (c.fact 18 rfl)
  | 10, _ => He.glo_ok X G (c.fact 19 rfl)
  | 11, _ => He.glo_ok X G (c.fact 20 rfl)
  | 12, _ => He.glo_ok X G (c.fact 21 rfl)
  | 13, _ => He.glo_ok X G (c.fact 22 rfl)
  | 14, _ => He.glo_ok X G (c.fact 23 rfl)
  | 15, _ => He.glo_ok X G (c.fact 24 rfl)
  | 16, _ => He.glo_ok X G (c.fact 25 rfl)
  | 17, _ => He.glo_ok X G (c.fact 26 rfl)
  | 18, _ => He.glo_ok X G (c.fact 27 rfl)
  | 19, _ => He.glo_ok X G (c.fact 28 rfl)
  | 20, _ => He.glo_ok X G (c.fact 29 rfl)
  | 21, _ => He.glo_ok X G (c.fact 30 rfl)
  | 22, _ => He.glo_ok X G (c.fact 31 rfl)
  | 23, _ => He.glo_ok X G (c.fact 32 rfl)
  | 24, _ => He.glo_ok X G (c.fact 33 rfl)
  | 25, _ => He.glo_ok X G (c.fact 34 rfl)
  | 26, _ => He.glo_ok X G (c.fact 35 rfl)
  | 27, _ => He.glo_ok X G (c.fact 36 rfl)
  | 28, _ => He.glo_ok X G (c.fact 37 rfl)
  | 29, _ => He.glo_ok X G (c.fact 38 rfl)
  | 30, _ => He.glo_ok X G (c.fact 39 rfl)
  | 31, _ => He.glo_ok X G (c.fact 40 rfl)
  | 32, _ => He.glo_ok X G (c.fact 41 rfl)
  | 33, _ => He.glo_ok X G (c.fact 42 rfl)
  | 34, _ => He.glo_ok X G (c.fact 43 rfl)
  | 35, _ => He.glo_ok X G (c.fact 44 rfl)
  | 36, _ => He.glo_ok X G (c.fact 45 rfl)
  | 37, _ => He.glo_ok X G (c.fact 46 rfl)
  | 38, _ => He.glo_ok X G (c.fact 47 rfl)
  | 39, _ => He.glo_ok X G (c.fact 48 rfl)
  | 40, _ => He.glo_ok X G (c.fact 49 rfl)
  | 41, _ => He.glo_ok X G (c.fact 50 rfl)
  | 42, _ => He.glo_ok X G (c.fact 51 rfl)
  | 43, _ => He.glo_ok X G (c.fact 52 rfl)
  | 44, _ => He.glo_ok X G (c.fact 53 rfl)
  | 45, _ => He.glo_ok X G (c.fact 54 rfl)
  | 46, _ => He.glo_ok X G (c.fact 55 rfl)
  | 47, _ => He.glo_ok X G (c.fact 56 rfl)
  | 48, _ => He.glo_ok X G (c.fact 57 rfl)
  | 49, _ => He.glo_ok X G (c.fact 58 rfl)
  | 50, _ => He.glo_ok X G (c.fact 59 rfl)
  | n + 51, z => absurd z (by omega)
/-- an __init__ that keeps what it is given under f -/
structure InitF (K : PySem.W.Frag) (fI : Addr) (fd : FuncData) (f : Str) : Prop where
  F : ∃ (q : Str) (pr : Arguments) (sc : Scope) (p1 p2 p3 p4 : Pos), FunD K "__init__" q pr [.Assign [.Attribute (.Name "self" p1) f p2] (.Name f p3) p4] sc [] [] fI fd ∧ FnScope ["self", f] ["self", f] sc ∧ Vis sc "self" ∧ Vis sc f
  b : Binds K fd ["self", f] []
  kb : KBn K fd ["self", f] 1 [f] (fun us ws => us ++ ws) (fun vs zs => vs ++ zs)
theorem xi_0 (c : He.SaysD fa fn K) : ∃ fd, InitF K (He.fAd K ("InvalidText", some "__init__")) fd "given" := by
  obtain ⟨fd, F⟩ := c.def_ 9 rfl
  refine ⟨fd, ⟨_, _, _, _, _, _, _, F, ⟨rfl, rfl, rfl, by decide +kernel, rfl, by decide +kernel, by decide +kernel⟩, .inl rfl, .inl rfl⟩, FunD.bindsN F (fun _ _ _ _ _ _ us hl => match us, hl with | [_, _], _ => rfl), ?_⟩
  obtain ⟨oc, od, dV, kV, doc, pm, an, cdv, ct, osl, rfl, lk, hcd, hD, hK⟩ := F.ex
  rcases hD with ⟨_, rfl⟩ | ⟨e, _⟩
  · exact ⟨fun s us ws X l1 l2 => match us, l1, ws, l2 with | [_], _, [_], _ => .of_eq rfl, fun r1 r2 => r1.append r2⟩
  · exact absurd rfl e
theorem xi_1 (c : He.SaysD fa fn K) : ∃ fd, InitF K (He.fAd K ("InvalidName", some "__init__")) fd "given" := by
  obtain ⟨fd, F⟩ := c.def_ 10 rfl
  refine ⟨fd, ⟨_, _, _, _, _, _, _, F, ⟨rfl, rfl, rfl, by decide +kernel, rfl, by decide +kernel, by decide +kernel⟩, .inl rfl, .inl rfl⟩, FunD.bindsN F (fun _ _ _ _ _ _ us hl => match us, hl with | [_, _], _ => rfl), ?_⟩
  obtain ⟨oc, od, dV, kV, doc, pm, an, cdv, ct, osl, rfl, lk, hcd, hD, hK⟩ := F.ex
  rcases hD with ⟨_, rfl⟩ | ⟨e, _⟩
  · exact ⟨fun s us ws X l1 l2 => match us, l1, ws, l2 with | [_], _, [_], _ => .of_eq rfl, fun r1 r2 => r1.append r2⟩
  · exact absurd rfl e
theorem xi_2 (c : He.SaysD fa fn K) : ∃ fd, InitF K (He.fAd K ("InvalidColumn", some "__init__")) fd "given" := by
  obtain ⟨fd, F⟩ := c.def_ 11 rfl
  refine ⟨fd, ⟨_, _, _, _, _, _, _, F, ⟨rfl, rfl, rfl, by decide +kernel, rfl, by decide +kernel, by decide +kernel⟩, .inl rfl, .inl rfl⟩, FunD.bindsN F (fun _ _ _ _ _ _ us hl => match us, hl with | [_, _], _ => rfl), ?_⟩
  obtain ⟨oc, od, dV, kV, doc, pm, an, cdv, ct, osl, rfl, lk, hcd, hD, hK⟩ := F.ex
  rcases hD with ⟨_, rfl⟩ | ⟨e, _⟩
  · exact ⟨fun s us ws X l1 l2 => match us, l1, ws, l2 with | [_], _, [_], _ => .of_eq rfl, fun r1 r2 => r1.append r2⟩
  · exact absurd rfl e
theorem xi_3 (c : He.SaysD fa fn K) : ∃ fd, InitF K (He.fAd K ("InvalidStretch", some "__init__")) fd "given" := by
  obtain ⟨fd, F⟩ := c.def_ 12 rfl
  refine ⟨fd, ⟨_, _, _, _, _, _, _, F, ⟨rfl, rfl, rfl, by decide +kernel, rfl, by decide +kernel, by decide +kernel⟩, .inl rfl, .inl rfl⟩, FunD.bindsN F (fun _ _ _ _ _ _ us hl => match us, hl with | [_, _], _ => rfl), ?_⟩
  obtain ⟨oc, od, dV, kV, doc, pm, an, cdv, ct, osl, rfl, lk, hcd, hD, hK⟩ := F.ex
  rcases hD with ⟨_, rfl⟩ | ⟨e, _⟩
  · exact ⟨fun s us ws X l1 l2 => match us, l1, ws, l2 with | [_], _, [_], _ => .of_eq rfl, fun r1 r2 => r1.append r2⟩
  · exact absurd rfl e
theorem xi_4 (c : He.SaysD fa fn K) : ∃ fd, InitF K (He.fAd K ("InvalidMember", some "__init__")) fd "given" := by
  obtain ⟨fd, F⟩ := c.def_ 13 rfl
  refine ⟨fd, ⟨_, _, _, _, _, _, _, F, ⟨rfl, rfl, rfl, by decide +kernel, rfl, by decide +kernel, by decide +kernel⟩, .inl rfl, .inl rfl⟩, FunD.bindsN F (fun _ _ _ _ _ _ us hl => match us, hl with | [_, _], _ => rfl), ?_⟩
  obtain ⟨oc, od, dV, kV, doc, pm, an, cdv, ct, osl, rfl, lk, hcd, hD, hK⟩ := F.ex
  rcases hD with ⟨_, rfl⟩ | ⟨e, _⟩
  · exact ⟨fun s us ws X l1 l2 => match us, l1, ws, l2 with | [_], _, [_], _ => .of_eq rfl, fun r1 r2 => r1.append r2⟩
  · exact absurd rfl e
theorem xi_5 (c : He.SaysD fa fn K) : ∃ fd, InitF K (He.fAd K ("InvalidMix", some "__init__")) fd "given" := by
  obtain ⟨fd, F⟩ := c.def_ 14 rfl
  refine ⟨fd, ⟨_, _, _, _, _, _, _, F, ⟨rfl, rfl, rfl, by decide +kernel, rfl, by decide +kernel, by decide +kernel⟩, .inl rfl, .inl rfl⟩, FunD.bindsN F (fun _ _ _ _ _ _ us hl => match us, hl with | [_, _], _ => rfl), ?_⟩
  obtain ⟨oc, od, dV, kV, doc, pm, an, cdv, ct, osl, rfl, lk, hcd, hD, hK⟩ := F.ex
  rcases hD with ⟨_, rfl⟩ | ⟨e, _⟩
  · exact ⟨fun s us ws X l1 l2 => match us, l1, ws, l2 with | [_], _, [_], _ => .of_eq rfl, fun r1 r2 => r1.append r2⟩
  · exact absurd rfl e
theorem xi_6 (c : He.SaysD fa fn K) : ∃ fd, InitF K (He.fAd K ("InvalidWeights", some "__init__")) fd "given" := by
  obtain ⟨fd, F⟩ := c.def_ 15 rfl
  refine ⟨fd, ⟨_, _, _, _, _, _, _, F, ⟨rfl, rfl, rfl, by decide +kernel, rfl, by decide +kernel, by decide +kernel⟩, .inl rfl, .inl rfl⟩, FunD.bindsN F (fun _ _ _ _ _ _ us hl => match us, hl with | [_, _], _ => rfl), ?_⟩
  obtain ⟨oc, od, dV, kV, doc, pm, an, cdv, ct, osl, rfl, lk, hcd, hD, hK⟩ := F.ex
  rcases hD with ⟨_, rfl⟩ | ⟨e, _⟩
  · exact ⟨fun s us ws X l1 l2 => match us, l1, ws, l2 with | [_], _, [_], _ => .of_eq rfl, fun r1 r2 => r1.append r2⟩
  · exact absurd rfl e
theorem xi_7 (c : He.SaysD fa fn K) : ∃ fd, InitF K (He.fAd K ("InvalidTarget", some "__init__")) fd "given" := by
  obtain ⟨fd, F⟩ := c.def_ 16 rfl
  refine ⟨fd, ⟨_, _, _, _, _, _, _, F, ⟨rfl, rfl, rfl, by decide +kernel, rfl, by decide +kernel, by decide +kernel⟩, .inl rfl, .inl rfl⟩, FunD.bindsN F (fun _ _ _ _ _ _ us hl => match us, hl with | [_, _], _ => rfl), ?_⟩
  obtain ⟨oc, od, dV, kV, doc, pm, an, cdv, ct, osl, rfl, lk, hcd, hD, hK⟩ := F.ex
  rcases hD with ⟨_, rfl⟩ | ⟨e, _⟩
  · exact ⟨fun s us ws X l1 l2 => match us, l1, ws, l2 with | [_], _, [_], _ => .of_eq rfl, fun r1 r2 => r1.append r2⟩
  · exact absurd rfl e
theorem xi_8 (c : He.SaysD fa fn K) : ∃ fd, InitF K (He.fAd K ("InvalidBounds", some "__init__")) fd "given" := by
  obtain ⟨fd, F⟩ := c.def_ 17 rfl
  refine ⟨fd, ⟨_, _, _, _, _, _, _, F, ⟨rfl, rfl, rfl, by decide +kernel, rfl, by decide +kernel, by decide +kernel⟩, .inl rfl, .inl rfl⟩, FunD.bindsN F (fun _ _ _ _ _ _ us hl => match us, hl with | [_, _], _ => rfl), ?_⟩
  obtain ⟨oc, od, dV, kV, doc, pm, an, cdv, ct, osl, rfl, lk, hcd, hD, hK⟩ := F.ex
  rcases hD with ⟨_, rfl⟩ | ⟨e, _⟩
  · exact ⟨fun s us ws X l1 l2 => match us, l1, ws, l2 with | [_], _, [_], _ => .of_eq rfl, fun r1 r2 => r1.append r2⟩
  · exact absurd rfl e
theorem xi_9 (c : He.SaysD fa fn K) : ∃ fd, InitF K (He.fAd K ("InvalidPrices", some "__init__")) fd "given" := by
  obtain ⟨fd, F⟩ := c.def_ 18 rfl
  refine ⟨fd, ⟨_, _, _, _, _, _, _, F, ⟨rfl, rfl, rfl, by decide +kernel, rfl, by decide +kernel, by decide +kernel⟩, .inl rfl, .inl rfl⟩, FunD.bindsN F (fun _ _ _ _ _ _ us hl => match us, hl with | [_, _], _ => rfl), ?_⟩
  obtain ⟨oc, od, dV, kV, doc, pm, an, cdv, ct, osl, rfl, lk, hcd, hD, hK⟩ := F.ex
  rcases hD with ⟨_, rfl⟩ | ⟨e, _⟩
  · exact ⟨fun s us ws X l1 l2 => match us, l1, ws, l2 with | [_], _, [_], _ => .of_eq rfl, fun r1 r2 => r1.append r2⟩
  · exact absurd rfl e
theorem xi_10 (c : He.SaysD fa fn K) : ∃ fd, InitF K (He.fAd K ("InvalidSigns", some "__init__")) fd "given" := by
  obtain ⟨fd, F⟩ := c.def_ 19 rfl
  refine ⟨fd, ⟨_, _, _, _, _, _, _, F, ⟨rfl, rfl, rfl, by decide +kernel, rfl, by decide +kernel, by decide +kernel⟩, .inl rfl, .inl rfl⟩, FunD.bindsN F (fun _ _ _ _ _ _ us hl => match us, hl with | [_, _], _ => rfl), ?_⟩
  obtain ⟨oc, od, dV, kV, doc, pm, an, cdv, ct, osl, rfl, lk, hcd, hD, hK⟩ := F.ex
  rcases hD with ⟨_, rfl⟩ | ⟨e, _⟩
  · exact ⟨fun s us ws X l1 l2 => match us, l1, ws, l2 with | [_], _, [_], _ => .of_eq rfl, fun r1 r2 => r1.append r2⟩
  · exact absurd rfl e
theorem xi_11 (c : He.SaysD fa fn K) : ∃ fd, InitF K (He.fAd K ("InvalidAnswer", some "__init__")) fd "given" := by
  obtain ⟨fd, F⟩ := c.def_ 20 rfl
  refine ⟨fd, ⟨_, _, _, _, _, _, _, F, ⟨rfl, rfl, rfl, by decide +kernel, rfl, by decide +kernel, by decide +kernel⟩, .inl rfl, .inl rfl⟩, FunD.bindsN F (fun _ _ _ _ _ _ us hl => match us, hl with | [_, _], _ => rfl), ?_⟩
  obtain ⟨oc, od, dV, kV, doc, pm, an, cdv, ct, osl, rfl, lk, hcd, hD, hK⟩ := F.ex
  rcases hD with ⟨_, rfl⟩ | ⟨e, _⟩
  · exact ⟨fun s us ws X l1 l2 => match us, l1, ws, l2 with | [_], _, [_], _ => .of_eq rfl, fun r1 r2 => r1.append r2⟩
  · exact absurd rfl e
theorem xi_12 (c : He.SaysD fa fn K) : ∃ fd, InitF K (He.fAd K ("InvalidPoint", some "__init__")) fd "given" := by
  obtain ⟨fd, F⟩ := c.def_ 21 rfl
  refine ⟨fd, ⟨_, _, _, _, _, _, _, F, ⟨rfl, rfl, rfl, by decide +kernel, rfl, by decide +kernel, by decide +kernel⟩, .inl rfl, .inl rfl⟩, FunD.bindsN F (fun _ _ _ _ _ _ us hl => match us, hl with | [_, _], _ => rfl), ?_⟩
  obtain ⟨oc, od, dV, kV, doc, pm, an, cdv, ct, osl, rfl, lk, hcd, hD, hK⟩ := F.ex
  rcases hD with ⟨_, rfl⟩ | ⟨e, _⟩
  · exact ⟨fun s us ws X l1 l2 => match us, l1, ws, l2 with | [_], _, [_], _ => .of_eq rfl, fun r1 r2 => r1.append r2⟩
  · exact absurd rfl e
theorem xi_13 (c : He.SaysD fa fn K) : ∃ fd, InitF K (He.fAd K ("InvalidPoints", some "__init__")) fd "given" := by
  obtain ⟨fd, F⟩ := c.def_ 22 rfl
  refine ⟨fd, ⟨_, _, _, _, _, _, _, F, ⟨rfl, rfl, rfl, by decide +kernel, rfl, by decide +kernel, by decide +kernel⟩, .inl rfl, .inl rfl⟩, FunD.bindsN F (fun _ _ _ _ _ _ us hl => match us, hl with | [_, _], _ => rfl), ?_⟩
  obtain ⟨oc, od, dV, kV, doc, pm, an, cdv, ct, osl, rfl, lk, hcd, hD, hK⟩ := F.ex
  rcases hD with ⟨_, rfl⟩ | ⟨e, _⟩
  · exact ⟨fun s us ws X l1 l2 => match us, l1, ws, l2 with | [_], _, [_], _ => .of_eq rfl, fun r1 r2 => r1.append r2⟩
  · exact absurd rfl e
theorem xi_14 (c : He.SaysD fa fn K) : ∃ fd, InitF K (He.fAd K ("InvalidPlaces", some "__init__")) fd "given" := by
  obtain ⟨fd, F⟩ := c.def_ 23 rfl
  refine ⟨fd, ⟨_, _, _, _, _, _, _, F, ⟨rfl, rfl, rfl, by decide +kernel, rfl, by decide +kernel, by decide +kernel⟩, .inl rfl, .inl rfl⟩, FunD.bindsN F (fun _ _ _ _ _ _ us hl => match us, hl with | [_, _], _ => rfl), ?_⟩
  obtain ⟨oc, od, dV, kV, doc, pm, an, cdv, ct, osl, rfl, lk, hcd, hD, hK⟩ := F.ex
  rcases hD with ⟨_, rfl⟩ | ⟨e, _⟩
  · exact ⟨fun s us ws X l1 l2 => match us, l1, ws, l2 with | [_], _, [_], _ => .of_eq rfl, fun r1 r2 => r1.append r2⟩
  · exact absurd rfl e
theorem xi_15 (c : He.SaysD fa fn K) : ∃ fd, InitF K (He.fAd K ("InvalidTie", some "__init__")) fd "given" := by
  obtain ⟨fd, F⟩ := c.def_ 24 rfl
  refine ⟨fd, ⟨_, _, _, _, _, _, _, F, ⟨rfl, rfl, rfl, by decide +kernel, rfl, by decide +kernel, by decide +kernel⟩, .inl rfl, .inl rfl⟩, FunD.bindsN F (fun _ _ _ _ _ _ us hl => match us, hl with | [_, _], _ => rfl), ?_⟩
  obtain ⟨oc, od, dV, kV, doc, pm, an, cdv, ct, osl, rfl, lk, hcd, hD, hK⟩ := F.ex
  rcases hD with ⟨_, rfl⟩ | ⟨e, _⟩
  · exact ⟨fun s us ws X l1 l2 => match us, l1, ws, l2 with | [_], _, [_], _ => .of_eq rfl, fun r1 r2 => r1.append r2⟩
  · exact absurd rfl e
theorem xi_16 (c : He.SaysD fa fn K) : ∃ fd, InitF K (He.fAd K ("InvalidWay", some "__init__")) fd "given" := by
  obtain ⟨fd, F⟩ := c.def_ 25 rfl
  refine ⟨fd, ⟨_, _, _, _, _, _, _, F, ⟨rfl, rfl, rfl, by decide +kernel, rfl, by decide +kernel, by decide +kernel⟩, .inl rfl, .inl rfl⟩, FunD.bindsN F (fun _ _ _ _ _ _ us hl => match us, hl with | [_, _], _ => rfl), ?_⟩
  obtain ⟨oc, od, dV, kV, doc, pm, an, cdv, ct, osl, rfl, lk, hcd, hD, hK⟩ := F.ex
  rcases hD with ⟨_, rfl⟩ | ⟨e, _⟩
  · exact ⟨fun s us ws X l1 l2 => match us, l1, ws, l2 with | [_], _, [_], _ => .of_eq rfl, fun r1 r2 => r1.append r2⟩
  · exact absurd rfl e
theorem xi_17 (c : He.SaysD fa fn K) : ∃ fd, InitF K (He.fAd K ("InvalidPairing", some "__init__")) fd "given" := by
  obtain ⟨fd, F⟩ := c.def_ 26 rfl
  refine ⟨fd, ⟨_, _, _, _, _, _, _, F, ⟨rfl, rfl, rfl, by decide +kernel, rfl, by decide +kernel, by decide +kernel⟩, .inl rfl, .inl rfl⟩, FunD.bindsN F (fun _ _ _ _ _ _ us hl => match us, hl with | [_, _], _ => rfl), ?_⟩
  obtain ⟨oc, od, dV, kV, doc, pm, an, cdv, ct, osl, rfl, lk, hcd, hD, hK⟩ := F.ex
  rcases hD with ⟨_, rfl⟩ | ⟨e, _⟩
  · exact ⟨fun s us ws X l1 l2 => match us, l1, ws, l2 with | [_], _, [_], _ => .of_eq rfl, fun r1 r2 => r1.append r2⟩
  · exact absurd rfl e
theorem xi_18 (c : He.SaysD fa fn K) : ∃ fd, InitF K (He.fAd K ("InvalidTree", some "__init__")) fd "given" := by
  obtain ⟨fd, F⟩ := c.def_ 27 rfl
  refine ⟨fd, ⟨_, _, _, _, _, _, _, F, ⟨rfl, rfl, rfl, by decide +kernel, rfl, by decide +kernel, by decide +kernel⟩, .inl rfl, .inl rfl⟩, FunD.bindsN F (fun _ _ _ _ _ _ us hl => match us, hl with | [_, _], _ => rfl), ?_⟩
  obtain ⟨oc, od, dV, kV, doc, pm, an, cdv, ct, osl, rfl, lk, hcd, hD, hK⟩ := F.ex
  rcases hD with ⟨_, rfl⟩ | ⟨e, _⟩
  · exact ⟨fun s us ws X l1 l2 => match us, l1, ws, l2 with | [_], _, [_], _ => .of_eq rfl, fun r1 r2 => r1.append r2⟩
  · exact absurd rfl e
theorem xi_19 (c : He.SaysD fa fn K) : ∃ fd, InitF K (He.fAd K ("InvalidCut", some "__init__")) fd "given" := by
  obtain ⟨fd, F⟩ := c.def_ 28 rfl
  refine ⟨fd, ⟨_, _, _, _, _, _, _, F, ⟨rfl, rfl, rfl, by decide +kernel, rfl, by decide +kernel, by decide +kernel⟩, .inl rfl, .inl rfl⟩, FunD.bindsN F (fun _ _ _ _ _ _ us hl => match us, hl with | [_, _], _ => rfl), ?_⟩
  obtain ⟨oc, od, dV, kV, doc, pm, an, cdv, ct, osl, rfl, lk, hcd, hD, hK⟩ := F.ex
  rcases hD with ⟨_, rfl⟩ | ⟨e, _⟩
  · exact ⟨fun s us ws X l1 l2 => match us, l1, ws, l2 with | [_], _, [_], _ => .of_eq rfl, fun r1 r2 => r1.append r2⟩
  · exact absurd rfl e
theorem xi_20 (c : He.SaysD fa fn K) : ∃ fd, InitF K (He.fAd K ("InvalidNumber", some "__init__")) fd "given" := by
  obtain ⟨fd, F⟩ := c.def_ 29 rfl
  refine ⟨fd, ⟨_, _, _, _, _, _, _, F, ⟨rfl, rfl, rfl, by decide +kernel, rfl, by decide +kernel, by decide +kernel⟩, .inl rfl, .inl rfl⟩, FunD.bindsN F (fun _ _ _ _ _ _ us hl => match us, hl with | [_, _], _ => rfl), ?_⟩
  obtain ⟨oc, od, dV, kV, doc, pm, an, cdv, ct, osl, rfl, lk, hcd, hD, hK⟩ := F.ex
  rcases hD with ⟨_, rfl⟩ | ⟨e, _⟩
  · exact ⟨fun s us ws X l1 l2 => match us, l1, ws, l2 with | [_], _, [_], _ => .of_eq rfl, fun r1 r2 => r1.append r2⟩
  · exact absurd rfl e
theorem xi_21 (c : He.SaysD fa fn K) : ∃ fd, InitF K (He.fAd K ("InvalidSeating", some "__init__")) fd "given" := by
  obtain ⟨fd, F⟩ := c.def_ 30 rfl
  refine ⟨fd, ⟨_, _, _, _, _, _, _, F, ⟨rfl, rfl, rfl, by decide +kernel, rfl, by decide +kernel, by decide +kernel⟩, .inl rfl, .inl rfl⟩, FunD.bindsN F (fun _ _ _ _ _ _ us hl => match us, hl with | [_, _], _ => rfl), ?_⟩
  obtain ⟨oc, od, dV, kV, doc, pm, an, cdv, ct, osl, rfl, lk, hcd, hD, hK⟩ := F.ex
  rcases hD with ⟨_, rfl⟩ | ⟨e, _⟩
  · exact ⟨fun s us ws X l1 l2 => match us, l1, ws, l2 with | [_], _, [_], _ => .of_eq rfl, fun r1 r2 => r1.append r2⟩
  · exact absurd rfl e
theorem xi_22 (c : He.SaysD fa fn K) : ∃ fd, InitF K (He.fAd K ("InvalidWord", some "__init__")) fd "given" := by
  obtain ⟨fd, F⟩ := c.def_ 31 rfl
  refine ⟨fd, ⟨_, _, _, _, _, _, _, F, ⟨rfl, rfl, rfl, by decide +kernel, rfl, by decide +kernel, by decide +kernel⟩, .inl rfl, .inl rfl⟩, FunD.bindsN F (fun _ _ _ _ _ _ us hl => match us, hl with | [_, _], _ => rfl), ?_⟩
  obtain ⟨oc, od, dV, kV, doc, pm, an, cdv, ct, osl, rfl, lk, hcd, hD, hK⟩ := F.ex
  rcases hD with ⟨_, rfl⟩ | ⟨e, _⟩
  · exact ⟨fun s us ws X l1 l2 => match us, l1, ws, l2 with | [_], _, [_], _ => .of_eq rfl, fun r1 r2 => r1.append r2⟩
  · exact absurd rfl e
theorem xi_23 (c : He.SaysD fa fn K) : ∃ fd, InitF K (He.fAd K ("InvalidWish", some "__init__")) fd "given" := by
  obtain ⟨fd, F⟩ := c.def_ 32 rfl
  refine ⟨fd, ⟨_, _, _, _, _, _, _, F, ⟨rfl, rfl, rfl, by decide +kernel, rfl, by decide +kernel, by decide +kernel⟩, .inl rfl, .inl rfl⟩, FunD.bindsN F (fun _ _ _ _ _ _ us hl => match us, hl with | [_, _], _ => rfl), ?_⟩
  obtain ⟨oc, od, dV, kV, doc, pm, an, cdv, ct, osl, rfl, lk, hcd, hD, hK⟩ := F.ex
  rcases hD with ⟨_, rfl⟩ | ⟨e, _⟩
  · exact ⟨fun s us ws X l1 l2 => match us, l1, ws, l2 with | [_], _, [_], _ => .of_eq rfl, fun r1 r2 => r1.append r2⟩
  · exact absurd rfl e
theorem xi_24 (c : He.SaysD fa fn K) : ∃ fd, InitF K (He.fAd K ("InvalidCommand", some "__init__")) fd "given" := by
  obtain ⟨fd, F⟩ := c.def_ 33 rfl
  refine ⟨fd, ⟨_, _, _, _, _, _, _, F, ⟨rfl, rfl, rfl, by decide +kernel, rfl, by decide +kernel, by decide +kernel⟩, .inl rfl, .inl rfl⟩, FunD.bindsN F (fun _ _ _ _ _ _ us hl => match us, hl with | [_, _], _ => rfl), ?_⟩
  obtain ⟨oc, od, dV, kV, doc, pm, an, cdv, ct, osl, rfl, lk, hcd, hD, hK⟩ := F.ex
  rcases hD with ⟨_, rfl⟩ | ⟨e, _⟩
  · exact ⟨fun s us ws X l1 l2 => match us, l1, ws, l2 with | [_], _, [_], _ => .of_eq rfl, fun r1 r2 => r1.append r2⟩
  · exact absurd rfl e
theorem xi_25 (c : He.SaysD fa fn K) : ∃ fd, InitF K (He.fAd K ("NotATable", some "__init__")) fd "given" := by
  obtain ⟨fd, F⟩ := c.def_ 34 rfl
  refine ⟨fd, ⟨_, _, _, _, _, _, _, F, ⟨rfl, rfl, rfl, by decide +kernel, rfl, by decide +kernel, by decide +kernel⟩, .inl rfl, .inl rfl⟩, FunD.bindsN F (fun _ _ _ _ _ _ us hl => match us, hl with | [_, _], _ => rfl), ?_⟩
  obtain ⟨oc, od, dV, kV, doc, pm, an, cdv, ct, osl, rfl, lk, hcd, hD, hK⟩ := F.ex
  rcases hD with ⟨_, rfl⟩ | ⟨e, _⟩
  · exact ⟨fun s us ws X l1 l2 => match us, l1, ws, l2 with | [_], _, [_], _ => .of_eq rfl, fun r1 r2 => r1.append r2⟩
  · exact absurd rfl e
theorem xi_26 (c : He.SaysD fa fn K) : ∃ fd, InitF K (He.fAd K ("NotTimes", some "__init__")) fd "given" := by
  obtain ⟨fd, F⟩ := c.def_ 35 rfl
  refine ⟨fd, ⟨_, _, _, _, _, _, _, F, ⟨rfl, rfl, rfl, by decide +kernel, rfl, by decide +kernel, by decide +kernel⟩, .inl rfl, .inl rfl⟩, FunD.bindsN F (fun _ _ _ _ _ _ us hl => match us, hl with | [_, _], _ => rfl), ?_⟩
  obtain ⟨oc, od, dV, kV, doc, pm, an, cdv, ct, osl, rfl, lk, hcd, hD, hK⟩ := F.ex
  rcases hD with ⟨_, rfl⟩ | ⟨e, _⟩
  · exact ⟨fun s us ws X l1 l2 => match us, l1, ws, l2 with | [_], _, [_], _ => .of_eq rfl, fun r1 r2 => r1.append r2⟩
  · exact absurd rfl e
theorem xi_27 (c : He.SaysD fa fn K) : ∃ fd, InitF K (He.fAd K ("NotAWeb", some "__init__")) fd "given" := by
  obtain ⟨fd, F⟩ := c.def_ 36 rfl
  refine ⟨fd, ⟨_, _, _, _, _, _, _, F, ⟨rfl, rfl, rfl, by decide +kernel, rfl, by decide +kernel, by decide +kernel⟩, .inl rfl, .inl rfl⟩, FunD.bindsN F (fun _ _ _ _ _ _ us hl => match us, hl with | [_, _], _ => rfl), ?_⟩
  obtain ⟨oc, od, dV, kV, doc, pm, an, cdv, ct, osl, rfl, lk, hcd, hD, hK⟩ := F.ex
  rcases hD with ⟨_, rfl⟩ | ⟨e, _⟩
  · exact ⟨fun s us ws X l1 l2 => match us, l1, ws, l2 with | [_], _, [_], _ => .of_eq rfl, fun r1 r2 => r1.append r2⟩
  · exact absurd rfl e
theorem xi_28 (c : He.SaysD fa fn K) : ∃ fd, InitF K (He.fAd K ("NotCounts", some "__init__")) fd "given" := by
  obtain ⟨fd, F⟩ := c.def_ 37 rfl
  refine ⟨fd, ⟨_, _, _, _, _, _, _, F, ⟨rfl, rfl, rfl, by decide +kernel, rfl, by decide +kernel, by decide +kernel⟩, .inl rfl, .inl rfl⟩, FunD.bindsN F (fun _ _ _ _ _ _ us hl => match us, hl with | [_, _], _ => rfl), ?_⟩
  obtain ⟨oc, od, dV, kV, doc, pm, an, cdv, ct, osl, rfl, lk, hcd, hD, hK⟩ := F.ex
  rcases hD with ⟨_, rfl⟩ | ⟨e, _⟩
  · exact ⟨fun s us ws X l1 l2 => match us, l1, ws, l2 with | [_], _, [_], _ => .of_eq rfl, fun r1 r2 => r1.append r2⟩
  · exact absurd rfl e
theorem xi_29 (c : He.SaysD fa fn K) : ∃ fd, InitF K (He.fAd K ("NotAThing", some "__init__")) fd "given" := by
  obtain ⟨fd, F⟩ := c.def_ 38 rfl
  refine ⟨fd, ⟨_, _, _, _, _, _, _, F, ⟨rfl, rfl, rfl, by decide +kernel, rfl, by decide +kernel, by decide +kernel⟩, .inl rfl, .inl rfl⟩, FunD.bindsN F (fun _ _ _ _ _ _ us hl => match us, hl with | [_, _], _ => rfl), ?_⟩
  obtain ⟨oc, od, dV, kV, doc, pm, an, cdv, ct, osl, rfl, lk, hcd, hD, hK⟩ := F.ex
  rcases hD with ⟨_, rfl⟩ | ⟨e, _⟩
  · exact ⟨fun s us ws X l1 l2 => match us, l1, ws, l2 with | [_], _, [_], _ => .of_eq rfl, fun r1 r2 => r1.append r2⟩
  · exact absurd rfl e
theorem xi_30 (c : He.SaysD fa fn K) : ∃ fd, InitF K (He.fAd K ("InvalidColumns", some "__init__")) fd "index" := by
  obtain ⟨fd, F⟩ := c.def_ 39 rfl
  refine ⟨fd, ⟨_, _, _, _, _, _, _, F, ⟨rfl, rfl, rfl, by decide +kernel, rfl, by decide +kernel, by decide +kernel⟩, .inl rfl, .inl rfl⟩, FunD.bindsN F (fun _ _ _ _ _ _ us hl => match us, hl with | [_, _], _ => rfl), ?_⟩
  obtain ⟨oc, od, dV, kV, doc, pm, an, cdv, ct, osl, rfl, lk, hcd, hD, hK⟩ := F.ex
  rcases hD with ⟨_, rfl⟩ | ⟨e, _⟩
  · exact ⟨fun s us ws X l1 l2 => match us, l1, ws, l2 with | [_], _, [_], _ => .of_eq rfl, fun r1 r2 => r1.append r2⟩
  · exact absurd rfl e
theorem xi_31 (c : He.SaysD fa fn K) : ∃ fd, InitF K (He.fAd K ("InvalidRows", some "__init__")) fd "index" := by
  obtain ⟨fd, F⟩ := c.def_ 40 rfl
  refine ⟨fd, ⟨_, _, _, _, _, _, _, F, ⟨rfl, rfl, rfl, by decide +kernel, rfl, by decide +kernel, by decide +kernel⟩, .inl rfl, .inl rfl⟩, FunD.bindsN F (fun _ _ _ _ _ _ us hl => match us, hl with | [_, _], _ => rfl), ?_⟩
  obtain ⟨oc, od, dV, kV, doc, pm, an, cdv, ct, osl, rfl, lk, hcd, hD, hK⟩ := F.ex
  rcases hD with ⟨_, rfl⟩ | ⟨e, _⟩
  · exact ⟨fun s us ws X l1 l2 => match us, l1, ws, l2 with | [_], _, [_], _ => .of_eq rfl, fun r1 r2 => r1.append r2⟩
  · exact absurd rfl e
theorem xi_32 (c : He.SaysD fa fn K) : ∃ fd, InitF K (He.fAd K ("InvalidFacts", some "__init__")) fd "index" := by
  obtain ⟨fd, F⟩ := c.def_ 41 rfl
  refine ⟨fd, ⟨_, _, _, _, _, _, _, F, ⟨rfl, rfl, rfl, by decide +kernel, rfl, by decide +kernel, by decide +kernel⟩, .inl rfl, .inl rfl⟩, FunD.bindsN F (fun _ _ _ _ _ _ us hl => match us, hl with | [_, _], _ => rfl), ?_⟩
  obtain ⟨oc, od, dV, kV, doc, pm, an, cdv, ct, osl, rfl, lk, hcd, hD, hK⟩ := F.ex
  rcases hD with ⟨_, rfl⟩ | ⟨e, _⟩
  · exact ⟨fun s us ws X l1 l2 => match us, l1, ws, l2 with | [_], _, [_], _ => .of_eq rfl, fun r1 r2 => r1.append r2⟩
  · exact absurd rfl e
theorem xi_33 (c : He.SaysD fa fn K) : ∃ fd, InitF K (He.fAd K ("InvalidTies", some "__init__")) fd "index" := by
  obtain ⟨fd, F⟩ := c.def_ 42 rfl
  refine ⟨fd, ⟨_, _, _, _, _, _, _, F, ⟨rfl, rfl, rfl, by decide +kernel, rfl, by decide +kernel, by decide +kernel⟩, .inl rfl, .inl rfl⟩, FunD.bindsN F (fun _ _ _ _ _ _ us hl => match us, hl with | [_, _], _ => rfl), ?_⟩
  obtain ⟨oc, od, dV, kV, doc, pm, an, cdv, ct, osl, rfl, lk, hcd, hD, hK⟩ := F.ex
  rcases hD with ⟨_, rfl⟩ | ⟨e, _⟩
  · exact ⟨fun s us ws X l1 l2 => match us, l1, ws, l2 with | [_], _, [_], _ => .of_eq rfl, fun r1 r2 => r1.append r2⟩
  · exact absurd rfl e
theorem xi_34 (c : He.SaysD fa fn K) : ∃ fd, InitF K (He.fAd K ("InvalidCounts", some "__init__")) fd "index" := by
  obtain ⟨fd, F⟩ := c.def_ 43 rfl
  refine ⟨fd, ⟨_, _, _, _, _, _, _, F, ⟨rfl, rfl, rfl, by decide +kernel, rfl, by decide +kernel, by decide +kernel⟩, .inl rfl, .inl rfl⟩, FunD.bindsN F (fun _ _ _ _ _ _ us hl => match us, hl with | [_, _], _ => rfl), ?_⟩
  obtain ⟨oc, od, dV, kV, doc, pm, an, cdv, ct, osl, rfl, lk, hcd, hD, hK⟩ := F.ex
  rcases hD with ⟨_, rfl⟩ | ⟨e, _⟩
  · exact ⟨fun s us ws X l1 l2 => match us, l1, ws, l2 with | [_], _, [_], _ => .of_eq rfl, fun r1 r2 => r1.append r2⟩
  · exact absurd rfl e
theorem xi_35 (c : He.SaysD fa fn K) : ∃ fd, InitF K (He.fAd K ("InvalidWishes", some "__init__")) fd "index" := by
  obtain ⟨fd, F⟩ := c.def_ 44 rfl
  refine ⟨fd, ⟨_, _, _, _, _, _, _, F, ⟨rfl, rfl, rfl, by decide +kernel, rfl, by decide +kernel, by decide +kernel⟩, .inl rfl, .inl rfl⟩, FunD.bindsN F (fun _ _ _ _ _ _ us hl => match us, hl with | [_, _], _ => rfl), ?_⟩
  obtain ⟨oc, od, dV, kV, doc, pm, an, cdv, ct, osl, rfl, lk, hcd, hD, hK⟩ := F.ex
  rcases hD with ⟨_, rfl⟩ | ⟨e, _⟩
  · exact ⟨fun s us ws X l1 l2 => match us, l1, ws, l2 with | [_], _, [_], _ => .of_eq rfl, fun r1 r2 => r1.append r2⟩
  · exact absurd rfl e
theorem xi_36 (c : He.SaysD fa fn K) : ∃ fd, InitF K (He.fAd K ("InvalidLog", some "__init__")) fd "index" := by
  obtain ⟨fd, F⟩ := c.def_ 45 rfl
  refine ⟨fd, ⟨_, _, _, _, _, _, _, F, ⟨rfl, rfl, rfl, by decide +kernel, rfl, by decide +kernel, by decide +kernel⟩, .inl rfl, .inl rfl⟩, FunD.bindsN F (fun _ _ _ _ _ _ us hl => match us, hl with | [_, _], _ => rfl), ?_⟩
  obtain ⟨oc, od, dV, kV, doc, pm, an, cdv, ct, osl, rfl, lk, hcd, hD, hK⟩ := F.ex
  rcases hD with ⟨_, rfl⟩ | ⟨e, _⟩
  · exact ⟨fun s us ws X l1 l2 => match us, l1, ws, l2 with | [_], _, [_], _ => .of_eq rfl, fun r1 r2 => r1.append r2⟩
  · exact absurd rfl e
theorem xi_37 (c : He.SaysD fa fn K) : ∃ fd, InitF K (He.fAd K ("UnknownName", some "__init__")) fd "given" := by
  obtain ⟨fd, F⟩ := c.def_ 46 rfl
  refine ⟨fd, ⟨_, _, _, _, _, _, _, F, ⟨rfl, rfl, rfl, by decide +kernel, rfl, by decide +kernel, by decide +kernel⟩, .inl rfl, .inl rfl⟩, FunD.bindsN F (fun _ _ _ _ _ _ us hl => match us, hl with | [_, _], _ => rfl), ?_⟩
  obtain ⟨oc, od, dV, kV, doc, pm, an, cdv, ct, osl, rfl, lk, hcd, hD, hK⟩ := F.ex
  rcases hD with ⟨_, rfl⟩ | ⟨e, _⟩
  · exact ⟨fun s us ws X l1 l2 => match us, l1, ws, l2 with | [_], _, [_], _ => .of_eq rfl, fun r1 r2 => r1.append r2⟩
  · exact absurd rfl e
theorem xi_38 (c : He.SaysD fa fn K) : ∃ fd, InitF K (He.fAd K ("UnknownPlace", some "__init__")) fd "given" := by
  obtain ⟨fd, F⟩ := c.def_ 47 rfl
  refine ⟨fd, ⟨_, _, _, _, _, _, _, F, ⟨rfl, rfl, rfl, by decide +kernel, rfl, by decide +kernel, by decide +kernel⟩, .inl rfl, .inl rfl⟩, FunD.bindsN F (fun _ _ _ _ _ _ us hl => match us, hl with | [_, _], _ => rfl), ?_⟩
  obtain ⟨oc, od, dV, kV, doc, pm, an, cdv, ct, osl, rfl, lk, hcd, hD, hK⟩ := F.ex
  rcases hD with ⟨_, rfl⟩ | ⟨e, _⟩
  · exact ⟨fun s us ws X l1 l2 => match us, l1, ws, l2 with | [_], _, [_], _ => .of_eq rfl, fun r1 r2 => r1.append r2⟩
  · exact absurd rfl e
theorem xi_39 (c : He.SaysD fa fn K) : ∃ fd, InitF K (He.fAd K ("InUse", some "__init__")) fd "index" := by
  obtain ⟨fd, F⟩ := c.def_ 48 rfl
  refine ⟨fd, ⟨_, _, _, _, _, _, _, F, ⟨rfl, rfl, rfl, by decide +kernel, rfl, by decide +kernel, by decide +kernel⟩, .inl rfl, .inl rfl⟩, FunD.bindsN F (fun _ _ _ _ _ _ us hl => match us, hl with | [_, _], _ => rfl), ?_⟩
  obtain ⟨oc, od, dV, kV, doc, pm, an, cdv, ct, osl, rfl, lk, hcd, hD, hK⟩ := F.ex
  rcases hD with ⟨_, rfl⟩ | ⟨e, _⟩
  · exact ⟨fun s us ws X l1 l2 => match us, l1, ws, l2 with | [_], _, [_], _ => .of_eq rfl, fun r1 r2 => r1.append r2⟩
  · exact absurd rfl e
theorem xi_40 (c : He.SaysD fa fn K) : ∃ fd, InitF K (He.fAd K ("TooFew", some "__init__")) fd "given" := by
  obtain ⟨fd, F⟩ := c.def_ 49 rfl
  refine ⟨fd, ⟨_, _, _, _, _, _, _, F, ⟨rfl, rfl, rfl, by decide +kernel, rfl, by decide +kernel, by decide +kernel⟩, .inl rfl, .inl rfl⟩, FunD.bindsN F (fun _ _ _ _ _ _ us hl => match us, hl with | [_, _], _ => rfl), ?_⟩
  obtain ⟨oc, od, dV, kV, doc, pm, an, cdv, ct, osl, rfl, lk, hcd, hD, hK⟩ := F.ex
  rcases hD with ⟨_, rfl⟩ | ⟨e, _⟩
  · exact ⟨fun s us ws X l1 l2 => match us, l1, ws, l2 with | [_], _, [_], _ => .of_eq rfl, fun r1 r2 => r1.append r2⟩
  · exact absurd rfl e
theorem xi_41 (c : He.SaysD fa fn K) : ∃ fd, InitF K (He.fAd K ("TooMany", some "__init__")) fd "given" := by
  obtain ⟨fd, F⟩ := c.def_ 50 rfl
  refine ⟨fd, ⟨_, _, _, _, _, _, _, F, ⟨rfl, rfl, rfl, by decide +kernel, rfl, by decide +kernel, by decide +kernel⟩, .inl rfl, .inl rfl⟩, FunD.bindsN F (fun _ _ _ _ _ _ us hl => match us, hl with | [_, _], _ => rfl), ?_⟩
  obtain ⟨oc, od, dV, kV, doc, pm, an, cdv, ct, osl, rfl, lk, hcd, hD, hK⟩ := F.ex
  rcases hD with ⟨_, rfl⟩ | ⟨e, _⟩
  · exact ⟨fun s us ws X l1 l2 => match us, l1, ws, l2 with | [_], _, [_], _ => .of_eq rfl, fun r1 r2 => r1.append r2⟩
  · exact absurd rfl e
theorem xi_42 (c : He.SaysD fa fn K) : ∃ fd, InitF K (He.fAd K ("TooGreat", some "__init__")) fd "given" := by
  obtain ⟨fd, F⟩ := c.def_ 51 rfl
  refine ⟨fd, ⟨_, _, _, _, _, _, _, F, ⟨rfl, rfl, rfl, by decide +kernel, rfl, by decide +kernel, by decide +kernel⟩, .inl rfl, .inl rfl⟩, FunD.bindsN F (fun _ _ _ _ _ _ us hl => match us, hl with | [_, _], _ => rfl), ?_⟩
  obtain ⟨oc, od, dV, kV, doc, pm, an, cdv, ct, osl, rfl, lk, hcd, hD, hK⟩ := F.ex
  rcases hD with ⟨_, rfl⟩ | ⟨e, _⟩
  · exact ⟨fun s us ws X l1 l2 => match us, l1, ws, l2 with | [_], _, [_], _ => .of_eq rfl, fun r1 r2 => r1.append r2⟩
  · exact absurd rfl e
theorem xi_43 (c : He.SaysD fa fn K) : ∃ fd, InitF K (He.fAd K ("NotWhole", some "__init__")) fd "given" := by
  obtain ⟨fd, F⟩ := c.def_ 52 rfl
  refine ⟨fd, ⟨_, _, _, _, _, _, _, F, ⟨rfl, rfl, rfl, by decide +kernel, rfl, by decide +kernel, by decide +kernel⟩, .inl rfl, .inl rfl⟩, FunD.bindsN F (fun _ _ _ _ _ _ us hl => match us, hl with | [_, _], _ => rfl), ?_⟩
  obtain ⟨oc, od, dV, kV, doc, pm, an, cdv, ct, osl, rfl, lk, hcd, hD, hK⟩ := F.ex
  rcases hD with ⟨_, rfl⟩ | ⟨e, _⟩
  · exact ⟨fun s us ws X l1 l2 => match us, l1, ws, l2 with | [_], _, [_], _ => .of_eq rfl, fun r1 r2 => r1.append r2⟩
  · exact absurd rfl e
theorem xi_44 (c : He.SaysD fa fn K) : ∃ fd, InitF K (He.fAd K ("NotJoined", some "__init__")) fd "given" := by
  obtain ⟨fd, F⟩ := c.def_ 53 rfl
  refine ⟨fd, ⟨_, _, _, _, _, _, _, F, ⟨rfl, rfl, rfl, by decide +kernel, rfl, by decide +kernel, by decide +kernel⟩, .inl rfl, .inl rfl⟩, FunD.bindsN F (fun _ _ _ _ _ _ us hl => match us, hl with | [_, _], _ => rfl), ?_⟩
  obtain ⟨oc, od, dV, kV, doc, pm, an, cdv, ct, osl, rfl, lk, hcd, hD, hK⟩ := F.ex
  rcases hD with ⟨_, rfl⟩ | ⟨e, _⟩
  · exact ⟨fun s us ws X l1 l2 => match us, l1, ws, l2 with | [_], _, [_], _ => .of_eq rfl, fun r1 r2 => r1.append r2⟩
  · exact absurd rfl e
theorem xi_45 (c : He.SaysD fa fn K) : ∃ fd, InitF K (He.fAd K ("Narrow", some "__init__")) fd "given" := by
  obtain ⟨fd, F⟩ := c.def_ 54 rfl
  refine ⟨fd, ⟨_, _, _, _, _, _, _, F, ⟨rfl, rfl, rfl, by decide +kernel, rfl, by decide +kernel, by decide +kernel⟩, .inl rfl, .inl rfl⟩, FunD.bindsN F (fun _ _ _ _ _ _ us hl => match us, hl with | [_, _], _ => rfl), ?_⟩
  obtain ⟨oc, od, dV, kV, doc, pm, an, cdv, ct, osl, rfl, lk, hcd, hD, hK⟩ := F.ex
  rcases hD with ⟨_, rfl⟩ | ⟨e, _⟩
  · exact ⟨fun s us ws X l1 l2 => match us, l1, ws, l2 with | [_], _, [_], _ => .of_eq rfl, fun r1 r2 => r1.append r2⟩
  · exact absurd rfl e
theorem xi_50 (c : He.SaysD fa fn K) : ∃ fd, InitF K (He.fAd K ("Broken", some "__init__")) fd "index" := by
  obtain ⟨fd, F⟩ := c.def_ 55 rfl
  refine ⟨fd, ⟨_, _, _, _, _, _, _, F, ⟨rfl, rfl, rfl, by decide +kernel, rfl, by decide +kernel, by decide +kernel⟩, .inl rfl, .inl rfl⟩, FunD.bindsN F (fun _ _ _ _ _ _ us hl => match us, hl with | [_, _], _ => rfl), ?_⟩
  obtain ⟨oc, od, dV, kV, doc, pm, an, cdv, ct, osl, rfl, lk, hcd, hD, hK⟩ := F.ex
  rcases hD with ⟨_, rfl⟩ | ⟨e, _⟩
  · exact ⟨fun s us ws X l1 l2 => match us, l1, ws, l2 with | [_], _, [_], _ => .of_eq rfl, fun r1 r2 => r1.append r2⟩
  · exact absurd rfl e
theorem xi_ok (c : He.SaysD fa fn K) : ∀ (n : Nat) (f : Str), n < 51 → kd n = some f → ∃ fd, InitF K (He.ma K (cA K n) "__init__") fd f
  | 0, _, _, e => by cases e; exact xi_0 c
  | 1, _, _, e => by cases e; exact xi_1 c
  | 2, _, _, e => by cases e; exact xi_2 c
  | 3, _, _, e => by cases e; exact xi_3 c
  | 4, _, _, e => by cases e; exact xi_4 c
  | 5, _, _, e => by cases e; exact xi_5 c
  | 6, _, _, e => by cases e; exact xi_6 c
  | 7, _, _, e => by cases e; exact xi_7 c
  | 8, _, _, e => by cases e; exact xi_8 c
  | 9, _, _, e => by cases e; exact xi_9 c
  | 10, _, _, e => by cases e; exact xi_10 c
  | 11, _, _, e => by cases e; exact xi_11 c
  | 12, _, _, e => by cases e; exact xi_12 c
  | 13, _, _, e => by cases e; exact xi_13 c
  | 14, _, _, e => by cases e; exact xi_14 c
  | 15, _, _, e => by cases e; exact xi_15 c
  | 16, _, _, e => by cases e; exact xi_16 c
  | 17, _, _, e => by cases e; exact xi_17 c
  | 18, _, _, e => by cases e; exact xi_18 c
  | 19, _, _, e => by cases e; exact xi_19 c
  | 20, _, _, e => by cases e; exact xi_20 c
  | 21, _, _, e => by cases e; exact xi_21 c
  | 22, _, _, e => by cases e; exact xi_22 c
  | 23, _, _, e => by cases e; exact xi_23 c
  | 24, _, _, e => by cases e; exact xi_24 c
  | 25, _, _, e => by cases e; exact xi_25 c
  | 26, _, _, e => by cases e; exact xi_26 c
  | 27, _, _, e => by cases e; exact xi_27 c
  | 28, _, _, e => by cases e; exact xi_28 c
  | 29, _, _, e => by cases e; exact xi_29 c
  | 30, _, _, e => by cases e; exact xi_30 c
  | 31, _, _, e => by cases e; exact xi_31 c
  | 32, _, _, e => by cases e; exact xi_32 c
  | 33, _, _, e => by cases e; exact xi_33 c
  | 34, _, _, e => by cases e; exact xi_34 c
  | 35, _, _, e => by cases e; exact xi_35 c
  | 36, _, _, e => by cases e; exact xi_36 c
  | 37, _, _, e => by cases e; exact xi_37 c
  | 38, _, _, e => by cases e; exact xi_38 c
  | 39, _, _, e => by cases e; exact xi_39 c
  | 40, _, _, e => by cases e; exact xi_40 c
  | 41, _, _, e => by cases e; exact xi_41 c
  | 42, _, _, e => by cases e; exact xi_42 c
  | 43, _, _, e => by cases e; exact xi_43 c
  | 44, _, _, e => by cases e; exact xi_44 c
  | 45, _, _, e => by cases e; exact xi_45 c
  | 46, _, _, e => by cases e
  | 47, _, _, e => by cases e
  | 48, _, _, e => by cases e
  | 49, _, _, e => by cases e
  | 50, _, _, e => by cases e; exact xi_50 c
  | n + 51, _, z, _ => absurd z (by omega)
theorem one_cls (c : ex K = true) (n : Nat) (hn : n < 51) : clB K (cA K n) (He.ga K (wN n)) (bmN n) (nN n) (kd n) = true := List.all_eq_true.mp (Bool.and_eq_true_iff.mp c).1 n (List.mem_range.mpr hn)
structure ClsF (K : PySem.W.Frag) (n : Nat) : Prop where
  e : ExcC K (cA K n)
  ng : PySem.W.findIn K (.ref (cA K n)) "given" = some none
  ni : PySem.W.findIn K (.ref (cA K n)) "index" = some none
  m : ∃ cd, PySem.W.clsIn K (cA K n) = some cd ∧ cd.mro = .ref (cA K n) :: .ref (He.ga K (wN n)) :: bmN n
  t : clsTB K (cA K n) = true
  i : ∀ f, kd n = some f → OexG K (cA K n) (bmN n) (nN n) ∧ PySem.W.takerIn K (cA K n) f = some none ∧ PySem.W.findIn K (.ref (cA K n)) "__init__" = some (some (.ref (He.ma K (cA K n) "__init__"))) ∧ PySem.W.typeIn K (.ref (He.ma K (cA K n) "__init__")) = some (.type "function")
  z : kd n = none → PySem.W.excIn K (cA K n) (bmN n) (nN n) = true ∧ PySem.W.keepIn K (.ref (cA K n)) = true
theorem clsF_ok (c : ex K = true) (n : Nat) (hn : n < 51) : ClsF K n := by
  have h := one_cls c n hn
  obtain ⟨h1, h⟩ := Bool.and_eq_true_iff.mp h
  obtain ⟨h2, h⟩ := Bool.and_eq_true_iff.mp h
  obtain ⟨h3, h⟩ := Bool.and_eq_true_iff.mp h
  obtain ⟨h4, h⟩ := Bool.and_eq_true_iff.mp h
  obtain ⟨h5, h⟩ := Bool.and_eq_true_iff.mp h
  have E := excCB_ok h1
  refine ⟨E, He.eqO_ok h2, He.eqO_ok h3, mroB_ok h4, h5, fun f hf => ?_, fun hf => ?_⟩
  · rw [hf] at h
    obtain ⟨k1, h⟩ := Bool.and_eq_true_iff.mp (show oexGB K (cA K n) (bmN n) (nN n) f = true from h)
    obtain ⟨k2, h⟩ := Bool.and_eq_true_iff.mp h
    obtain ⟨k3, h⟩ := Bool.and_eq_true_iff.mp h
    obtain ⟨k4, h⟩ := Bool.and_eq_true_iff.mp h
    obtain ⟨k5, h⟩ := Bool.and_eq_true_iff.mp h
    obtain ⟨k6, k7⟩ := Bool.and_eq_true_iff.mp h
    exact ⟨⟨k1, k2, He.eqO_ok k3, E.hd, k4⟩, He.eqO_ok k5, He.eqO_ok k6, of_decide_eq_true k7⟩
  · rw [hf] at h
    exact Bool.and_eq_true_iff.mp h
theorem ne_cls (c : ex K = true) {n m : Nat} (hn : n < 51) (hm : m < 51) (h : n ≠ m) : cA K n ≠ cA K m := by
  have p := inc_pw _ (Bool.and_eq_true_iff.mp (Bool.and_eq_true_iff.mp c).2).1
  have p2 := List.pairwise_iff_getElem.mp p
  have len : ((List.range 51).map (cA K)).length = 51 := by rw [List.length_map, List.length_range]
  have lt : ∀ a b, a < 51 → b < 51 → a < b → cA K a < cA K b := fun a b ha hb hab => by
    have z := p2 a b (by omega) (by omega) hab
    rw [List.getElem_map, List.getElem_map, List.getElem_range, List.getElem_range] at z
    exact z
  rcases Nat.lt_or_gt_of_ne h with q | q
  · exact Nat.ne_of_lt (lt n m hn hm q)
  · exact (Nat.ne_of_lt (lt m n hm hn q)).symm
theorem ne_base (c : ex K = true) {n i : Nat} (hn : n < 51) (hi : i < 3) : cA K n ≠ cbA K i := by
  have z := List.all_eq_true.mp (List.all_eq_true.mp (Bool.and_eq_true_iff.mp (Bool.and_eq_true_iff.mp (Bool.and_eq_true_iff.mp (Bool.and_eq_true_iff.mp c).2).2).2).1 n (List.mem_range.mpr hn)) i (List.mem_range.mpr hi)
  intro e
  rw [e, Nat.beq_refl] at z
  cases z
theorem base_cls (c : ex K = true) {i : Nat} (hi : i < 3) : clsTB K (cbA K i) = true := List.all_eq_true.mp (Bool.and_eq_true_iff.mp (Bool.and_eq_true_iff.mp (Bool.and_eq_true_iff.mp c).2).2).1 i (List.mem_range.mpr hi)
theorem ne_bases (c : ex K = true) : cbA K 0 < cbA K 1 ∧ cbA K 1 < cbA K 2 := by
  have z := (Bool.and_eq_true_iff.mp (Bool.and_eq_true_iff.mp (Bool.and_eq_true_iff.mp (Bool.and_eq_true_iff.mp c).2).2).2).2
  obtain ⟨z1, z2⟩ := Bool.and_eq_true_iff.mp (show (Nat.blt (cbA K 0) (cbA K 1) && incB [cbA K 1, cbA K 2]) = true from z)
  obtain ⟨z3, _⟩ := Bool.and_eq_true_iff.mp (show (Nat.blt (cbA K 1) (cbA K 2) && incB [cbA K 2]) = true from z2)
  exact ⟨Nat.le_of_ble_eq_true z1, Nat.le_of_ble_eq_true z3⟩
theorem ref_beq (a b : Addr) : ((Value.ref a) == (Value.ref b)) = decide (a = b) := by
  by_cases h : a = b
  · rw [h, decide_eq_true rfl, beq_self_eq_true]
  · rw [decide_eq_false h]
    exact beq_eq_false_iff_ne.mpr fun e => h (Value.ref.inj e)
theorem ref_ty (a : Addr) (T : String) : ((Value.ref a) == (Value.type T)) = false := beq_eq_false_iff_ne.mpr fun e => nomatch e
theorem ty_ref (a : Addr) (T : String) : ((Value.type T) == (Value.ref a)) = false := beq_eq_false_iff_ne.mpr fun e => nomatch e
theorem has_ref (C W D : Addr) (n : Nat) : (Value.ref C :: Value.ref W :: bmN n).contains (.ref D) = (decide (D = C) || decide (D = W)) := by
  unfold bmN
  rw [List.contains_cons, List.contains_cons, List.contains_cons, List.contains_cons, List.contains_cons, List.contains_cons, ref_beq, ref_beq, ref_ty, ref_ty, ref_ty, ref_ty]
  simp
theorem has_ty (C W : Addr) (n : Nat) (T : String) : (Value.ref C :: Value.ref W :: bmN n).contains (.type T) = (bmN n).contains (.type T) := by
  rw [List.contains_cons, List.contains_cons, ty_ref, ty_ref, Bool.false_or, Bool.false_or]
theorem w_base (n : Nat) : He.ga K (wN n) = cbA K (if n < 37 then 0 else if n < 40 then 1 else 2) := by
  unfold wN
  by_cases h1 : n < 37
  · rw [if_pos h1, if_pos h1]
    rfl
  · rw [if_neg h1, if_neg h1]
    by_cases h2 : n < 40
    · rw [if_pos h2, if_pos h2]
      rfl
    · rw [if_neg h2, if_neg h2]
      rfl
theorem exf_ok (c : ex K = true) : ExcFacts K (cA K) := by
  refine ⟨fun n hn => (clsF_ok c n hn).e, fun n hn => ?_, fun n hn => ⟨(clsF_ok c n hn).ng, (clsF_ok c n hn).ni⟩, fun n m hn hm => ?_⟩
  · have E := (clsF_ok c n hn).e
    exact ⟨E.hg, E.hk, E.hs, E.hd⟩
  · obtain ⟨cd, h1, h2⟩ := (clsF_ok c n hn).m
    rw [kit_mro h1 h2 (clsF_ok c m hm).t, has_ref, w_base]
    have nb : cA K m ≠ cbA K (if n < 37 then 0 else if n < 40 then 1 else 2) := ne_base c hm (by split; decide; split <;> decide)
    rw [decide_eq_false nb, Bool.or_false]
    by_cases e : n = m
    · subst e
      rw [decide_eq_true rfl, beq_self_eq_true]
    · rw [decide_eq_false (ne_cls c hm hn (Ne.symm e)), beq_eq_false_iff_ne.mpr e]
theorem kit_base (c : ex K = true) {n i : Nat} (hn : n < 51) (hi : i < 3) : PySem.W.kitOne K (.ref (cA K n)) (.ref (cbA K i)) = some (decide (i = if n < 37 then 0 else if n < 40 then 1 else 2)) := by
  obtain ⟨cd, h1, h2⟩ := (clsF_ok c n hn).m
  rw [kit_mro h1 h2 (base_cls c hi), has_ref, w_base, decide_eq_false (ne_base c hn hi).symm, Bool.false_or]
  obtain ⟨l1, l2⟩ := ne_bases c
  have key : ∀ j, j < 3 → (cbA K i = cbA K j ↔ i = j) := fun j hj => by
    constructor
    · intro e
      match i, hi, j, hj with
      | 0, _, 0, _ => rfl
      | 1, _, 1, _ => rfl
      | 2, _, 2, _ => rfl
      | 0, _, 1, _ => exact absurd e (Nat.ne_of_lt l1)
      | 0, _, 2, _ => exact absurd e (Nat.ne_of_lt (Nat.lt_trans l1 l2))
      | 1, _, 0, _ => exact absurd e (Nat.ne_of_gt l1)
      | 1, _, 2, _ => exact absurd e (Nat.ne_of_lt l2)
      | 2, _, 0, _ => exact absurd e (Nat.ne_of_gt (Nat.lt_trans l1 l2))
      | 2, _, 1, _ => exact absurd e (Nat.ne_of_gt l2)
    · rintro rfl
      rfl
  rw [decide_eq_decide.mpr (key _ (by split; decide; split <;> decide))]
theorem kit_ty (c : ex K = true) {n : Nat} (hn : n < 51) {T : String} (hT : PySem.W.kitMeta T = true) : PySem.W.kitOne K (.ref (cA K n)) (.type T) = some ((bmN n).contains (.type T)) := by
  obtain ⟨cd, h1, h2⟩ := (clsF_ok c n hn).m
  rw [kit_mroT h1 h2 hT, has_ty]
theorem k_val : ∀ n, n < 51 → (bmN n).contains (.type "ValueError") = decide (n < 37) ∧ (bmN n).contains (.type "LookupError") = (decide (37 ≤ n) && decide (n < 40)) ∧ (bmN n).contains (.type "ArithmeticError") = decide (40 ≤ n) ∧
    decide (0 = if n < 37 then 0 else if n < 40 then 1 else 2) = decide (n < 37) ∧ decide (1 = if n < 37 then 0 else if n < 40 then 1 else 2) = (decide (37 ≤ n) && decide (n < 40)) ∧ decide (2 = if n < 37 then 0 else if n < 40 then 1 else 2) = decide (40 ≤ n) := by decide +kernel
theorem kd_plain (n : Nat) (f : Str) (hn : n < 51) (h : kd n = some f) : (f == ("__debug__" : Str)) = false ∧ (f == ("__classdict__" : Str)) = false := by
  have z : f = "given" ∨ f = "index" := by
    unfold kd at h
    repeat' split at h
    all_goals first
      | (cases h; exact .inl rfl)
      | (cases h; exact .inr rfl)
      | cases h
  rcases z with rfl | rfl
  · exact ⟨rfl, rfl⟩
  · exact ⟨rfl, rfl⟩
theorem base_ok (X : K.In h) (G : h.Ns mainGlobals mg) (c : He.SaysD fa fn K) (ce : ex K = true) : BaseFacts K mg (cA K) (cbA K) where
  g0 := He.glo_ok X G (c.fact 60 rfl)
  g1 := He.glo_ok X G (c.fact 61 rfl)
  g2 := He.glo_ok X G (c.fact 62 rfl)
  k0 := fun n hn => by rw [kit_base ce hn (by decide), (k_val n hn).2.2.2.1]
  k1 := fun n hn => by rw [kit_base ce hn (by decide), (k_val n hn).2.2.2.2.1]
  k2 := fun n hn => by rw [kit_base ce hn (by decide), (k_val n hn).2.2.2.2.2]
  k3 := fun n hn => by rw [kit_ty ce hn (by decide +kernel), (k_val n hn).1]
  k4 := fun n hn => by rw [kit_ty ce hn (by decide +kernel), (k_val n hn).2.1]
  k5 := fun n hn => by rw [kit_ty ce hn (by decide +kernel), (k_val n hn).2.2.1]
theorem xk_ok {base : Heap} (X : K.In h) (G : h.Ns mainGlobals mg) (c : He.SaysD fa fn K) (ce : ex K = true) (n : Nat) (f : Str) (hn : n < 51) (hf : kd n = some f) : XK P w K mg base (cA K) n f := by
  obtain ⟨fd, I⟩ := xi_ok c n f hn hf
  obtain ⟨i, FB, SF⟩ := base_facts n
  obtain ⟨T, ht, hi, hy⟩ := (clsF_ok ce n hn).i f hf
  obtain ⟨q, pr, sc, p1, p2, p3, p4, F, S, v1, v2⟩ := I.F
  have d1 : (f == ("__debug__" : Str)) = false ∧ (f == ("__classdict__" : Str)) = false := (show ∀ n f, n < 51 → kd n = some f → (f == ("__debug__" : Str)) = false ∧ (f == ("__classdict__" : Str)) = false from kd_plain) n f hn hf
  exact ⟨_, _, i, _, _, fd, FB, ⟨T, cls_ok X G c n hn, hi, hy, I.b, I.kb⟩, ok_xi SF T ht S v1 v2 d1.1 d1.2 F⟩
theorem x0_ok (X : K.In h) (G : h.Ns mainGlobals mg) (c : He.SaysD fa fn K) (ce : ex K = true) (n : Nat) (hn : n < 51) (hf : kd n = none) : X0 K mg (cA K) n := by
  obtain ⟨i, FB, _⟩ := base_facts n
  obtain ⟨h1, h2⟩ := (clsF_ok ce n hn).z hf
  exact ⟨_, _, i, _, FB, h1, cls_ok X G c n hn, h2⟩
theorem law_at (X : K.In h) (G : h.Ns mainGlobals mg) (c : He.SaysD fa fn K) (ce : ex K = true) : LawAtG PySem.Challenge.rw_cornersure_k01_limits_and_errors w K 6 63 "_law_script" mg h := by
  obtain ⟨fd, F⟩ := c.def_ 8 rfl
  have b := FunD.bindsA (ps := ["_law_script"]) F (fun _ _ _ _ _ _ us hl => match us, hl with | [_], _ => rfl)
  refine ⟨_, fd, [], SpLaw K, He.glo_ok X G (c.fact 8 rfl), fun p hp => (List.not_mem_nil hp).elim, fun p hp => (List.not_mem_nil hp).elim, fun p hp => (List.not_mem_nil hp).elim, fun s v => b s [v] rfl, fun H a ns hl _ hT hS => ?_, fun base KB NB TBs => ?_⟩
  · exact ⟨a, ns, rfl, hS, by omega, fun _ => rfl⟩
  · have T : Txt mg := txt_ok X G c
    have EF := exf_ok ce
    have BF := base_ok X G c ce
    have HX : ∀ n f, n < 51 → kd n = some f → XK PySem.Challenge.rw_cornersure_k01_limits_and_errors.prog w K mg base (cA K) n f := fun n f => xk_ok X G c ce n f
    have H0 : ∀ n, n < 51 → kd n = none → X0 K mg (cA K) n := fun n => x0_ok X G c ce n
    have cscoop := ok__law_scoop (P := PySem.Challenge.rw_cornersure_k01_limits_and_errors.prog) (w := w) (base := base) (at__law_scoop X G c) T
    have cany := ok__law_any (at__law_any X G c) T cscoop
    have cpail := ok__law_pail (P := PySem.Challenge.rw_cornersure_k01_limits_and_errors.prog) (w := w) (base := base) (at__law_pail X G c) T
    have cgiven := ok__law_given (at__law_given X G c) HX
    have cplaced := ok__law_placed (at__law_placed X G c) HX
    have cone := ok__law_one_of (P := PySem.Challenge.rw_cornersure_k01_limits_and_errors.prog) (w := w) (base := base) (at__law_one_of X G c) T EF (cls_ok X G c) BF
    have cbas := ok__law_bases (P := PySem.Challenge.rw_cornersure_k01_limits_and_errors.prog) (w := w) (base := base) (at__law_bases X G c) T EF (cls_ok X G c) BF
    have cright := ok__law_right (at__law_right X G c) T EF HX H0 cscoop cany cgiven cplaced cone cbas
    exact ok_law F T cright cpail
end
end Cs
set_option maxHeartbeats 0
open PySem PySem.W PySem.Calls PyProof.Rows
theorem PySem.Challenge.cw_cornersure_k01_limits_and_errors_holds : PySem.Challenge.rw_cornersure_k01_limits_and_errors.Holds := by
  w_on; o_law
  refine HandSHeadRun.head_any (r := OpenLaw.row PySem.Challenge.rw_cornersure_k01_limits_and_errors) (q := view (OpenLaw.row PySem.Challenge.rw_cornersure_k01_limits_and_errors).prog [76]) (H := Cs.hk) (ob := Cs.ob) (M := 20000) (loose := Cs.loose) (d := HandSHeadRun.topDef (OpenLaw.row PySem.Challenge.rw_cornersure_k01_limits_and_errors).prog 76) (kwd := []) Cs.ob_eq
    (by kernel_rfl) (fun s => by kernel_rfl) Cs.run (by kernel_rfl) (by kernel_rfl) (by kernel_rfl) (by rfl) (by first | assumption | decide +kernel) (by decide +kernel) ⟨rfl, rfl, rfl, rfl, rfl, by decide +kernel⟩ ?hw ?hc
  case hw => w_witness2
  case hc =>
    refine Cs.walk_ofG (l := PySem.Challenge.rw_cornersure_k01_limits_and_errors) (n := 63) (k := 6) (x := "_law_script") rfl (by decide) (by kernel_rfl) (by kernel_rfl) ⟨rfl, by decide, by decide⟩ ?F
    intro w mg h Y G _
    obtain ⟨K, KX, c, ce⟩ := Y
    exact ⟨K, KX, Cs.law_at KX G c ce⟩
