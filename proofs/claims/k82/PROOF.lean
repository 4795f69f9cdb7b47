import PyProof.Rows.All
import Wide.All
import OpenK.AllK
import Wide.FinOn
import HandS.ForMost
import HandS.IsInst
import HandS.TupAny
import HandS.TupMul
import HandS.Wide
import HandS.Codes
import HandS.DictComp
import HandS.Walk
import HandS.Zip
import HandS.Deep
import HandS.MakeKwOnly
import HandS.SortRule
import HandS.SortInts
import HandS.TupSets
import HandS.CallRecv
import HandS.ExcInit
import HandS.ClsMeth
import HandS.ExcField
import HandS.TryMany
import HandS.Lambda
import HandS.ExcIs
import HandS.WordsExc
import HandS.Style
import HandS.Strs
import HandS.EndOwn
import KE.KStateDown
import KE.KNest
import KE.KNestM
import HandS.Defaults
import HandS.Head0
import HandS.Head1
import HandS.Head2
import HandS.HeadHook1
import HandS.HeadHook2
import HandS.HeadHook3
import HandS.HeadHook4
import HandS.HeadWalk
import KE.GoesMore
import KE.KExcInit
import KE.KExcIs
import HandS.ExcValue
import HandS.OwnEq
import HandS.Nested
import HandS.Zip
import KE.KDictZip
import HandS.Text
import HandS.Deep
import HandS.Conv
import HandS.SortInts
import HandS.Star
import KE.KUnpackStar
import PySem.Challenge.RW_tearboard_k82_two_full_pads_and_long_row
set_option Elab.async false
set_option linter.all false
set_option maxRecDepth 100000
set_option maxHeartbeats 4000000
namespace TB
open PySem PySem.Spec PyProof.Rows L2
def topS (i : Nat) : Stmt := PySem.Challenge.pw_tearboard_k82_two_full_pads_and_long_row.main.body.getD i (.Pass ⟨0, 0, 0, 0⟩)
/-! ### the top is run -/
def dOf (a : Str × Option Str) (nm q : Str) (st : Stmt) (dfl : List He.Dv) (kwd : List (Str × He.Dv)) : He.DefD := ⟨a, nm, q, defArgs st, defBody st, defScope st, dfl, kwd⟩
def frN (n : Nat) (k : Nat → Bool) : Bool := match n with
  | 0 => k 0
  | m + 1 => k (m + 1)
def frL : List Addr → (List Addr → Bool) → Bool
  | [], k => k []
  | a :: r, k => frN a fun a => frL r fun r => k (a :: r)
def isNw (nw : String) : List (Option Value) → Bool
  | [_, _, _, _, some (.builtin z), _] => decide (z = nw)
  | _ => false
abbrev excT (B : String) : List Value := [.type B, .type "Exception", .type "BaseException", .type "object"]
/-- a class of refusals at C under the class at CB, which stands over the built-in B -/
def oexB (K : PySem.W.Frag) (C CB : Addr) (B nw : String) : Bool := (match K.lookup C with
  | some ⟨.type t, _, .cls cd, sl⟩ => decide (t = "type") && (decide (cd.mro = .ref C :: .ref CB :: excT B) && (cd.hasDict && (!cd.hasDel && isNw nw sl.toList)))
  | _ => false) && (He.eqO (PySem.W.findIn K (.ref C) "__setattr__") (some (some (.builtin "object.__setattr__"))) && (decide (PySem.W.subIn K (.ref C) (.type "BaseException") = some true) && (decide (PySem.W.typeIn K (.ref C) = some (.type "type")) && PySem.W.keepIn K (.ref C))))
def cfnB (K : PySem.W.Frag) (C g : Addr) : Bool := PySem.W.readsIn K C (.type "type") && (He.eqO (PySem.W.specialIn K (.ref C) "__getattribute__") (some (some (.builtin "type.__getattribute__"))) && ((match PySem.W.findCls K (.ref C) (.type "type") "__init__" with
  | some (.val (.ref a)) => decide (a = g)
  | _ => false) && PySem.W.keepIn K (.ref g)))
/-- all that is looked at of the class x, under b, with these fields -/
def leafB (K : PySem.W.Frag) (x b : Str) (B nw : String) (fl : List Str) : Bool := frN (He.ga K x) fun C => frN (He.ga K b) fun CB => oexB K C CB B nw && (cfnB K CB (He.ma K CB "__init__") && (He.eqO (PySem.W.findIn K (.ref C) "__init__") (some (some (.ref (He.ma K C "__init__")))) &&
  (decide (PySem.W.typeIn K (.ref (He.ma K C "__init__")) = some (.type "function")) && (("word" : Str) :: fl).all fun f => He.eqO (PySem.W.findIn K (.ref C) f) (some none))))
abbrev sPull : Stmt := topS 127
abbrev sBag : Stmt := topS 126
abbrev sLike : Stmt := topS 128
abbrev sI_TearError : Stmt := inClass (topS 2) 0
abbrev sI_Missing : Stmt := inClass (topS 26) 0
abbrev sI_NoFigure : Stmt := inClass (topS 28) 0
abbrev sI_NoPad : Stmt := inClass (topS 27) 0
abbrev sI_BadRow : Stmt := inClass (topS 11) 0
abbrev sI_Full : Stmt := inClass (topS 14) 0
abbrev sI_BadColours : Stmt := inClass (topS 3) 0
abbrev sI_Meeting : Stmt := inClass (topS 5) 0
abbrev sI_TooMany : Stmt := inClass (topS 6) 0
def rNms : List Str := ["BadColours", "BadFigure", "Meeting", "TooMany", "TooFar", "BadOrder", "OtherColours", "OtherBook", "BadRow", "BadNote", "BadBeneath", "Full", "NoEnd", "NotStanding", "NeverClear", "BadDeed", "BadNumber", "NoBeginning", "Barred", "BadHeights", "BadWeights", "NoMean", "BadText", "NoPad", "NoFigure", "NoNote", "NothingBack", "NothingAgain"]
def rFls : List (List Str) := [["at"], ["at"], ["one", "other"], ["most"], ["most"], [], [], [], ["at"], ["note"], [], ["pad"], ["pad"], ["figure"], ["pad"], [], ["number"], [], ["pad"], ["at"], ["at"], [], ["at"], ["pad"], ["figure"], ["depth"], [], []]
def rFl (i : Nat) : List Str := rFls.getD i []
abbrev sTried : Stmt := topS 129
def refsB (K : PySem.W.Frag) : Bool := frL (rNms.map (He.ga K)) fun cs => (List.range 28).all fun i => frN (cs.getD i 0) fun C => xfB K C && ((("word" : Str) :: rFl i).all fun f => He.eqO (PySem.W.findIn K (.ref C) f) (some none)) &&
  (List.range 28).all fun j => decide (PySem.W.exmOne K (.ref C) (.ref (cs.getD j 0)) = some (decide (i = j)))
abbrev sIs : Stmt := topS 130
abbrev sReps : Stmt := topS 78
abbrev sShort : Stmt := topS 77
abbrev sSpare : Stmt := topS 79
abbrev sLR : Stmt := topS 74
abbrev sPadsOf : Stmt := topS 45
abbrev sMask : Stmt := topS 46
abbrev sBar : Stmt := topS 48
abbrev sIsTri : Stmt := topS 42
abbrev sIsFig : Stmt := topS 41
abbrev sCCol : Stmt := topS 39
abbrev sCFig : Stmt := topS 40
abbrev sCMeet : Stmt := topS 43
abbrev sCopyF : Stmt := topS 44
abbrev sInit : Stmt := inClass (topS 38) 0
abbrev sPadsM : Stmt := inClass (topS 38) 2
abbrev sShpX : Stmt := inClass (topS 38) 4
abbrev sCols : Stmt := inClass (topS 38) 1
/-- the greatest of the numbers, 0 of none -/
def top0 : List Nat → Nat
  | [] => 0
  | x :: xs => max x (top0 xs)
/-- what lies: the pads of each figure and its level -/
abbrev Lain : Type := List (List Int × Nat)
/-- one above the highest figure that meets these pads -/
def figH (d : Lain) (ps : List Int) : Nat := top0 ((d.filter fun e => e.1.any fun p => decide (p ∈ ps)).map fun e => e.2 + 1)
/-- pd: the pads of a figure -/
def lay (pd : Int → List Int) (row : List Int) : Lain := row.foldl (fun d x => d ++ [(pd x, figH d (pd x))]) []
abbrev sTiers : Stmt := topS 56
abbrev sHInit : Stmt := inClass (topS 55) 0
abbrev sHBook : Stmt := inClass (topS 55) 1
def emptyB (K : PySem.W.Frag) (a : Addr) : Bool := match K.lookup a with
  | some ⟨.type c, _, .seq its _, _⟩ => decide (c = "tuple") && decide (its.size = 0)
  | _ => false
/-- the first default of a method -/
def dflOf (K : PySem.W.Frag) (C m : Str) : Addr := match K.lookup (He.ma K (He.ga K C) m) with
  | some ⟨_, _, .func fd, _⟩ => (match fd.defaults with
    | .ref T => (match K.lookup T with
      | some ⟨_, _, .seq its _, _⟩ => (match its.toList with
        | .ref a :: _ => a
        | _ => 0)
      | _ => 0)
    | _ => 0)
  | _ => 0
def emptyH (K : PySem.W.Frag) : Addr := dflOf K "Heap" "__init__"
/-- the default of Book's figures -/
def emptyT (K : PySem.W.Frag) : Addr := match K.lookup (He.ma K (He.ga K "Book") "__init__") with
  | some ⟨_, _, .func fd, _⟩ => (match fd.kwdefaults with
    | .ref D => (match PySem.W.nsIn K D "figures" with
      | some (some (.ref a)) => a
      | _ => 0)
    | _ => 0)
  | _ => 0
abbrev sAn : Stmt := topS 114
abbrev sCr : Stmt := topS 111
abbrev sLrs : Stmt := topS 110
abbrev sWInit : Stmt := inClass (topS 84) 0
abbrev sBoSt : Stmt := inClass (topS 122) 14
abbrev sBoIn : Stmt := inClass (topS 122) 0
abbrev sBoRw : Stmt := inClass (topS 122) 18
def kindL : List (Str × Int) := [("put", 3), ("write", 3), ("change", 4), ("reset", 4), ("lay", 3), ("tear", 2), ("sweep", 1), ("settle", 1)]
abbrev sRbd : Stmt := topS 91
abbrev sKbd : Stmt := topS 92
abbrev sStp : Stmt := inClass (topS 122) 11
abbrev sAll : Stmt := inClass (topS 122) 10
abbrev sDo : Stmt := inClass (topS 122) 9
abbrev sCpd : Stmt := topS 112
abbrev sWr : Stmt := topS 108
abbrev sTpd : Stmt := topS 109
abbrev sIst : Stmt := topS 102
abbrev sLyn : Stmt := topS 101
abbrev sLay : Stmt := topS 100
abbrev sRst : Stmt := topS 99
abbrev sBLy : Stmt := inClass (topS 122) 5
abbrev sHei : Stmt := inClass (topS 122) 20
abbrev sTF : Stmt := topS 131
abbrev sLG : Stmt := topS 132
abbrev sLaw : Stmt := topS 133
/-- what a table of the top gives for a word is the def of that name -/
def nsB (K : PySem.W.Frag) (t x f : Str) : Bool := He.eqO (PySem.W.nsIn K (He.ga K t) x) (some (some (.ref (He.ga K f))))
/-- a tuple of the top whose members are pairs of a text and a number -/
def strI : Value → Str → Bool
  | .str x _, y => decide (x = y)
  | _, _ => false
def intI : Value → Int → Bool
  | .int x _, y => decide (x = y)
  | _, _ => false
def twoB : List Value → Str × Int → Bool
  | [x, y], q => strI x q.1 && intI y q.2
  | _, _ => false
def pairB (K : PySem.W.Frag) (v : Value) (q : Str × Int) : Bool := match v with
  | .ref a => (match K.lookup a with
    | some ⟨.type c, _, .seq its _, _⟩ => decide (c = "tuple") && (decide (its.size ≤ 1000) && twoB its.toList q)
    | _ => false)
  | _ => false
def pairsB (K : PySem.W.Frag) : List Value → List (Str × Int) → Bool
  | [], [] => true
  | v :: vs, q :: qs => pairB K v q && pairsB K vs qs
  | _, _ => false
def kindsB (K : PySem.W.Frag) (a : Addr) (qs : List (Str × Int)) : Bool := match K.lookup a with
  | some ⟨.type c, _, .seq its _, _⟩ => decide (c = "tuple") && (decide (its.size ≤ 1000) && pairsB K its.toList qs)
  | _ => false
abbrev sI_BadBeneath : Stmt := inClass (topS 13) 0
def hFa1 : List He.Fa := rNms.map He.Fa.glo ++ (([.glo "check_colours", .glo "check_figures", .glo "is_figure", .glo "is_triple", .glo "check_meetings", .glo "copy_of_figure", .glo "pads_of", .glo "mask_of", .glo "bar", .glo "tiers_of", .glo "_law_bag", .glo "_law_pull"] : List He.Fa) ++ ([.glo "_law_like", .glo "_law_tried", .glo "_law_is", .glo "_law_two_full", .glo "_law_long_reset", .glo "least_row", .glo "shortest_round", .glo "repeats", .glo "spare_notes", .glo "are_notes", .glo "check_row", .glo "least_rows"] : List He.Fa) ++ ([.glo "check_pad", .glo "with_row", .glo "topped", .glo "reset", .glo "is_taken", .glo "lay_notes", .glo "lay", .glo "rows_behind_deed", .glo "kept_behind_deed", .glo "law", .glo "TearError", .glo "BadColours"] : List He.Fa) ++ ([.glo "Meeting", .glo "TooMany", .glo "BadRow", .glo "BadBeneath", .glo "Full", .glo "Missing", .glo "NoPad", .glo "NoFigure", .glo "Book", .cls "Book", .noat "Book" "palette", .noat "Book" "shapes"] : List He.Fa) ++ ([.mkr "Book", .meth "Book" "__init__", .meth "Book" "pads", .meth "Book" "shape", .meth "Book" "colours", .glo "Heap", .cls "Heap", .noat "Heap" "owner"] : List He.Fa))
def hFa2 : List He.Fa := ([.noat "Heap" "tiers", .mkr "Heap", .meth "Heap" "__init__", .meth "Heap" "book", .glo "Walks", .cls "Walks", .noat "Walks" "owner", .noat "Walks" "ground", .noat "Walks" "gone", .mkr "Walks", .meth "Walks" "__init__", .glo "Board"] : List He.Fa) ++ ([.cls "Board", .noat "Board" "owner", .noat "Board" "past", .noat "Board" "future", .noat "Board" "many_found", .noat "Board" "piles", .noat "Board" "beginning", .noat "Board" "is_whole", .noat "Board" "walks", .mkr "Board", .meth "Board" "__init__", .meth "Board" "stand"] : List He.Fa) ++ ([.meth "Board" "rows", .meth "Board" "lay", .meth "Board" "do", .meth "Board" "all_of", .meth "Board" "step", .meth "Board" "height", .free "len", .free "list", .free "tuple", .free "range", .free "isinstance", .free "all"] : List He.Fa) ++ ([.free "any", .free "bool", .free "int", .free "str", .free "dict", .free "enumerate", .free "zip", .free "max", .free "min", .free "sorted", .free "sum", .int "MOST_WALKED" 20000] : List He.Fa) ++ ([.int "MOST_PADS" 6, .int "MOST_COLOURS" 4, .int "MOST_FIGURES" 12, .int "MOST_DEPTH" 3, .int "MOST_LEAD" 400, .int "MOST_ROUND" 12, .glo "KINDS", .glo "ACTIONS"] : List He.Fa)
def hFn1 : List He.DefD := ([dOf ("check_colours", none) "check_colours" "check_colours" sCCol [] [], dOf ("check_figures", none) "check_figures" "check_figures" sCFig [] [], dOf ("is_figure", none) "is_figure" "is_figure" sIsFig [] [], dOf ("is_triple", none) "is_triple" "is_triple" sIsTri [] [], dOf ("check_meetings", none) "check_meetings" "check_meetings" sCMeet [] [], dOf ("copy_of_figure", none) "copy_of_figure" "copy_of_figure" sCopyF [] [], dOf ("pads_of", none) "pads_of" "pads_of" sPadsOf [] [], dOf ("mask_of", none) "mask_of" "mask_of" sMask [] [], dOf ("bar", none) "bar" "bar" sBar [] [], dOf ("tiers_of", none) "tiers_of" "tiers_of" sTiers [] [], dOf ("_law_bag", none) "_law_bag" "_law_bag" sBag [] [], dOf ("_law_pull", none) "_law_pull" "_law_pull" sPull [] []] : List He.DefD) ++ ([dOf ("_law_like", none) "_law_like" "_law_like" sLike [] [], dOf ("_law_tried", none) "_law_tried" "_law_tried" sTried [] [], dOf ("_law_is", none) "_law_is" "_law_is" sIs [] [], dOf ("_law_two_full", none) "_law_two_full" "_law_two_full" sTF [] [], dOf ("_law_long_reset", none) "_law_long_reset" "_law_long_reset" sLG [] [], dOf ("least_row", none) "least_row" "least_row" sLR [] [], dOf ("shortest_round", none) "shortest_round" "shortest_round" sShort [] [], dOf ("repeats", none) "repeats" "repeats" sReps [] [], dOf ("spare_notes", none) "spare_notes" "spare_notes" sSpare [] [], dOf ("are_notes", none) "are_notes" "are_notes" sAn [] [], dOf ("check_row", none) "check_row" "check_row" sCr [] [], dOf ("least_rows", none) "least_rows" "least_rows" sLrs [] []] : List He.DefD) ++ ([dOf ("check_pad", none) "check_pad" "check_pad" sCpd [] [], dOf ("with_row", none) "with_row" "with_row" sWr [] [], dOf ("topped", none) "topped" "topped" sTpd [] [], dOf ("reset", none) "reset" "reset" sRst [] [], dOf ("is_taken", none) "is_taken" "is_taken" sIst [] []] : List He.DefD)
def hFn2 : List He.DefD := ([dOf ("lay_notes", none) "lay_notes" "lay_notes" sLyn [] [], dOf ("lay", none) "lay" "lay" sLay [] [], dOf ("rows_behind_deed", none) "rows_behind_deed" "rows_behind_deed" sRbd [] [], dOf ("kept_behind_deed", none) "kept_behind_deed" "kept_behind_deed" sKbd [] [], dOf ("law", none) "law" "law" sLaw [] [], dOf ("TearError", some "__init__") "__init__" "TearError.__init__" sI_TearError [.str "TearError"] [], dOf ("BadColours", some "__init__") "__init__" "BadColours.__init__" sI_BadColours [] [], dOf ("Meeting", some "__init__") "__init__" "Meeting.__init__" sI_Meeting [] [], dOf ("TooMany", some "__init__") "__init__" "TooMany.__init__" sI_TooMany [] [], dOf ("BadRow", some "__init__") "__init__" "BadRow.__init__" sI_BadRow [] [], dOf ("BadBeneath", some "__init__") "__init__" "BadBeneath.__init__" sI_BadBeneath [] [], dOf ("Full", some "__init__") "__init__" "Full.__init__" sI_Full [] []] : List He.DefD) ++ ([dOf ("Missing", some "__init__") "__init__" "Missing.__init__" sI_Missing [.str "Missing"] [], dOf ("NoPad", some "__init__") "__init__" "NoPad.__init__" sI_NoPad [] [], dOf ("NoFigure", some "__init__") "__init__" "NoFigure.__init__" sI_NoFigure [] [], dOf ("Book", some "__init__") "__init__" "Book.__init__" sInit [] [("figures", .adr emptyT)], dOf ("Book", some "pads") "pads" "Book.pads" sPadsM [] [], dOf ("Book", some "shape") "shape" "Book.shape" sShpX [] [], dOf ("Book", some "colours") "colours" "Book.colours" sCols [] [], dOf ("Heap", some "__init__") "__init__" "Heap.__init__" sHInit [.adr emptyH] [], dOf ("Heap", some "book") "book" "Heap.book" sHBook [] [], dOf ("Walks", some "__init__") "__init__" "Walks.__init__" sWInit [] [], dOf ("Board", some "__init__") "__init__" "Board.__init__" sBoIn [] [("rows", .non)], dOf ("Board", some "stand") "stand" "Board.stand" sBoSt [] []] : List He.DefD) ++ ([dOf ("Board", some "rows") "rows" "Board.rows" sBoRw [] [], dOf ("Board", some "lay") "lay" "Board.lay" sBLy [] [("beneath", .non)], dOf ("Board", some "do") "do" "Board.do" sDo [] [], dOf ("Board", some "all_of") "all_of" "Board.all_of" sAll [] [], dOf ("Board", some "step") "step" "Board.step" sStp [] [], dOf ("Board", some "height") "height" "Board.height" sHei [] []] : List He.DefD)
def hFn : List He.DefD := hFn1 ++ hFn2
def hEx1 (K : PySem.W.Frag) : Bool := refsB K
def hEx2 (K : PySem.W.Frag) : Bool := leafB K "BadColours" "TearError" "ValueError" "ValueError.__new__" ["at"] && (leafB K "Meeting" "TearError" "ValueError" "ValueError.__new__" ["one", "other"] && (leafB K "TooMany" "TearError" "ValueError" "ValueError.__new__" ["most"] && (leafB K "BadRow" "TearError" "ValueError" "ValueError.__new__" ["at"] && (leafB K "BadBeneath" "TearError" "ValueError" "ValueError.__new__" [] && (leafB K "Full" "TearError" "ValueError" "ValueError.__new__" ["pad"] && (leafB K "NoPad" "Missing" "LookupError" "LookupError.__new__" ["pad"] && (leafB K "NoFigure" "Missing" "LookupError" "LookupError.__new__" ["figure"] && (emptyB K (emptyH K) && (emptyB K (emptyT K) && (kindsB K (He.ga K "KINDS") kindL && (nsB K "ACTIONS" "reset" "reset" && (nsB K "ACTIONS" "lay" "lay" && (!decide ((He.cT K (("_law_two_full", none) : He.Defn)).2 = (He.cT K (("_law_long_reset", none) : He.Defn)).2))))))))))))))
def hTf : List He.Defn := [("_law_two_full", none), ("_law_long_reset", none)]
def hNames : List PySem.Str := (["_wall", "TearError", "BadColours", "BadFigure", "Meeting", "TooMany", "TooFar", "BadOrder", "OtherColours", "OtherBook", "BadRow", "BadNote"] : List PySem.Str) ++ (["BadBeneath", "Full", "NoEnd", "NotStanding", "NeverClear", "BadDeed", "BadNumber", "NoBeginning", "Barred", "BadHeights", "BadWeights", "NoMean"] : List PySem.Str) ++ (["BadText", "Missing", "NoPad", "NoFigure", "NoNote", "Stuck", "NothingBack", "NothingAgain", "MOST_PADS", "MOST_COLOURS", "MOST_FIGURES", "MOST_DEPTH"] : List PySem.Str) ++ (["Book", "check_colours", "check_figures", "is_figure", "is_triple", "check_meetings", "copy_of_figure", "pads_of", "mask_of", "pads_in", "bar", "united"] : List PySem.Str) ++ (["colours_text", "figure_text", "triple_text", "MOST_STANDS", "Heap", "tiers_of", "beginning_of", "is_next", "Course", "standing_on", "standing_at", "stands_at"] : List PySem.Str) ++ (["has_on_top", "place_behind", "places_behind", "figures_of_part", "tops_of", "let_stand", "places_in_order", "MOST_LEAD", "MOST_ROUND", "least_row", "note_at", "behind"] : List PySem.Str) ++ (["shortest_round", "repeats", "spare_notes", "ENDS", "AGAIN", "FAR", "Walks", "walked", "board_sweeps", "torn_at_once", "lacking", "KINDS"] : List PySem.Str) ++ (["rows_behind_deed", "kept_behind_deed", "untouched", "place_of_taker", "depth_on", "put", "write", "change", "reset", "lay", "lay_notes", "is_taken"] : List PySem.Str) ++ (["tear", "sweep", "ACTIONS", "rows_behind_sweeps", "rows_behind", "with_row", "topped", "least_rows", "check_row", "check_pad", "check_note", "are_notes"] : List PySem.Str) ++ (["NO_NOTES", "row_text", "book_text", "notes_text", "MOST_WALKED", "Board", "torn_pairs", "notes_from", "_law_bag", "_law_pull", "_law_like", "_law_tried"] : List PySem.Str) ++ (["_law_is", "_law_two_full", "_law_long_reset"] : List PySem.Str)
abbrev hR : PySem.W.OpenRow := PySem.W.OpenLaw.row PySem.Challenge.rw_tearboard_k82_two_full_pads_and_long_row
def hAs : List Addr := ([2, 3, 6, 4, 21, 39, 59, 78, 97, 116, 135, 154, 173, 192, 211, 230, 249, 268, 287, 306, 325, 344, 363, 382, 401, 420, 439, 458, 477, 497, 517, 536, 555, 575, 595, 614, 706, 717, 724, 729, 736, 741, 746, 751, 756, 761, 766, 771, 776, 781, 788, 934, 943, 948, 953, 973, 984, 989, 996, 1003] : List Addr) ++ ([1010, 1017, 1022, 1027, 1032, 1037, 1044, 1051, 1058, 1063, 1070, 1077, 1113, 1124, 1129, 1134, 1139, 1148, 1155, 1162, 1169, 1176, 1181, 1188, 1195, 1200, 1207, 1212, 1217, 1224, 1231, 1238, 1239, 1244, 1249, 1256, 1263, 1268, 1275, 1282, 1289, 1294, 1301, 1308, 1313, 1570, 1579, 1584, 1591, 1598, 1603, 1610, 1617, 1622, 1629, 1636, 0, 20, 38, 58] : List Addr) ++ ([77, 96, 115, 134, 153, 172, 191, 210, 229, 248, 267, 286, 305, 324, 343, 362, 381, 400, 419, 438, 457, 476, 496, 516, 535, 554, 574, 594, 613, 705, 716, 723, 728, 735, 740, 745, 750, 755, 760, 765, 770, 775, 780, 787, 933, 942, 947, 952, 972, 983, 988, 995, 1002, 1009, 1016, 1021, 1026, 1031, 1036, 1043] : List Addr) ++ ([1050, 1057, 1062, 1069, 1076, 1112, 1123, 1119, 1128, 1133, 1138, 1140, 1141, 1142, 1143, 1144, 1145, 1146, 1147, 1154, 1161, 1168, 1175, 1180, 1187, 1194, 1199, 1206, 1211, 1216, 1223, 1230, 1237, 1243, 1248, 1255, 1262, 1267, 1274, 1281, 1288, 1293, 1300, 1307, 1312, 1569, 1578, 1583, 1590, 1597, 1602, 1609, 1616, 1621, 1628, 1635, 15, 16, 17, 18] : List Addr) ++ ([19, 36, 37, 40, 56, 57, 75, 76, 94, 95, 113, 114, 132, 133, 151, 152, 170, 171, 189, 190, 208, 209, 227, 228, 246, 247, 265, 266, 284, 285, 303, 304, 322, 323, 341, 342, 360, 361, 379, 380, 398, 399, 417, 418, 436, 437, 455, 456, 474, 475, 494, 495, 498, 514, 515, 533, 534, 552, 553, 572] : List Addr) ++ ([573, 576, 592, 593, 611, 612, 630, 637, 644, 651, 658, 665, 670, 677, 684, 691, 696, 703, 704, 707, 708, 711, 712, 713, 714, 715, 718, 719, 720, 721, 722, 725, 726, 727, 730, 731, 732, 733, 734, 737, 738, 739, 742, 743, 744, 747, 748, 749, 752, 753, 754, 757, 758, 759, 762, 763, 764, 767, 768, 769] : List Addr) ++ ([772, 773, 774, 777, 778, 779, 782, 783, 784, 785, 786, 804, 811, 816, 821, 826, 831, 836, 841, 848, 856, 863, 870, 877, 884, 891, 898, 905, 912, 919, 924, 931, 932, 935, 936, 939, 940, 941, 944, 945, 946, 949, 950, 951, 965, 970, 971, 974, 975, 978, 979, 980, 981, 982, 985, 986, 987, 990, 991, 992] : List Addr) ++ ([993, 994, 997, 998, 999, 1000, 1001, 1004, 1005, 1006, 1007, 1008, 1011, 1012, 1013, 1014, 1015, 1018, 1019, 1020, 1023, 1024, 1025, 1028, 1029, 1030, 1033, 1034, 1035, 1038, 1039, 1040, 1041, 1042, 1045, 1046, 1047, 1048, 1049, 1052, 1053, 1054, 1055, 1056, 1059, 1060, 1061, 1064, 1065, 1066, 1067, 1068, 1071, 1072, 1073, 1074, 1075, 1091, 1098, 1105] : List Addr) ++ ([1110, 1111, 1114, 1115, 1120, 1121, 1122, 1118, 1125, 1126, 1127, 1130, 1131, 1132, 1135, 1136, 1137, 1149, 1150, 1151, 1152, 1153, 1156, 1157, 1158, 1159, 1160, 1163, 1164, 1165, 1166, 1167, 1170, 1171, 1172, 1173, 1174, 1177, 1178, 1179, 1182, 1183, 1184, 1185, 1186, 1189, 1190, 1191, 1192, 1193, 1196, 1197, 1198, 1201, 1202, 1203, 1204, 1205, 1208, 1209] : List Addr) ++ ([1210, 1213, 1214, 1215, 1218, 1219, 1220, 1221, 1222, 1225, 1226, 1227, 1228, 1229, 1232, 1233, 1234, 1235, 1236, 1240, 1241, 1242, 1245, 1246, 1247, 1250, 1251, 1252, 1253, 1254, 1257, 1258, 1259, 1260, 1261, 1264, 1265, 1266, 1269, 1270, 1271, 1272, 1273, 1276, 1277, 1278, 1279, 1280, 1283, 1284, 1285, 1286, 1287, 1290, 1291, 1292, 1295, 1296, 1297, 1298] : List Addr) ++ ([1299, 1302, 1303, 1304, 1305, 1306, 1309, 1310, 1311, 1328, 1335, 1342, 1349, 1358, 1366, 1373, 1380, 1388, 1395, 1402, 1409, 1416, 1423, 1430, 1437, 1444, 1451, 1458, 1466, 1473, 1480, 1487, 1495, 1503, 1511, 1519, 1527, 1534, 1541, 1548, 1555, 1560, 1567, 1568, 1571, 1572, 1575, 1576, 1577, 1580, 1581, 1582, 1585, 1586, 1587, 1588, 1589, 1592, 1593, 1594] : List Addr) ++ ([1595, 1596, 1599, 1600, 1601, 1604, 1605, 1606, 1607, 1608, 1611, 1612, 1613, 1614, 1615, 1618, 1619, 1620, 1623, 1624, 1625, 1626, 1627, 1630, 1631, 1632, 1633, 1634, 35, 29, 55, 74, 93, 112, 131, 150, 169, 188, 207, 226, 245, 264, 283, 302, 321, 340, 359, 378, 397, 416, 435, 454, 473, 493, 487, 513, 532, 551, 571, 565] : List Addr) ++ ([591, 610, 629, 625, 636, 643, 650, 657, 664, 669, 676, 683, 690, 695, 702, 803, 797, 810, 815, 820, 825, 830, 835, 840, 847, 855, 849, 862, 869, 876, 883, 890, 897, 904, 911, 918, 923, 930, 964, 969, 1090, 1097, 1104, 1109, 1327, 1321, 1334, 1341, 1348, 1357, 1351, 1365, 1359, 1372, 1379, 1387, 1381, 1394, 1401, 1408] : List Addr) ++ ([1415, 1422, 1429, 1436, 1443, 1450, 1457, 1465, 1459, 1472, 1479, 1486, 1494, 1488, 1502, 1496, 1510, 1504, 1518, 1512, 1526, 1520, 1533, 1540, 1547, 1554, 1559, 1566, 30, 31, 32, 33, 34, 50, 51, 52, 53, 54, 69, 70, 71, 72, 73, 88, 89, 90, 91, 92, 107, 108, 109, 110, 111, 126, 127, 128, 129, 130, 145, 146] : List Addr) ++ ([147, 148, 149, 164, 165, 166, 167, 168, 183, 184, 185, 186, 187, 202, 203, 204, 205, 206, 221, 222, 223, 224, 225, 240, 241, 242, 243, 244, 259, 260, 261, 262, 263, 278, 279, 280, 281, 282, 297, 298, 299, 300, 301, 316, 317, 318, 319, 320, 335, 336, 337, 338, 339, 354, 355, 356, 357, 358, 373, 374] : List Addr) ++ ([375, 376, 377, 392, 393, 394, 395, 396, 411, 412, 413, 414, 415, 430, 431, 432, 433, 434, 449, 450, 451, 452, 453, 468, 469, 470, 471, 472, 488, 489, 490, 491, 492, 508, 509, 510, 511, 512, 527, 528, 529, 530, 531, 546, 547, 548, 549, 550, 566, 567, 568, 569, 570, 586, 587, 588, 589, 590, 605, 606] : List Addr) ++ ([607, 608, 609, 626, 627, 628, 624, 631, 632, 633, 634, 635, 638, 639, 640, 641, 642, 645, 646, 647, 648, 649, 652, 653, 654, 655, 656, 659, 660, 661, 662, 663, 666, 667, 668, 671, 672, 673, 674, 675, 678, 679, 680, 681, 682, 685, 686, 687, 688, 689, 692, 693, 694, 697, 698, 699, 700, 701, 798, 799] : List Addr) ++ ([800, 801, 802, 796, 805, 806, 807, 808, 809, 812, 813, 814, 817, 818, 819, 822, 823, 824, 827, 828, 829, 832, 833, 834, 837, 838, 839, 842, 843, 844, 845, 846, 850, 851, 852, 853, 854, 857, 858, 859, 860, 861, 864, 865, 866, 867, 868, 871, 872, 873, 874, 875, 878, 879, 880, 881, 882, 885, 886, 887] : List Addr) ++ ([888, 889, 892, 893, 894, 895, 896, 899, 900, 901, 902, 903, 906, 907, 908, 909, 910, 913, 914, 915, 916, 917, 920, 921, 922, 925, 926, 927, 928, 929, 961, 962, 963, 966, 967, 968, 1085, 1086, 1087, 1088, 1089, 1092, 1093, 1094, 1095, 1096, 1099, 1100, 1101, 1102, 1103, 1106, 1107, 1108, 1322, 1323, 1324, 1325, 1326, 1329] : List Addr) ++ ([1330, 1331, 1332, 1333, 1336, 1337, 1338, 1339, 1340, 1343, 1344, 1345, 1346, 1347, 1352, 1353, 1354, 1355, 1356, 1350, 1360, 1361, 1362, 1363, 1364, 1367, 1368, 1369, 1370, 1371, 1374, 1375, 1376, 1377, 1378, 1382, 1383, 1384, 1385, 1386, 1389, 1390, 1391, 1392, 1393, 1396, 1397, 1398, 1399, 1400, 1403, 1404, 1405, 1406, 1407, 1410, 1411, 1412, 1413, 1414] : List Addr) ++ ([1417, 1418, 1419, 1420, 1421, 1424, 1425, 1426, 1427, 1428, 1431, 1432, 1433, 1434, 1435, 1438, 1439, 1440, 1441, 1442, 1445, 1446, 1447, 1448, 1449, 1452, 1453, 1454, 1455, 1456, 1460, 1461, 1462, 1463, 1464, 1467, 1468, 1469, 1470, 1471, 1474, 1475, 1476, 1477, 1478, 1481, 1482, 1483, 1484, 1485, 1489, 1490, 1491, 1492, 1493, 1497, 1498, 1499, 1500, 1501] : List Addr) ++ ([1505, 1506, 1507, 1508, 1509, 1513, 1514, 1515, 1516, 1517, 1521, 1522, 1523, 1524, 1525, 1528, 1529, 1530, 1531, 1532, 1535, 1536, 1537, 1538, 1539, 1542, 1543, 1544, 1545, 1546, 1549, 1550, 1551, 1552, 1553, 1556, 1557, 1558, 1561, 1562, 1563, 1564, 1565] : List Addr)
def hTs : List He.Tab := [(fun K => He.ga K "ACTIONS", ["put", "write", "change", "reset", "lay", "tear", "sweep"])]
def hKs (s : PySem.W.SharedT) : PySem.W.Frag := He.frT (HandSHeadRun.getT s) hAs
theorem hRunAf (w : World) (os : OsState) : (HandSHeadRun.endF (HandSHeadRun.stepQ (HandSHeadRun.denQ HandSHeadRun.tabQ) hR.prog (w.withFollow "special-get-raises" false)) 20000 hR.prog (w.withFollow "special-get-raises" false) os).map (fun s => HandSHeadRun.looksF hR.prog (PySem.W.boot_heap (w.withFollow "special-get-raises" false).params) s.abs) = some true := by
  kernel_rfl
theorem hRunBf (w : World) (os : OsState) : (HandSHeadRun.endF (HandSHeadRun.stepQ (HandSHeadRun.denQ HandSHeadRun.tabQ) hR.prog (w.withFollow "special-get-raises" false)) 20000 hR.prog (w.withFollow "special-get-raises" false) os).map (fun s => HandSHeadRun.seenQ (PySem.W.view hR.prog [133]) hNames (importedModules hR.prog.main.body) (fun s => PySem.W.xlAt (PySem.W.view hR.prog [133]) [] s && PySem.W.recOk hR.toRowW.records s) s.abs) = some (PySem.W.openGood (PySem.W.view hR.prog [133]) hNames) := by
  kernel_rfl
theorem hRunAt (w : World) (os : OsState) : (HandSHeadRun.endF (HandSHeadRun.stepQ (HandSHeadRun.denQ HandSHeadRun.tabQ) hR.prog (w.withFollow "special-get-raises" true)) 20000 hR.prog (w.withFollow "special-get-raises" true) os).map (fun s => HandSHeadRun.looksF hR.prog (PySem.W.boot_heap (w.withFollow "special-get-raises" true).params) s.abs) = some true := by
  kernel_rfl
theorem hRunBt (w : World) (os : OsState) : (HandSHeadRun.endF (HandSHeadRun.stepQ (HandSHeadRun.denQ HandSHeadRun.tabQ) hR.prog (w.withFollow "special-get-raises" true)) 20000 hR.prog (w.withFollow "special-get-raises" true) os).map (fun s => HandSHeadRun.seenQ (PySem.W.view hR.prog [133]) hNames (importedModules hR.prog.main.body) (fun s => PySem.W.xlAt (PySem.W.view hR.prog [133]) [] s && PySem.W.recOk hR.toRowW.records s) s.abs) = some (PySem.W.openGood (PySem.W.view hR.prog [133]) hNames) := by
  kernel_rfl
theorem hRunC3f (w : World) (os : OsState) : (HandSHeadRun.endF (HandSHeadRun.stepQ (HandSHeadRun.denQ HandSHeadRun.tabQ) hR.prog (w.withFollow "special-get-raises" false)) 20000 hR.prog (w.withFollow "special-get-raises" false) os).map (fun s => hFn1.all fun d => d.ok (hKs s)) = some true := by
  kernel_rfl
theorem hRunC5f (w : World) (os : OsState) : (HandSHeadRun.endF (HandSHeadRun.stepQ (HandSHeadRun.denQ HandSHeadRun.tabQ) hR.prog (w.withFollow "special-get-raises" false)) 20000 hR.prog (w.withFollow "special-get-raises" false) os).map (fun s => hFn2.all fun d => d.ok (hKs s)) = some true := by
  kernel_rfl
theorem hRunGC1C4f (w : World) (os : OsState) : (HandSHeadRun.endF (HandSHeadRun.stepQ (HandSHeadRun.denQ HandSHeadRun.tabQ) hR.prog (w.withFollow "special-get-raises" false)) 20000 hR.prog (w.withFollow "special-get-raises" false) os).map (fun s => (hFa1.all fun f => f.ok (hKs s), hFn.map fun d => He.fnW (hKs s) d.at_)) = some (true, (hFn.map He.DefD.val)) := by
  kernel_rfl
theorem hRunC2f (w : World) (os : OsState) : (HandSHeadRun.endF (HandSHeadRun.stepQ (HandSHeadRun.denQ HandSHeadRun.tabQ) hR.prog (w.withFollow "special-get-raises" false)) 20000 hR.prog (w.withFollow "special-get-raises" false) os).map (fun s => hFa2.all fun f => f.ok (hKs s)) = some true := by
  kernel_rfl
theorem hRunGD1D2D3f (w : World) (os : OsState) : (HandSHeadRun.endF (HandSHeadRun.stepQ (HandSHeadRun.denQ HandSHeadRun.tabQ) hR.prog (w.withFollow "special-get-raises" false)) 20000 hR.prog (w.withFollow "special-get-raises" false) os).map (fun s => (hEx1 (hKs s), (hEx2 (hKs s), He.tabsB (HandSHeadRun.getT s) hTf (hKs s)))) = some (true, (true, true)) := by
  kernel_rfl
theorem hRunT1f (w : World) (os : OsState) : (HandSHeadRun.endF (HandSHeadRun.stepQ (HandSHeadRun.denQ HandSHeadRun.tabQ) hR.prog (w.withFollow "special-get-raises" false)) 20000 hR.prog (w.withFollow "special-get-raises" false) os).map (fun s => hTs.map fun t => He.dicW (hKs s) (t.1 (hKs s))) = some (hTs.map fun t => some (He.keysIn (w.withFollow "special-get-raises" false).params t.2)) := by
  kernel_rfl
theorem hRunC3t (w : World) (os : OsState) : (HandSHeadRun.endF (HandSHeadRun.stepQ (HandSHeadRun.denQ HandSHeadRun.tabQ) hR.prog (w.withFollow "special-get-raises" true)) 20000 hR.prog (w.withFollow "special-get-raises" true) os).map (fun s => hFn1.all fun d => d.ok (hKs s)) = some true := by
  kernel_rfl
theorem hRunC5t (w : World) (os : OsState) : (HandSHeadRun.endF (HandSHeadRun.stepQ (HandSHeadRun.denQ HandSHeadRun.tabQ) hR.prog (w.withFollow "special-get-raises" true)) 20000 hR.prog (w.withFollow "special-get-raises" true) os).map (fun s => hFn2.all fun d => d.ok (hKs s)) = some true := by
  kernel_rfl
theorem hRunGC1C4t (w : World) (os : OsState) : (HandSHeadRun.endF (HandSHeadRun.stepQ (HandSHeadRun.denQ HandSHeadRun.tabQ) hR.prog (w.withFollow "special-get-raises" true)) 20000 hR.prog (w.withFollow "special-get-raises" true) os).map (fun s => (hFa1.all fun f => f.ok (hKs s), hFn.map fun d => He.fnW (hKs s) d.at_)) = some (true, (hFn.map He.DefD.val)) := by
  kernel_rfl
theorem hRunC2t (w : World) (os : OsState) : (HandSHeadRun.endF (HandSHeadRun.stepQ (HandSHeadRun.denQ HandSHeadRun.tabQ) hR.prog (w.withFollow "special-get-raises" true)) 20000 hR.prog (w.withFollow "special-get-raises" true) os).map (fun s => hFa2.all fun f => f.ok (hKs s)) = some true := by
  kernel_rfl
theorem hRunGD1D2D3t (w : World) (os : OsState) : (HandSHeadRun.endF (HandSHeadRun.stepQ (HandSHeadRun.denQ HandSHeadRun.tabQ) hR.prog (w.withFollow "special-get-raises" true)) 20000 hR.prog (w.withFollow "special-get-raises" true) os).map (fun s => (hEx1 (hKs s), (hEx2 (hKs s), He.tabsB (HandSHeadRun.getT s) hTf (hKs s)))) = some (true, (true, true)) := by
  kernel_rfl
theorem hRunT1t (w : World) (os : OsState) : (HandSHeadRun.endF (HandSHeadRun.stepQ (HandSHeadRun.denQ HandSHeadRun.tabQ) hR.prog (w.withFollow "special-get-raises" true)) 20000 hR.prog (w.withFollow "special-get-raises" true) os).map (fun s => hTs.map fun t => He.dicW (hKs s) (t.1 (hKs s))) = some (hTs.map fun t => some (He.keysIn (w.withFollow "special-get-raises" true).params t.2)) := by
  kernel_rfl
/-! heaps -/
theorem same_upd {H : Hp} {p : Addr} {o : HO} (h : H p = none) : Same H (upd H p o) := fun b x e => by
  rw [upd_ne (ne_of_none e h)]
  exact e
/-- all that was tracked is as it was, but at b -/
def Off (b : Addr) (H H' : Hp) : Prop := ∀ a o, a ≠ b → H a = some o → H' a = some o
theorem Off.refl {b : Addr} {H : Hp} : Off b H H := fun _ _ _ h => h
theorem Off.trans {b : Addr} {H H1 H2 : Hp} (x : Off b H H1) (y : Off b H1 H2) : Off b H H2 := fun a o n h => y a o n (x a o n h)
theorem Off.same {b : Addr} {H H' : Hp} (x : Same H H') : Off b H H' := fun a o _ h => x a o h
theorem Off.upd {b : Addr} {H : Hp} {o : HO} : Off b H (upd H b o) := fun a x n h => by
  rw [upd_ne n]
  exact h
theorem Off.seqL {K : PySem.W.Frag} {b : Addr} {H H' : Hp} {a : Addr} {xs : List V} (x : Off b H H') (n : a ≠ b) (h : H a = some (.lst xs)) : H' a = some (.lst xs) := x a _ n h
/-- the bag of drawn numbers -/
structure Bag (H : Hp) (b c : Addr) : Prop where
  ex : ∃ (cells : List Int) (at' rest seed : Int), H b = some (.lst [.ref c, .int at', .int rest, .int seed]) ∧ H c = some (.lst (cells.map V.int)) ∧ 0 ≤ at' ∧ 0 ≤ rest ∧ 0 ≤ seed ∧ seed < 1000000000000 ∧ c ≠ b
theorem Bag.same {H H' : Hp} {b c : Addr} (h : Bag H b c) (x : Same H H') : Bag H' b c := by
  obtain ⟨cells, a, r, s, h1, h2, h3⟩ := h.ex
  exact ⟨cells, a, r, s, x _ _ h1, x _ _ h2, h3⟩
theorem Bag.ne {H : Hp} {b c p : Addr} (h : Bag H b c) (n : H p = none) : p ≠ b ∧ p ≠ c := by
  obtain ⟨cells, a, r, s, h1, h2, h3⟩ := h.ex
  exact ⟨(ne_of_none h1 n).symm, (ne_of_none h2 n).symm⟩
theorem Bag.upd {H : Hp} {b c p : Addr} {o : HO} (h : Bag H b c) (n : p ≠ b ∧ p ≠ c) : Bag (upd H p o) b c := by
  obtain ⟨cells, a, r, s, h1, h2, h3⟩ := h.ex
  refine ⟨cells, a, r, s, ?_, ?_, h3⟩
  · rw [upd_ne n.1.symm]
    exact h1
  · rw [upd_ne n.2.symm]
    exact h2
/-! ### exceptions of own classes over any of the plain built-in bases -/
/-- what the written part tells of the class at C; D is its mro behind C, B the built-in base -/
structure OexG (K : PySem.W.Frag) (C : Addr) : Prop where
  cls : ∃ (nm q : Str) (N : Addr) (bs bm : List Value) (sn : List Str) (sub : List Value) (ab : Bool) (col : Option Bool) (dd : Option Addr) (k0 k1 k2 k3 k5 : Option Value) (B nw it : String) (bmB : List Value),
    ExcBaseFacts B nw it bmB ∧ K.lookup C = some (excClassObj nm q C N bs bm true sn sub ab col dd k0 k1 k2 k3 k5 nw) ∧ (∀ Y : String, bm.contains (.type Y) = bmB.contains (.type Y)) ∧
      bmB.contains (.type "object") = true ∧ ∀ self : Value, refuseLoop self "__setattr__" (.ref C :: bm) = pure ()
  sa : PySem.W.findIn K (.ref C) "__setattr__" = some (some (.builtin "object.__setattr__"))
  exC : PySem.W.subIn K (.ref C) (.type "BaseException") = some true
  tyC : PySem.W.typeIn K (.ref C) = some (.type "type")
  kC : PySem.W.keepIn K (.ref C) = true
section
open Builtin Builtin.ObjectAttr PySem.W PySem.HandSPX
variable {prog : Program} {w : World} {A : Around} {R : Result → Shared → Prop} {hp : Heap} {g : Array GenState} {d : Drawn} {t : Nat} {os : OsState} {K : Frag} {name : Str} {tk : Tok} {v : Value} {x C : Addr} {fv : Array Value} {cd : ClassData}
/-- object.__setattr__ up to the own dict, whatever dict there is -/
theorem gosa {ox : Obj} {od : Option Obj} (hT : K.In hp) (I : InstAt hp x ox C od) (hcd : clsIn K C = some cd) (hne : cd.mro.isEmpty = false) (hob : cd.mro.contains (.type "object") = true) (hps : ∀ self : Value, refuseLoop self "__setattr__" cd.mro = pure ())
    (hno : findIn K (.ref C) name = some none)
    (hq : wpAny (model prog w) A.in1 (storeInOwnDict (.ref x) (.ref C) (.str name tk) name v false) (fun fin s' => match fin with | .done (.ret u) => R (.ok (.ret u)) s' | _ => False) (fun _ _ => False) ⟨hp, g, d, t, os⟩) :
    codeAny (model prog w) A (.call (.builtin "object.__setattr__") ⟨[.ref x, .str name tk, v], []⟩) R ⟨hp, g, d, t, os⟩ := by
  have so := PySem.F.store_object
  have isO : Looks (model prog w) hp (isInstance (.ref x) (.type "object")) true := I.type.andThen (looks_mroIn hT (by unfold mroIn; rw [hcd, Option.bind_some, if_neg (by rw [hne]; decide), hob]))
  refine codeAny_call_builtin so.slot.plain so.entry (@check_slot (model prog w) _ _ ⟨hp, g, d, t, os⟩ "object.__setattr__" "object" "__setattr__" (.ref x) [.str name tk, v] [] _ so.kind so.split isO (so.args (.ref x) (.str name tk) v) ?_)
  have lm : Looks (model prog w) hp (mroOf (.ref C)) cd.mro := (looks_clsIn hT hcd).andThen .now
  have ln : Looks (model prog w) hp (storeTaker? none) none := .now
  rw [osa_eq, refuse_eq]
  refine wpAny_bind (wpAny_bind (I.type.at (wpAny_bind (lm.at ?_))))
  rw [hps]
  refine wpAny_pure (wpAny_bind (I.type.at (wpAny_bind ((looks_findIn hT hno).at (wpAny_bind (ln.at ?_))))))
  refine wpAny_mono hq (fun fin s' z => ?_) fun _ _ z => z.elim
  rcases fin with (_ | _ | _ | _) | c <;> first | exact z | exact z.elim
/-- the first field: the dict is new -/
theorem gosa_new (hT : K.In hp) (hx : hp.get? x = some { cls := .ref C, data := .fields fv }) (hcd : clsIn K C = some cd) (hne : cd.mro.isEmpty = false) (hob : cd.mro.contains (.type "object") = true) (hps : ∀ self : Value, refuseLoop self "__setattr__" cd.mro = pure ())
    (hh : cd.hasDict = true) (hno : findIn K (.ref C) name = some none)
    (hq : ∀ h' tk' dx, (∀ b o, b ≠ x → hp.get? b = some o → h'.get? b = some o) → hp.objs.size ≤ dx → dx ≠ x → h'.get? x = some { cls := .ref C, dict := some dx, data := .fields fv } →
      h'.Ns1 dx (fun y => if y = name then some v else none) → R (.ok (.ret .none)) ⟨h', g, d, tk', os⟩) :
    codeAny (model prog w) A (.call (.builtin "object.__setattr__") ⟨[.ref x, .str name tk, v], []⟩) R ⟨hp, g, d, t, os⟩ := by
  refine gosa hT (⟨hx, rfl, rfl, trivial⟩ : InstAt hp x { cls := .ref C, data := .fields fv } C none) hcd hne hob hps hno ?_
  have lc : Looks (model prog w) hp (classData C) cd := looks_clsIn hT hcd
  have far : x ≠ hp.objs.size := Nat.ne_of_lt (Heap.lt_size hx)
  cases cd
  dsimp only at hh
  subst hh
  unfold storeInOwnDict ownDictForStores
  repeat (first | with_reducible refine store_in_new ?_ ?_ | with_reducible refine wpAny_loadPart_at hx ?_ | with_reducible refine lc.at ?_ | wp_step)
  · exact ⟨_, #[], _, (Heap.get?_update_ne _ _ _ _ far.symm).trans (Heap.get?_push_at rfl rfl), rfl, fun e he => absurd he (by simp), fun _ => rfl⟩
  · intro h' tk' hn' hs
    refine hq h' tk' hp.objs.size (fun b o hb ho => ?_) (Nat.le_refl _) far.symm ?_ hn'
    · exact (hs.2 b (Nat.ne_of_lt (Heap.lt_size ho))).trans ((Heap.get?_update_ne _ _ _ _ hb).trans (Heap.get?_push_of_some _ ho))
    · exact (hs.2 x far).trans (Heap.get?_update_self _ (Heap.get?_push_of_some _ hx) rfl)
/-- a later field: the dict is there -/
theorem gosa_old {dx : Addr} {m0 : Str → Option Value} {nl : List Str} (hT : K.In hp) (hx : hp.get? x = some { cls := .ref C, dict := some dx, data := .fields fv }) (hns : hp.Ns1 dx m0) (hw : Within m0 nl) (hz : nl.length ≤ 1000)
    (hcd : clsIn K C = some cd) (hne : cd.mro.isEmpty = false) (hob : cd.mro.contains (.type "object") = true) (hps : ∀ self : Value, refuseLoop self "__setattr__" cd.mro = pure ()) (hh : cd.hasDict = true) (hno : findIn K (.ref C) name = some none)
    (hq : ∀ h' tk', (∀ b o, b ≠ dx → hp.get? b = some o → h'.get? b = some o) → h'.Ns1 dx (fun y => if y = name then some v else m0 y) → R (.ok (.ret .none)) ⟨h', g, d, tk', os⟩) :
    codeAny (model prog w) A (.call (.builtin "object.__setattr__") ⟨[.ref x, .str name tk, v], []⟩) R ⟨hp, g, d, t, os⟩ := by
  obtain ⟨oD, _, _, hoD, _, _⟩ := hns.count hw
  refine gosa hT (⟨hx, rfl, rfl, hoD⟩ : InstAt hp x { cls := .ref C, dict := some dx, data := .fields fv } C (some oD)) hcd hne hob hps hno ?_
  have lc : Looks (model prog w) hp (classData C) cd := looks_clsIn hT hcd
  cases cd
  dsimp only at hh
  subst hh
  unfold storeInOwnDict ownDictForStores
  repeat (first | with_reducible refine PySem.OEX.store_in_old hns hw hz ?_ | with_reducible refine wpAny_loadPart_at hx ?_ | with_reducible refine lc.at ?_ | wp_step)
  intro h' tk' hn' hs
  exact hq h' tk' (fun b o hb ho => (hs.2 b hb).trans ho) hn'
end
section
variable {X : Cx} {pins : List (Addr × Obj)} {σ : L2.St} {H : Hp} {s : Shared} {a C dx : Addr} {f : Str} {y : V} {u : Value} {fs : List (Str × V)} {Q : Unit → Shared → Prop} {E : Value → Shared → Prop} {A : Around}
theorem OexG.clsD {K : PySem.W.Frag} {C : Addr} (T : OexG K C) : ∃ cd, PySem.W.clsIn K C = some cd ∧ cd.mro.isEmpty = false ∧ cd.mro.contains (.type "object") = true ∧ (∀ self : Value, refuseLoop self "__setattr__" cd.mro = pure ()) ∧ cd.hasDict = true := by
  obtain ⟨nm, q, N, bs, bm, sn, sub, ab, col, dd, k0, k1, k2, k3, k5, B, nw, it, bmB, F, hC, hc, ho, hp⟩ := T.cls
  refine ⟨{ name := nm, bases := bs, mro := .ref C :: bm, ns := N, qualname := q, hasDict := true, slotNames := sn, subclasses := sub, abstract := ab, collection := col, hasDel := false }, by unfold PySem.W.clsIn; rw [hC] <;> rfl, rfl, ?_, hp, rfl⟩
  show (Value.ref C :: bm).contains (.type "object") = true
  rw [List.contains_cons, hc, ho, Bool.or_true]
/-- self.f = y, the first field -/
theorem gost_new (T : OexG X.K C) (I : Inv X pins σ H s) (e : H a = some (exo a C none)) (hno : PySem.W.findIn X.K (.ref C) f = some none) (ry : RelV y u)
    (h : ∀ dx s', H dx = none → dx ≠ a → Inv X pins σ (upd (upd H dx (exd dx [(f, y)])) a (exo a C (some dx))) s' → Q () s') : wpAny (model X.prog X.w) A (setAttr (.ref a) f u) Q E s := by
  obtain ⟨cd, hcd, c1, c2, c3, c4⟩ := T.clsD
  obtain ⟨t1, ho⟩ := exo_at I.hok e
  obtain ⟨hp, g, dr, tk, os⟩ := s
  refine PySem.W.set_plain I.kIn (ox := { cls := .ref C, dict := none, data := .fields #[.ref t1, .none, .none, .none, .bool false, .none] }) (od := none) ⟨ho, rfl, rfl, trivial⟩ T.sa ?_
  refine gosa_new I.kIn ho hcd c1 c2 c3 c4 hno fun h' tk' dx kp big ndx hx hn => ?_
  have n0 : H dx = none := I.hok.fresh big
  have nd : ∀ {b : Addr} {o : Obj}, hp.get? b = some o → b ≠ dx := fun {b o} z => Nat.ne_of_lt (Nat.lt_of_lt_of_le (Heap.lt_size z) big)
  have na : ∀ {b : Addr}, H b = none → b ≠ a := fun {b} z1 z2 => by
    rw [z2, e] at z1
    cases z1
  have U : Un X.fs [] H (upd (upd H dx (exd dx [(f, y)])) a (exo a C (some dx))) hp h' :=
    ⟨fun b o z n _ _ => kp b o (na n) z, fun b o z n _ _ => ⟨o.slots, kp b o (na n) z⟩, fun b o z n _ => by rw [upd_ne (na n), upd_ne (nd z)]; exact n, fun b o z _ => by
      by_cases hb : b = a
      · exact ⟨_, by rw [hb]; exact hx⟩
      · exact ⟨o, kp b o hb z⟩,
     fun b xs z => by rw [upd_ne (at_ne e z exo_tup), upd_ne (ne_of_none z n0)]; exact z, fun b o w z => by rw [upd_ne (at_ne e z exo_frz), upd_ne (ne_of_none z n0)]; exact z,
     fun b ps z => ⟨#[], by rw [upd_ne (at_ne e z exo_tbl), upd_ne (ne_of_none z n0), z]; simp⟩⟩
  refine h dx _ n0 ndx (I.un (t' := tk') U fun b o z => ?_)
  by_cases hb : b = a
  · rw [hb, upd_same] at z
    cases z
    rw [hb]
    exact exo_ok hx
  rw [upd_ne hb] at z
  by_cases hd : b = dx
  · rw [hd, upd_same] at z
    cases z
    rw [hd]
    exact exd_ok hn (relO_put (fs := []) ry fun _ => True.intro)
  rw [upd_ne hd] at z
  refine (I.hok b o z).stay (fun c w hc z' => kp c w ?_ z') (fun c hc => ?_) fun c xs hc => ?_
  · rcases hc with hc | hc
    · rw [hc]
      exact hb
    · exact at_ne e hc exo_own
  · rw [upd_ne (at_ne e hc exo_own), upd_ne (ne_of_none hc n0)]
    exact hc
  · rw [upd_ne (at_ne e hc exo_tup), upd_ne (ne_of_none hc n0)]
    exact hc
/-- self.f = y, a later field -/
theorem gost_old (T : OexG X.K C) (I : Inv X pins σ H s) (e : H a = some (exo a C (some dx))) (ed : H dx = some (exd dx fs)) (hl : fs.length ≤ 900) (hno : PySem.W.findIn X.K (.ref C) f = some none) (ry : RelV y u)
    (h : ∀ s', Inv X pins σ (upd H dx (exd dx ((f, y) :: fs))) s' → Q () s') : wpAny (model X.prog X.w) A (setAttr (.ref a) f u) Q E s := by
  obtain ⟨cd, hcd, c1, c2, c3, c4⟩ := T.clsD
  obtain ⟨t1, ho⟩ := exo_at I.hok e
  obtain ⟨mA, hns, rel⟩ := exd_at I.hok ed
  have hw := within_of rel
  obtain ⟨hp, g, dr, tk, os⟩ := s
  obtain ⟨oD, _, _, hoD, _, _⟩ := hns.count hw
  refine PySem.W.set_plain I.kIn (ox := { cls := .ref C, dict := some dx, data := .fields #[.ref t1, .none, .none, .none, .bool false, .none] }) (od := some oD) ⟨ho, rfl, rfl, hoD⟩ T.sa ?_
  refine gosa_old I.kIn ho hns hw (by rw [List.length_map]; omega) hcd c1 c2 c3 c4 hno fun h' tk' kp hn => ?_
  have st : ∃ o, h'.get? dx = some o := by
    obtain ⟨o, _, _, z, _⟩ := hn
    exact ⟨o, z⟩
  exact h _ (I.write (t' := tk') (x := dx) (e := dx) (o := exd dx ((f, y) :: fs)) (by rw [ed]; exact True.intro) (.inl rfl) kp st (exd_ok hn (relO_put ry rel)))
end
/-- self.f = e, self an exception that is being made -/
def tGst (K : PySem.W.Frag) (f : Str) (to te : TE) : TS := fun D σ H => te σ H fun y H1 => to σ H1 fun x H2 => ∃ a C : Addr, x = .ref a ∧ OexG K C ∧ PySem.W.findIn K (.ref C) f = some none ∧
  ((H2 a = some (exo a C none) ∧ ∀ dx, H2 dx = none → dx ≠ a → D.nx σ (upd (upd H2 dx (exd dx [(f, y)])) a (exo a C (some dx)))) ∨
    ∃ (dx : Addr) (fs : List (Str × V)), H2 a = some (exo a C (some dx)) ∧ H2 dx = some (exd dx fs) ∧ fs.length ≤ 900 ∧ D.nx σ (upd H2 dx (exd dx ((f, y) :: fs))))
section
variable {X : Cx} {o e : Expr} {es : List Expr} {to te : TE} {ta : TA} {f : Str} {p p' p1 p2 pos : Pos}
theorem ps_gst (ho : PE X o to) (he : PE X e te) (hs : swapsWith e (some (.Attribute o f p')) pos.line X.env = pure false := by rfl) : PS X (.Assign [.Attribute o f p'] e pos) (tGst X.K f to te) := by
  refine ⟨fun pins s σ H D I h => ?_⟩
  refine plainObj_wpAny_Assign_Attribute (thn (he.run pins s σ H _ I h) fun v s1 ⟨y, H1, I1, r1, q1⟩ => thn (ho.run pins s1 σ H1 _ I1 q1) fun u s2 z => ?_) hs
  obtain ⟨x, H2, I2, r2, a, C, rfl, T, hno, q⟩ := z
  obtain rfl : u = Value.ref a := r2
  rcases q with ⟨ea, q⟩ | ⟨dx, fs, ea, ed, hl, q⟩
  · exact gost_new T I2 ea hno r1 fun dx s' n ne J => ⟨σ, _, J, q dx n ne⟩
  · exact gost_old T I2 ea ed hl hno r1 fun s' J => ⟨σ, _, J, q⟩
end
/-! ### making such an exception: C(e, ..), its own __init__ keeping sp -/
section
variable {X : Cx} {pins : List (Addr × Obj)} {σ : L2.St} {CX : CXT} {C fI : Addr} {k : Nat} {fd : FuncData} {ps : List Str} {sp : Sp} {ds : List Value} {dvs : List V}
/-- the call, its arguments at hand; G: what is wanted behind it -/
theorem gmake {H1 : Hp} {us : List Value} {vs : List V} {s1 : Shared} {Q' : VK} {G : Value → Shared → Prop} (T : OexG X.K C) (iC : PySem.W.findIn X.K (.ref C) "__init__" = some (some (.ref fI))) (tI : PySem.W.typeIn X.K (.ref fI) = some (.type "function"))
    (F1 : FnOk X.prog X.w X.K X.mg X.base CX k fI fd ps sp) (hr : Room (k + 1) X.A) (hb : Binds X.K fd ps ds) (hd : Vals dvs ds) (hx : Passes CX X (fun _ _ _ => False)) (I1 : Inv X pins σ H1 s1) (r1 : Vals vs us) (hz : vs.length ≤ 1000)
    (q1 : sp (.ref (s1.heap.objs.size + 1) :: (vs ++ dvs)) (upd H1 (s1.heap.objs.size + 1) (exo (s1.heap.objs.size + 1) C none)) Q' (fun _ _ _ => False))
    (hG : ∀ (s0 s2 : Shared) (u : Value), (∀ b o, s1.heap.get? b = some o → s0.heap.get? b = some o) → s0.os = s1.os → Inv X pins σ (upd H1 (s1.heap.objs.size + 1) (exo (s1.heap.objs.size + 1) C none)) s0 →
      CE X.stack X.prog X.w (upd H1 (s1.heap.objs.size + 1) (exo (s1.heap.objs.size + 1) C none)) s0 Q' u s2 → u = .none ∧ G (.ref (s1.heap.objs.size + 1)) s2) :
    wpAny (model X.prog X.w) X.A (call (.ref C) us) G X.xe s1 := by
  obtain ⟨nm, q, N, bs, bm, sn, sub, ab, col, dd, k0, k1, k2, k3, k5, B, nw, it, bmB, FB, hC, hc, _, _⟩ := T.cls
  obtain ⟨hp, g, dr, tk, os⟩ := s1
  dsimp only at q1 hG
  have up : ∀ b o, hp.get? b = some o → ((hp.push (PySem.W.kdv_tup us)).push (PySem.HandSPX.excO C hp.objs.size)).get? b = some o := fun b o z => Heap.get?_push_of_some _ (Heap.get?_push_of_some _ z)
  have new : ((hp.push (PySem.W.kdv_tup us)).push (PySem.HandSPX.excO C hp.objs.size)).get? (hp.objs.size + 1) = some (PySem.HandSPX.excO C hp.objs.size) := by heap_get
  have J : Inv X pins σ (upd H1 (hp.objs.size + 1) (exo (hp.objs.size + 1) C none)) ⟨(hp.push (PySem.W.kdv_tup us)).push (PySem.HandSPX.excO C hp.objs.size), g, dr, tk, os⟩ :=
    I1.laid (t' := tk) (a := hp.objs.size + 1) (o := exo (hp.objs.size + 1) C none) (h' := (hp.push (PySem.W.kdv_tup us)).push (PySem.HandSPX.excO C hp.objs.size)) up (Nat.le_succ _) (exo_ok new)
  have rr : Vals (V.ref (hp.objs.size + 1) :: (vs ++ dvs)) (Value.ref (hp.objs.size + 1) :: (us ++ ds)) := .cons rfl (r1.append hd)
  have hl : (Value.ref (hp.objs.size + 1) :: us ++ ds).length = ps.length := rr.length.symm.trans (F1.len _ _ _ _ q1)
  have hu : us.length ≤ sizeLine := by
    rw [← Paired.length r1, sizeLine_eq]
    omega
  refine wpAny_call (PySem.HandSPX.call_own FB hc (I1.kIn _ _ hC) (PySem.W.looks_findIn I1.kIn iC) (fun self => PySem.W.bind_fn I1.kIn self tI) hu ?_)
  refine codeAny_mono (F1.run _ X.stack _ _ ⟨Value.ref (hp.objs.size + 1) :: us, []⟩ (Value.ref (hp.objs.size + 1) :: (us ++ ds)) _ _ (fun _ _ _ => False) (hr.make C us []) (J.env0.make C us []) (hb _ (Value.ref (hp.objs.size + 1) :: us) J.kIn hl) rr q1) fun r s' z => ?_
  cases r with
  | error er => exact hx pins σ _ _ er s' J z
  | ok fl =>
    cases fl with
    | ret u => exact hG _ s' u up rfl J z
    | next => exact False.elim z
    | brk => exact False.elim z
    | cont => exact False.elim z
/-- .. to be raised -/
theorem gmake_x {H1 : Hp} {us : List Value} {vs : List V} {s1 : Shared} {Q : XK} (T : OexG X.K C) (iC : PySem.W.findIn X.K (.ref C) "__init__" = some (some (.ref fI))) (tI : PySem.W.typeIn X.K (.ref fI) = some (.type "function"))
    (F1 : FnOk X.prog X.w X.K X.mg X.base CX k fI fd ps sp) (hr : Room (k + 1) X.A) (hb : Binds X.K fd ps ds) (hd : Vals dvs ds) (hx : Passes CX X (fun _ _ _ => False)) (I1 : Inv X pins σ H1 s1) (r1 : Vals vs us) (hz : vs.length ≤ 1000)
    (q1 : ∀ a, H1 a = none → sp (.ref a :: (vs ++ dvs)) (upd H1 a (exo a C none))
      (fun v H2 => v = .non ∧ ∃ (d : Addr) (fs : List (Str × V)), H2 a = some (exo a C (some d)) ∧ H2 d = some (exd d fs) ∧ H1 d = none ∧ Q (.ref C) (some d) (upd (del H2 a) d (.xd fs))) (fun _ _ _ => False)) :
    wpAny (model X.prog X.w) X.A (call (.ref C) us) (MkP X pins σ Q) X.xe s1 := by
  refine gmake T iC tI F1 hr hb hd hx I1 r1 hz (q1 _ (I1.hok.fresh (Nat.le_succ _))) fun s0 s2 u up e0 J z => ?_
  obtain ⟨v, H2, os2, bare2, un2, hok2, rv, ev, d, fs, ea, ed, hd1, q2⟩ := z
  subst ev
  obtain ⟨h1, g1, d1, t1, o1⟩ := s1
  obtain ⟨h2, g2, d2, t2, o2⟩ := s2
  obtain ⟨h0, g0, d0, t0, o0⟩ := s0
  obtain rfl : o0 = o1 := e0
  exact ⟨rv, mk_end (raises_own T.exC T.tyC) I1 (Nat.le_succ _) up un2 hok2 os2 bare2 ea ed hd1 q2⟩
variable {x : Str} {p pos : Pos} {e : Expr} {es : List Expr} {ta : TA}
theorem pmk_gex (T : OexG X.K C) (iC : PySem.W.findIn X.K (.ref C) "__init__" = some (some (.ref fI))) (tI : PySem.W.typeIn X.K (.ref fI) = some (.type "function"))
    (F1 : FnOk X.prog X.w X.K X.mg X.base CX k fI fd ps sp) (hr : Room (k + 1) X.A) (hb : Binds X.K fd ps ds) (hd : Vals dvs ds) (hx : Passes CX X (fun _ _ _ => False)) (hg : Gl X x) (hm : X.mg x = some (.ref C)) (ha : PA X (e :: es) ta)
    (hdb : (x == ("__debug__" : Str)) = false := by decide) (he : starEach (e :: es) X.env = (false, eval e X.env) :: starEach es X.env := by rfl) (hpl : (backTo pos (starEach es X.env)).any (·.1) = false := by rfl) :
    PMk X (.Call (.Name x p) (e :: es) [] pos) (tMkO C sp dvs ta) := by
  intro pins s σ H Q I h
  refine wpAny_Call_Name_kw (ld_glob I hg hm ?_ hdb)
  refine PySem.W.callWith_K (h₀ := X.base) I.ok.mod.kin T.kC (thn (ha.run pos pins s σ H _ I h) fun us s1 z => ?_) he hpl
  obtain ⟨vs, H1, I1, r1, hz, q1⟩ := z
  exact ⟨I1.kIn, gmake_x T iC tI F1 hr hb hd hx I1 r1 hz q1⟩
theorem pmk_gex0 (T : OexG X.K C) (iC : PySem.W.findIn X.K (.ref C) "__init__" = some (some (.ref fI))) (tI : PySem.W.typeIn X.K (.ref fI) = some (.type "function"))
    (F1 : FnOk X.prog X.w X.K X.mg X.base CX k fI fd ps sp) (hr : Room (k + 1) X.A) (hb : Binds X.K fd ps ds) (hd : Vals dvs ds) (hx : Passes CX X (fun _ _ _ => False)) (hg : Gl X x) (hm : X.mg x = some (.ref C))
    (hdb : (x == ("__debug__" : Str)) = false := by decide) : PMk X (.Call (.Name x p) [] [] pos) (tMkO C sp dvs tNil) := by
  intro pins s σ H Q I h
  refine wpAny_Call_Name_kw (ld_glob I hg hm ?_ hdb)
  exact PySem.W.callWith_K0 I.kIn T.kC (gmake_x (us := []) T iC tI F1 hr hb hd hx I .nil h.1 h.2)
/-- C(e, ..) as a value that is kept -/
def tMkV (C : Addr) (sp : Sp) (dvs : List V) (ta : TA) : TE := fun σ H Q => ta σ H fun vs H1 => vs.length ≤ 1000 ∧ ∀ a, H1 a = none → sp (.ref a :: (vs ++ dvs)) (upd H1 a (exo a C none)) (fun v H2 => v = .non ∧ Q (.ref a) H2) (fun _ _ _ => False)
theorem gmake_v {H1 : Hp} {us : List Value} {vs : List V} {s1 : Shared} {Q : VK} (T : OexG X.K C) (iC : PySem.W.findIn X.K (.ref C) "__init__" = some (some (.ref fI))) (tI : PySem.W.typeIn X.K (.ref fI) = some (.type "function"))
    (F1 : FnOk X.prog X.w X.K X.mg X.base CX k fI fd ps sp) (hr : Room (k + 1) X.A) (hb : Binds X.K fd ps ds) (hd : Vals dvs ds) (hx : Passes CX X (fun _ _ _ => False)) (I1 : Inv X pins σ H1 s1) (r1 : Vals vs us) (hz : vs.length ≤ 1000)
    (q1 : ∀ a, H1 a = none → sp (.ref a :: (vs ++ dvs)) (upd H1 a (exo a C none)) (fun v H2 => v = .non ∧ Q (.ref a) H2) (fun _ _ _ => False)) :
    wpAny (model X.prog X.w) X.A (call (.ref C) us) (EP X pins σ Q) X.xe s1 := by
  refine gmake T iC tI F1 hr hb hd hx I1 r1 hz (q1 _ (I1.hok.fresh (Nat.le_succ _))) fun s0 s2 u up e0 J z => ?_
  obtain ⟨v, H2, J2, rv, ev, q2⟩ := J.after z
  subst ev
  exact ⟨rv, .ref (s1.heap.objs.size + 1), H2, J2, rfl, q2⟩
theorem pe_gex (T : OexG X.K C) (iC : PySem.W.findIn X.K (.ref C) "__init__" = some (some (.ref fI))) (tI : PySem.W.typeIn X.K (.ref fI) = some (.type "function"))
    (F1 : FnOk X.prog X.w X.K X.mg X.base CX k fI fd ps sp) (hr : Room (k + 1) X.A) (hb : Binds X.K fd ps ds) (hd : Vals dvs ds) (hx : Passes CX X (fun _ _ _ => False)) (hg : Gl X x) (hm : X.mg x = some (.ref C)) (ha : PA X (e :: es) ta)
    (hdb : (x == ("__debug__" : Str)) = false := by decide) (he : starEach (e :: es) X.env = (false, eval e X.env) :: starEach es X.env := by rfl) (hpl : (backTo pos (starEach es X.env)).any (·.1) = false := by rfl) :
    PE X (.Call (.Name x p) (e :: es) [] pos) (tMkV C sp dvs ta) := by
  refine ⟨fun pins s σ H Q I h => ?_⟩
  refine wpAny_Call_Name_kw (ld_glob I hg hm ?_ hdb)
  refine PySem.W.callWith_K (h₀ := X.base) I.ok.mod.kin T.kC (thn (ha.run pos pins s σ H _ I h) fun us s1 z => ?_) he hpl
  obtain ⟨vs, H1, I1, r1, hz, q1⟩ := z
  exact ⟨I1.kIn, gmake_v T iC tI F1 hr hb hd hx I1 r1 hz q1⟩
theorem pe_gex0 (T : OexG X.K C) (iC : PySem.W.findIn X.K (.ref C) "__init__" = some (some (.ref fI))) (tI : PySem.W.typeIn X.K (.ref fI) = some (.type "function"))
    (F1 : FnOk X.prog X.w X.K X.mg X.base CX k fI fd ps sp) (hr : Room (k + 1) X.A) (hb : Binds X.K fd ps ds) (hd : Vals dvs ds) (hx : Passes CX X (fun _ _ _ => False)) (hg : Gl X x) (hm : X.mg x = some (.ref C))
    (hdb : (x == ("__debug__" : Str)) = false := by decide) : PE X (.Call (.Name x p) [] [] pos) (tMkV C sp dvs tNil) := by
  refine ⟨fun pins s σ H Q I h => ?_⟩
  refine wpAny_Call_Name_kw (ld_glob I hg hm ?_ hdb)
  exact PySem.W.callWith_K0 I.kIn T.kC (gmake_v (us := []) T iC tI F1 hr hb hd hx I .nil h.1 h.2)
end
/-! ### C.m(e, ..): a plain def of a class, called by the class's name -/
/-- the class at C tells of its def g under the name m -/
structure CFn (K : PySem.W.Frag) (C : Addr) (m : Str) (g : Addr) : Prop where
  rd : PySem.W.readsIn K C (.type "type") = true
  ga : PySem.W.specialIn K (.ref C) "__getattribute__" = some (some (.builtin "type.__getattribute__"))
  at_ : PySem.W.findCls K (.ref C) (.type "type") m = some (.val (.ref g))
  kp : PySem.W.keepIn K (.ref g) = true
section
variable {X : Cx} {CX : CXT} {k : Nat} {C g : Addr} {fd : FuncData} {ps : List Str} {sp : Sp} {ds : List Value} {dvs : List V} {E : XK} {e : Expr} {es : List Expr} {c m : Str} {p pos apos : Pos} {t : TA} {pl : Sem Bool}
theorem pe_cfn (T : CFn X.K C m g) (F : FnOk X.prog X.w X.K X.mg X.base CX k g fd ps sp) (hr : Room k X.A) (hb : Binds X.K fd ps ds) (hd : Vals dvs ds) (hx : Passes CX X E) (hg : Gl X c) (hm : X.mg c = some (.ref C)) (ha : PA X (e :: es) t)
    (hdb : (c == ("__debug__" : Str)) = false := by decide) (hst : starEach (e :: es) X.env = (false, eval e X.env) :: starEach es X.env := by rfl) (hpl : (backTo pos (starEach es X.env)).any (·.1) = false := by rfl)
    (ht : eval (.Call (.Attribute (.Name c p) m apos) (e :: es) [] pos) X.env = (do
      let ov ← eval (.Name c p) X.env
      standAt apos.atName
      let (f, first) ← holding [ov] (getMethod ov m pl)
      callWith pos f first (backTo pos (starEach (e :: es) X.env)) (backToKw pos (keywordEach [] X.env))) := by rfl) :
    PE X (.Call (.Attribute (.Name c p) m apos) (e :: es) [] pos) (tCall sp dvs E t) := by
  refine ⟨fun pins s σ H Q I h => ?_⟩
  refine PySem.W.methodCall_KW (pl := pl) (ld_glob I hg hm ?_ hdb) ht
  refine PySem.W.method_cls I.kIn T.ga (PySem.W.cls_value I.kIn T.rd T.at_ rfl ?_)
  refine PySem.W.callWith_K (h₀ := X.base) (first := []) I.ok.mod.kin T.kp (thn (ha.run pos pins _ σ H _ (I.tok _) h) fun us s1 z => ?_) hst hpl
  obtain ⟨vs, H1, I1, r, q⟩ := z
  exact ⟨I1.kIn, run_fn F hr hb hd hx I1 r q⟩
end
/-! ### what the __init__s keep -/
/-- a base: self.word = word -/
def spBase (K : PySem.W.Frag) : Sp := fun vs H Q _ => ∃ (a C : Addr) (y : V), vs = [.ref a, y] ∧ OexG K C ∧ PySem.W.findIn K (.ref C) "word" = some none ∧ H a = some (exo a C none) ∧
  ∀ dx, H dx = none → dx ≠ a → Q .non (upd (upd H dx (exd dx [("word", y)])) a (exo a C (some dx)))
/-- a class of refusals: n values, kept under the names that fs tells -/
def spMade (C : Addr) (n : Nat) (fs : List V → List (Str × V)) : Sp := fun vs H Q _ => ∃ (a : Addr) (ws : List V), vs = .ref a :: ws ∧ ws.length = n ∧ H a = some (exo a C none) ∧
  ∀ (dx : Addr) (H2 : Hp), H dx = none → dx ≠ a → (∀ b, b ≠ a → b ≠ dx → H2 b = H b) → H2 a = some (exo a C (some dx)) → H2 dx = some (exd dx (fs ws)) → Q .non H2
/-- all that is wanted of a class of refusals by the def that makes one -/
structure ExcK (P : Program) (w : World) (K : PySem.W.Frag) (mg : Str → Option Value) (base : Heap) (k : Nat) (nm : Str) (C : Addr) (n : Nat) (fs : List V → List (Str × V)) : Prop where
  oex : OexG K C
  mgC : mg nm = some (.ref C)
  init : ∃ (fI : Addr) (fd : FuncData) (ps : List Str), PySem.W.findIn K (.ref C) "__init__" = some (some (.ref fI)) ∧ PySem.W.typeIn K (.ref fI) = some (.type "function") ∧ FnOk P w K mg base CX0 k fI fd ps (spMade C n fs) ∧ Binds K fd ps []
/-- the reading: nm(e, ..), to be raised -/
def tRef (C : Addr) (n : Nat) (fs : List V → List (Str × V)) (ta : TA) : L2.St → Hp → XK → Prop := fun σ H Q => ta σ H fun vs H1 => vs.length = n ∧ vs.length ≤ 1000 ∧ ∀ (d : Addr) (H2 : Hp), H1 d = none → (∀ b, b ≠ d → H1 b ≠ none → H2 b = H1 b) → H2 d = some (.xd (fs vs)) → Q (.ref C) (some d) H2
section
variable {X : Cx} {k : Nat} {nm : Str} {C : Addr} {n : Nat} {fs : List V → List (Str × V)} {p pos : Pos} {e : Expr} {es : List Expr} {ta : TA}
theorem tRef_mk {H1 : Hp} {vs : List V} {Q : XK} (hn : vs.length = n) (h : ∀ (d : Addr) (H2 : Hp), H1 d = none → (∀ b, b ≠ d → H1 b ≠ none → H2 b = H1 b) → H2 d = some (.xd (fs vs)) → Q (.ref C) (some d) H2) (a : Addr) (ha : H1 a = none) :
    spMade C n fs (.ref a :: (vs ++ [])) (upd H1 a (exo a C none))
      (fun v H2 => v = .non ∧ ∃ (d : Addr) (gs : List (Str × V)), H2 a = some (exo a C (some d)) ∧ H2 d = some (exd d gs) ∧ H1 d = none ∧ Q (.ref C) (some d) (upd (del H2 a) d (.xd gs))) (fun _ _ _ => False) := by
  refine ⟨a, vs, by rw [List.append_nil], hn, upd_same, fun dx H2 h1 h2 h3 h4 h5 => ⟨rfl, dx, _, h4, h5, ?_, ?_⟩⟩
  · rw [upd_ne h2] at h1
    exact h1
  · rw [upd_ne h2] at h1
    refine h dx _ h1 (fun b hb hb2 => ?_) upd_same
    have nb : b ≠ a := fun z => hb2 (by rw [z]; exact ha)
    rw [upd_ne hb, del_ne nb, h3 b nb hb, upd_ne nb]
theorem pmk_ref (T : ExcK X.prog X.w X.K X.mg X.base k nm C n fs) (hr : Room (k + 1) X.A) (hg : Gl X nm) (ha : PA X (e :: es) ta)
    (hdb : (nm == ("__debug__" : Str)) = false := by decide) (he : starEach (e :: es) X.env = (false, eval e X.env) :: starEach es X.env := by rfl) (hpl : (backTo pos (starEach es X.env)).any (·.1) = false := by rfl) :
    PMk X (.Call (.Name nm p) (e :: es) [] pos) (tRef C n fs ta) := by
  obtain ⟨fI, fd, ps, i1, i2, i3, i4⟩ := T.init
  intro pins s σ H Q I h
  refine wpAny_Call_Name_kw (ld_glob I hg T.mgC ?_ hdb)
  refine PySem.W.callWith_K (h₀ := X.base) I.ok.mod.kin T.oex.kC (thn (ha.run pos pins s σ H _ I h) fun us s1 z => ?_) he hpl
  obtain ⟨vs, H1, I1, r1, z1, z2, z3⟩ := z
  exact ⟨I1.kIn, gmake_x T.oex i1 i2 i3 hr i4 .nil pass0 I1 r1 z2 (tRef_mk z1 z3)⟩
theorem pmk_ref0 (T : ExcK X.prog X.w X.K X.mg X.base k nm C n fs) (hr : Room (k + 1) X.A) (hg : Gl X nm) (hdb : (nm == ("__debug__" : Str)) = false := by decide) : PMk X (.Call (.Name nm p) [] [] pos) (tRef C n fs tNil) := by
  obtain ⟨fI, fd, ps, i1, i2, i3, i4⟩ := T.init
  intro pins s σ H Q I h
  exact pmk_gex0 T.oex i1 i2 i3 hr i4 .nil pass0 hg T.mgC hdb pins s σ H Q I ⟨h.2.1, fun a ha => tRef_mk h.1 h.2.2 a ha⟩
end
/-! ### except (A, B, ..) as n: any number of classes, any number of clauses -/
section
open PySem.W
variable {M : Model} {K : Frag} {A : Around} {E : Value → Shared → Prop}
theorem exm_walk1 {cls : Value} {h : Heap} {f : Value → PUnit → Sem (ForInStep PUnit)} (hf : ∀ (c : Value) (b : Bool), exmOne K cls c = some b → Looks M h (f c PUnit.unit) (.yield PUnit.unit)) :
    ∀ (cs : List Value) (b : Bool), exmAny K cls cs = some b → Looks M h (forIn cs PUnit.unit f) PUnit.unit := by
  intro cs
  induction cs with
  | nil =>
    intro b _ A Q E s k q
    rw [List.forIn_nil]
    exact wpAny_pure q
  | cons c r ih =>
    intro b hb A Q E s k q
    obtain ⟨b1, d1, e1, e2, _⟩ := exmAny_cons hb
    rw [List.forIn_cons]
    refine wpAny_bind (hf c b1 e1 A _ E s k ?_)
    exact ih d1 e2 A Q E s k q
theorem exm_walk2 {cls : Value} {h : Heap} {f : Value → Option Bool × Unit → Sem (ForInStep (Option Bool × Unit))}
    (hf : ∀ (c : Value) (b : Bool), exmOne K cls c = some b → Looks M h (f c (none, ())) (if b = true then .done (some true, ()) else .yield (none, ()))) :
    ∀ (cs : List Value) (b : Bool), exmAny K cls cs = some b → Looks M h (forIn cs (none, ()) f) (if b = true then some true else none, ()) := by
  intro cs
  induction cs with
  | nil =>
    intro b hb A Q E s k q
    have z : some false = some b := hb
    cases z
    rw [List.forIn_nil]
    exact wpAny_pure q
  | cons c r ih =>
    intro b hb A Q E s k q
    obtain ⟨b1, d1, e1, e2, e3⟩ := exmAny_cons hb
    rw [List.forIn_cons]
    refine wpAny_bind (hf c b1 e1 A _ E s k ?_)
    cases b1 with
    | true =>
      rw [if_pos rfl]
      have z : b = true := e3
      rw [z] at q
      exact wpAny_pure q
    | false =>
      rw [if_neg Bool.false_ne_true]
      have z : b = d1 := e3
      rw [z] at q
      exact ih d1 e2 A Q E s k q
theorem exm_tupN {cs : List Value} {cls : Value} {tp e : Addr} {b : Bool} {h : Heap} (X : K.In h) (LT : Looks M h (typeOf (.ref e)) cls) (hp : h.get? tp = some { cls := .type "tuple", data := .seq cs.toArray }) (hx : exmAny K cls cs = some b) :
    Looks M h (excMatches (.ref e) (.ref tp)) b := by
  intro A Q E s k₀ q
  obtain ⟨hh, g, d, tk, os⟩ := s
  have k : ∀ b o, h.get? b = some o → hh.get? b = some o := k₀
  have isT : Looks M h (isInstance (.ref tp) (.type "tuple")) true := ((Looks.ld hp).andThen .now).andThen (Looks.of_pure isSubtype_tuple_tuple)
  have w1 := exm_walk1 (M := M) (h := h) (K := K) (cls := cls) (f := fun c __s => do
      let __do_lift ← isExcClass c
      if (!__do_lift) = true then do
          rule "try.except-non-exception-class"
          raiseErrorWords "TypeError" "catching classes that do not inherit from BaseException is not allowed"
          pure (ForInStep.yield PUnit.unit)
        else pure (ForInStep.yield PUnit.unit)) (fun c b hc A Q E s k q => wpAny_bind (((exm_cls (M := M) X hc).1.keeps k).here (by rw [if_neg (by decide)]; exact wpAny_pure q))) cs b hx
  have w2 := exm_walk2 (M := M) (h := h) (K := K) (cls := cls) (f := fun c __s => do
      let __do_lift ← isSubtype cls c
      if __do_lift = true then pure (ForInStep.done (some true, ())) else pure (ForInStep.yield (none, ())))
    (fun c b hc A Q E s k q => wpAny_bind (((exm_cls (M := M) X hc).2.keeps k).here (by cases b <;> exact wpAny_pure q))) cs b hx
  unfold excMatches
  refine wpAny_bind ((isT.keeps k).at ?_)
  dsimp only
  rw [if_pos rfl]
  first
    | refine wpAny_bind (wpAny_seqItems (k _ _ hp) rfl ?_)
    | refine wpAny_bind (wpAny_bind (wpAny_seqItems (k _ _ hp) rfl (wpAny_pure ?_)))
  dsimp only [Option.getD_some, Option.getD]
  first
    | refine wpAny_pure (wpAny_bind ((w1.keeps k).at (wpAny_bind ((LT.keeps k).at (wpAny_bind ((w2.keeps k).at ?_))))))
    | refine wpAny_bind (wpAny_pure (wpAny_bind ((w1.keeps k).at (wpAny_bind ((LT.keeps k).at (wpAny_bind ((w2.keeps k).at ?_)))))))
  cases b <;> exact wpAny_pure q
end
theorem flyZ_keeps {B : Heap} {l : List Env} {a : Addr} {Z : Obj → Prop} {h h' : Heap} (fl : HandSPX.FlyingZ B l a Z h) (k : ∀ b o, h.get? b = some o → h'.get? b = some o) : HandSPX.FlyingZ B l a Z h' := by
  obtain ⟨k1, k2, k3, oe, vs, T, oT, ts, he, hz, hd, h1, hnT, hTe, hT, hdT, h3⟩ := fl
  exact ⟨fun b o z => k b o (k1 b o z), k2, k3.of_keeps (fun b o hb _ => ⟨o, k b o hb, rfl⟩), oe, vs, T, oT, ts, k _ _ he, hz, hd, h1, hnT, hTe, k _ _ hT, hdT, h3⟩
/-- the classes that an except clause names -/
inductive NamesL (X : Cx) : List Expr → List Value → Prop
  | nil : NamesL X [] []
  | cons {x : Str} {c : Value} {p : Pos} {es : List Expr} {cs : List Value} : Names X x c → NamesL X es cs → NamesL X (.Name x p :: es) (c :: cs)
inductive TestIs (X : Cx) : Expr → List Value → Prop
  | one {x : Str} {c : Value} {p : Pos} : Names X x c → TestIs X (.Name x p) [c]
  | tup {es : List Expr} {cs : List Value} {k : Nat} {p : Pos} : NamesL X es cs → cs.length ≤ 1000 → TestIs X (.Tuple es k p) cs
section
variable {X : Cx} {a : Addr} {pn : List (Addr × Obj)} {σ : L2.St} {H : Hp} {s : Shared}
theorem name_run {x : Str} {c : Value} {p : Pos} {Q : Value → Shared → Prop} {E : Value → Shared → Prop} (S : Inv (X.suite a pn) [] σ H s) (n : Names X x c) (q : Q c s) : wpAny (model X.prog X.w) (X.A.mark (some (.ref a))) (eval (.Name x p) X.env) Q E s := by
  obtain ⟨hg, hd, hm | ⟨hm, hv, hn⟩⟩ := n
  · exact ld_glob (X := X.suite a pn) S hg hm q hd
  · exact ld_blt (X := X.suite a pn) S hg hm hv q hn hd
theorem names_run {E : Value → Shared → Prop} {pos : Pos} (S : Inv (X.suite a pn) [] σ H s) : ∀ {es : List Expr} {cs : List Value} {Q : List Value → Shared → Prop}, NamesL X es cs → Q cs s → wpAny (model X.prog X.w) (X.A.mark (some (.ref a))) (spliced (backTo pos (starEach es X.env))) Q E s := by
  intro es cs Q n
  induction n generalizing Q with
  | nil => exact fun q => wpAny_items_nil q
  | cons hn _ ih => exact fun q => wpAny_items_cons (name_run S hn (ih (Q := fun vs s2 => Q (_ :: vs) s2) q))
theorem test_run {t : Expr} {cs : List Value} {cls : Value} {b : Bool} {Q : Bool → Shared → Prop} {E : Value → Shared → Prop} (S : Inv (X.suite a pn) [] σ H s) (T : TestIs X t cs) (LT : PySem.W.Looks (model X.prog X.w) s.heap (typeOf (.ref a)) cls) (hx : PySem.W.exmAny X.K cls cs = some b)
    (hq : ∀ h', (∀ q o, s.heap.get? q = some o → h'.get? q = some o) → Q b { s with heap := h' }) :
    wpAny (model X.prog X.w) (X.A.mark (some (.ref a))) (eval t X.env) (fun c s₁ => wpAny (model X.prog X.w) (X.A.mark (some (.ref a))) (excMatches (.ref a) c) Q E s₁) E s := by
  cases T with
  | one n =>
    obtain ⟨b1, d1, e1, e2, e3⟩ := PySem.W.exmAny_cons hx
    have z : some false = some d1 := e2
    cases z
    rw [Bool.or_false] at e3
    subst e3
    exact name_run S n ((PySem.W.exm_one S.kIn LT e1).here (hq s.heap fun _ _ z => z))
  | tup n hl =>
    refine wpAny_Tuple (names_run S n ⟨by rw [sizeLine_eq]; omega, ?_⟩)
    have kp : ∀ q o, s.heap.get? q = some o → (s.heap.push { cls := .type "tuple", data := .seq cs.toArray }).get? q = some o := fun _ _ z => Heap.get?_push_of_some _ z
    exact (exm_tupN (S.kIn.keeps kp) (LT.keeps kp) (Heap.get?_push_size s.heap rfl) hx).here (hq _ kp)
end
/-- what the clauses 'except .. as n' wish of an exception of the body, one behind the other: slot i is n's -/
def wAsN (K : PySem.W.Frag) (i : Nat) (Wout : WX) (D : Ends) : List (List Value × (Addr → Value → Option Addr → TS)) → WX
  | [] => Wout
  | (cs, ts) :: r => fun cls d σ H => ∃ b, PySem.W.exmAny K cls cs = some b ∧
      (b = true → ∀ a, H a = none → ts a cls d { nx := fun σ' H' => D.nx (σ'.set i none) H', rt := D.rt, bk := fun σ' H' => D.bk (σ'.set i none) H', ct := fun σ' H' => D.ct (σ'.set i none) H' } (σ.set i (some (.ref a))) H) ∧
      (b = false → wAsN K i Wout D r cls d σ H)
inductive HdsAs (X : Cx) (n : Str) : List ExceptHandler → List (List Value × (Addr → Value → Option Addr → TS)) → Prop
  | nil : HdsAs X n [] []
  | cons {t : Expr} {cs : List Value} {ts : Addr → Value → Option Addr → TS} {b₀ : Stmt} {suite : List Stmt} {pos' : Pos} {hds : List ExceptHandler} {l : List (List Value × (Addr → Value → Option Addr → TS))} (ht : TestIs X t cs)
      (hsu : ∀ (a : Addr) (oe : Obj) (cls : Value) (d : Option Addr) (pn : List (Addr × Obj)), Zc cls d oe → (∃ vs, oe.data = .fields vs) → PSs (X.suite a ((a, oe) :: pn)) (b₀ :: suite) (ts a cls d)) (r : HdsAs X n hds l) :
      HdsAs X n (.ExceptHandler (some t) (some n) (b₀ :: suite) pos' :: hds) ((cs, ts) :: l)
section
variable {X : Cx} {n : Str} {i : Nat} {body : List Stmt} {h₀ : ExceptHandler} {hds : List ExceptHandler} {l : List (List Value × (Addr → Value → Option Addr → TS))} {pos : Pos} {tb : WX → TS} {Wout : WX}
/-- the clauses are gone through, the exception at a being caught -/
theorem hds_run (hs : X.stack = X.env :: X.outer) (hf : X.env.frame = some X.env.locals) (hN : X.N.Nodup) (hi : X.N[i]? = some n) (hln : X.env.kindOf n = some .local) (tk : Takes X Wout)
    {pins : List (Addr × Obj)} {a : Addr} {B : Heap} {sI : Shared} {σ : L2.St} {H : Hp} {cls : Value} {d : Option Addr} {D : Ends} (J : Inv X pins σ H sI) (nb : ∀ b o, sI.heap.get? b = some o → b ∉ frs X.stack → B.get? b = some o) (na : H a = none) :
    ∀ {hs' : List ExceptHandler} {l' : List (List Value × (Addr → Value → Option Addr → TS))}, HdsAs X n hs' l' → wAsN X.K i Wout D l' cls d σ H → ∀ s' : Shared, HandSPX.FlyingZ B (X.env :: X.outer) a (Zc cls d) s'.heap → sI.heap.UpToSlots s'.heap → s'.os = sI.os → AllBare s'.gens →
      wpAny (model X.prog X.w) X.A (handleBy (.ref a) X.env hs') (SP X pins D) X.xe s' := by
  intro hs' l' hk
  induction hk with
  | nil =>
    intro w s' fl up os ag
    refine wpAny_handleBy_nil ?_
    obtain ⟨_, _, _, oe, vs, T, oT, ts', he, hz, hd, h1, _⟩ := id fl
    unfold PySem.passOn
    refine wpAny_bind (wpAny_field he hd h1 ?_)
    rw [if_neg (show ¬ ((Value.ref T == Value.none) = true) from by simp)]
    have fin : wpAny (model X.prog X.w) X.A (setFlight (.ref a) X.env.frame) (fun _ s4 => wpAny (model X.prog X.w) X.A (throw (.ref a) : Sem Flow) (SP X pins D) X.xe s4) X.xe s' := by
      rw [hf]
      refine HandSPX.setFlight_upZ fl fun h4 hh4 up4 => wpAny_throw (tk _ _ ?_)
      exact ⟨a, B, sI, pins, σ, H, cls, d, rfl, J, nb, up.trans up4, .inr (.inr (by rw [hs]; exact hh4)), na, os, ag, w⟩
    first
      | exact wpAny_bind (wpAny_pure (wpAny_bind fin))
      | exact wpAny_bind fin
  | @cons t cs ts b₀ suite pos' hds2 l2 ht hsu r ih =>
    intro w s' fl up os ag
    obtain ⟨b, hb1, hyes, hno⟩ := w
    have ok := J.ok
    have J3 : Inv X pins σ H s' := J.landed nb fl.1 up os ag
    have out : ∀ {h : Heap} {o : Obj} {vs : Array Value}, h.FunFrames B (X.env :: X.outer) → h.get? a = some o → o.data = .fields vs → a ∉ frs (X.env :: X.outer) := fun {h o vs} ff e dd hm => by
      obtain ⟨_, o', e', hnf⟩ := ff.mem hm
      rw [e] at e'
      cases e'
      exact hnf _ dd
    obtain ⟨oe3, vs3, he3, hz3, hd3⟩ := fl.there
    have nfr := out fl.2.2.1 he3 hd3
    have nL : a ≠ X.env.locals := fun z => nfr (List.mem_filterMap.mpr ⟨X.env, List.mem_cons_self, by rw [hf, z]⟩)
    have nF : a ∉ X.fs := fun hm => by
      obtain ⟨e, he, q⟩ := List.mem_filterMap.mp hm
      exact nfr (List.mem_filterMap.mpr ⟨e, List.mem_cons_of_mem _ he, q⟩)
    have S3 := J3.suite he3 hd3 na nL nF
    have LT : PySem.W.Looks (model X.prog X.w) s'.heap (typeOf (.ref a)) cls := fun A Q E s k q => wpAny_typeOf_ref (k _ _ he3) (by rw [hz3.1]; exact q)
    refine wpAny_handleBy_cons (codeAny_handlers_test ?_) (by intro q; cases q)
    refine test_run S3 ht LT hb1 fun h4 kp => ?_
    have fl4 : HandSPX.FlyingZ B (X.env :: X.outer) a (Zc cls d) h4 := flyZ_keeps fl kp
    have up4 : sI.heap.UpToSlots h4 := up.trans (Heap.UpToSlots.of_keeps kp)
    cases b with
    | false =>
      show wpAny _ X.A (handleBy (.ref a) X.env hds2) _ _ _
      exact ih (hno rfl) { s' with heap := h4 } fl4 up4 os ag
    | true =>
      refine codeAny_handlers_suite_as ?_
      refine HandSPX.lands_againZ (s := { s' with heap := h4 }) fl4 fun h5 fl5 up5 => ?_
      have J5 : Inv X pins σ H { s' with heap := h5 } := J.landed nb fl5.1 (up4.trans up5) os ag
      obtain ⟨oe5, vs5, he5, hz5, hd5⟩ := fl5.there
      have S5 := J5.suite he5 hd5 na nL nF
      refine store_ok (X := X.suite a ((a, oe5) :: (X.pn ++ pins))) (v := .ref a) S5 hN hi (.inl hln) rfl (fun s6 S6 => ?_) (.inr hln)
      refine wpAny_mono ((hsu a oe5 cls d (X.pn ++ pins) hz5 ⟨_, hd5⟩).run [] s6 _ H _ S6 (hyes rfl a na)) (fun f s7 hsp => ?_) (fun _ _ z => False.elim z)
      have goes : ∀ {σ7 : L2.St} {H7 : Hp} {Q : Shared → Prop}, Inv (X.suite a ((a, oe5) :: (X.pn ++ pins))) [] σ7 H7 s7 → (∀ s8, Inv X pins (σ7.set i none) H7 s8 → Q s8) →
          wpAny (model X.prog X.w) X.A (do bindName X.env n .none; unbindBehindTheSuite X.env n pos') (fun _ s8 => Q s8) X.xe s7 := fun {σ7 H7 Q} S7 hq => gone_ok (S7.unsuite ok) hN hi hln hq
      cases f with
      | next =>
        obtain ⟨σ7, H7, S7, q7⟩ := hsp
        exact goes S7 fun s8 J8 => ⟨_, _, J8, q7⟩
      | brk =>
        obtain ⟨σ7, H7, S7, q7⟩ := hsp
        exact goes S7 fun s8 J8 => ⟨_, _, J8, q7⟩
      | cont =>
        obtain ⟨σ7, H7, S7, q7⟩ := hsp
        exact goes S7 fun s8 J8 => ⟨_, _, J8, q7⟩
      | ret u =>
        obtain ⟨v7, σ7, H7, S7, r7, q7⟩ := hsp
        exact goes S7 fun s8 J8 => ⟨_, _, _, J8, r7, q7⟩
theorem ps_try_asN (hs : X.stack = X.env :: X.outer) (hf : X.env.frame = some X.env.locals) (hN : X.N.Nodup) (hi : X.N[i]? = some n) (hln : X.env.kindOf n = some .local) (tk : Takes X Wout)
    (hb : ∀ (W : WX) (pn : List (Addr × Obj)) (xe : Value → Shared → Prop), Takes (X.tr pn xe) W → PassesOwn (model X.prog X.w) X.A X.env xe → PSs (X.tr pn xe) body (tb W))
    (hh : HdsAs X n (h₀ :: hds) l) : PS X (.Try body (h₀ :: hds) [] [] pos) (fun D σ H => tb (wAsN X.K i Wout D l) D σ H) := by
  refine ⟨fun pins s σ H D I h => ?_⟩
  have ok := I.ok
  have hfr : X.A.frames = some (X.env :: X.outer) := by rw [ok.frames, hs]
  refine wpAny_Try_except ?_
  refine wpAny_mono ((hb (wAsN X.K i Wout D l) (X.pn ++ pins) (fun e s₁ => wpAny (model X.prog X.w) X.A (noteFrame e X.env) (fun _ s₂ => wpAny (model X.prog X.w) X.A (setFlight e none) (fun _ s₃ =>
    wpAny (model X.prog X.w) X.A (handleBy e X.env (h₀ :: hds)) (SP X pins D) X.xe s₃) X.xe s₂) X.xe s₁) (fun u s' xx => ?_) PassesOwn.looking).run [] s σ H D (I.toTry _) h) (fun f s1 hsp => ?_) (fun e s1 he => he)
  · obtain ⟨a, B, sI, pins', σ', H', cls, d, rfl, J', nb, up, sky, na, os, ag, w⟩ := xx
    rw [show (X.tr (X.pn ++ pins) _).stack = X.env :: X.outer from hs] at sky
    show wpAny (model X.prog X.w) X.A (noteFrame (.ref a) X.env) _ _ _
    refine Sky.land Zc.steady hfr hf sky fun h3 fl3 up3 => ?_
    exact hds_run hs hf hN hi hln tk (J'.ofTry ok) nb na hh w { s' with heap := h3 } fl3 (up.trans up3) os ag
  · cases f with
    | next =>
      obtain ⟨σ', H', J', q⟩ := hsp
      exact wpAny_execs_nil ⟨σ', H', J'.ofTry ok, q⟩
    | brk =>
      obtain ⟨σ', H', J', q⟩ := hsp
      exact ⟨σ', H', J'.ofTry ok, q⟩
    | cont =>
      obtain ⟨σ', H', J', q⟩ := hsp
      exact ⟨σ', H', J'.ofTry ok, q⟩
    | ret u =>
      obtain ⟨v, σ', H', J', r, q⟩ := hsp
      exact ⟨v, σ', H', J'.ofTry ok, r, q⟩
end
/-! ### the head by facts: Bools over what the top has written -/
theorem funOf {K : PySem.W.Frag} {x qual : Str} {st : Stmt} {f : Addr} {fd : FuncData} (F : FunD K x qual (defArgs st) (defBody st) (defScope st) [] [] f fd) : Fun K x qual st f fd := by
  obtain ⟨oc, od, dV, kV, doc, pm, an, cdv, ct, osl, e, lk, hcd, hd, _⟩ := F.ex
  have hn : dV = .none := by
    rcases hd with ⟨_, z⟩ | ⟨z, _⟩
    · exact z
    · exact absurd rfl z
  subst hn
  exact ⟨⟨oc, od, kV, doc, pm, an, cdv, ct, osl, e, lk, hcd⟩, F.kp⟩
theorem frN_eq (n : Nat) (k : Nat → Bool) : frN n k = k n := by
  cases n <;> rfl
theorem frL_eq : ∀ (l : List Addr) (k : List Addr → Bool), frL l k = k l
  | [], _ => rfl
  | a :: r, k => by
    show frN a (fun a => frL r fun r => k (a :: r)) = _
    rw [frN_eq, frL_eq r]
theorem isNw_ok {nw : String} {l : List (Option Value)} (h : isNw nw l = true) : ∃ k0 k1 k2 k3 k5 : Option Value, l = [k0, k1, k2, k3, some (.builtin nw), k5] := by
  unfold isNw at h
  split at h
  · have e := of_decide_eq_true h
    subst e
    exact ⟨_, _, _, _, _, rfl⟩
  · cases h
theorem oexB_ok {K : PySem.W.Frag} {C CB : Addr} {B nw it : String} (FB : ExcBaseFacts B nw it (excT B)) (S : ∀ self : Value, refuseLoop self "__setattr__" (excT B) = pure ()) (hob : (excT B).contains (.type "object") = true) (h : oexB K C CB B nw = true) : OexG K C := by
  obtain ⟨h1, h⟩ := He.ba h
  obtain ⟨h2, h⟩ := He.ba h
  obtain ⟨h3, h⟩ := He.ba h
  obtain ⟨h4, h5⟩ := He.ba h
  refine ⟨?_, He.eqO_ok h2, of_decide_eq_true h3, of_decide_eq_true h4, h5⟩
  cases q : K.lookup C with
  | none =>
    rw [q] at h1
    cases h1
  | some o =>
    obtain ⟨oc, od, dt, osl⟩ := o
    rw [q] at h1
    cases oc with
    | type t =>
      cases dt with
      | cls cd =>
        obtain ⟨n1, n2, n3, n4, n5, n6, n7, n8, n9, n10, n11⟩ := cd
        obtain ⟨a1, h1⟩ := He.ba h1
        obtain ⟨a2, h1⟩ := He.ba h1
        obtain ⟨a3, h1⟩ := He.ba h1
        obtain ⟨a4, a5⟩ := He.ba h1
        have e1 : t = "type" := of_decide_eq_true a1
        have e2 : n3 = .ref C :: .ref CB :: excT B := of_decide_eq_true a2
        have e3 : n6 = true := a3
        have e4 : n11 = false := by
          cases n11 with
          | false => rfl
          | true => cases a4
        obtain ⟨sl⟩ := osl
        obtain ⟨k0, k1, k2, k3, k5, e5⟩ := isNw_ok a5
        have e6 : sl = [k0, k1, k2, k3, some (.builtin nw), k5] := e5
        subst e1 e2 e3 e4 e6
        exact ⟨_, _, _, _, _, _, _, _, _, _, _, _, _, _, _, B, _, _, _, FB, rfl, fun Y => by rw [List.contains_cons]; rfl, hob, fun self => by rw [refuseLoop_ref, refuseLoop_ref]; exact S self⟩
      | _ => cases h1
    | _ => cases dt <;> cases h1
theorem cfnB_ok {K : PySem.W.Frag} {C g : Addr} (h : cfnB K C g = true) : CFn K C "__init__" g := by
  obtain ⟨h1, h⟩ := He.ba h
  obtain ⟨h2, h⟩ := He.ba h
  obtain ⟨h3, h4⟩ := He.ba h
  refine ⟨h1, He.eqO_ok h2, ?_, h4⟩
  split at h3
  · rename_i a e
    have e2 : a = g := of_decide_eq_true h3
    rw [e, e2]
  · cases h3
structure LeafK (K : PySem.W.Frag) (x b : Str) (fl : List Str) : Prop where
  T : OexG K (He.ga K x)
  B : CFn K (He.ga K b) "__init__" (He.ma K (He.ga K b) "__init__")
  i : PySem.W.findIn K (.ref (He.ga K x)) "__init__" = some (some (.ref (He.ma K (He.ga K x) "__init__")))
  t : PySem.W.typeIn K (.ref (He.ma K (He.ga K x) "__init__")) = some (.type "function")
  n : ∀ f ∈ ("word" : Str) :: fl, PySem.W.findIn K (.ref (He.ga K x)) f = some none
theorem leafB_ok {K : PySem.W.Frag} {x b : Str} {B nw it : String} {fl : List Str} (FB : ExcBaseFacts B nw it (excT B)) (S : ∀ self : Value, refuseLoop self "__setattr__" (excT B) = pure ()) (hob : (excT B).contains (.type "object") = true) (h : leafB K x b B nw fl = true) : LeafK K x b fl := by
  unfold leafB at h
  rw [frN_eq, frN_eq] at h
  obtain ⟨h1, h⟩ := He.ba h
  obtain ⟨h2, h⟩ := He.ba h
  obtain ⟨h3, h⟩ := He.ba h
  obtain ⟨h4, h5⟩ := He.ba h
  exact ⟨oexB_ok FB S hob h1, cfnB_ok h2, He.eqO_ok h3, of_decide_eq_true h4, fun f hf => He.eqO_ok (List.all_eq_true.mp h5 f hf)⟩
theorem leafV {K : PySem.W.Frag} {x b : Str} {fl : List Str} (h : leafB K x b "ValueError" "ValueError.__new__" fl = true) : LeafK K x b fl := leafB_ok F.excBase_ValueError F.store_ValueError.passes (by decide +kernel) h
theorem leafL {K : PySem.W.Frag} {x b : Str} {fl : List Str} (h : leafB K x b "LookupError" "LookupError.__new__" fl = true) : LeafK K x b fl := leafB_ok F.excBase_LookupError F.store_LookupError.passes (by decide +kernel) h
theorem leafR {K : PySem.W.Frag} {x b : Str} {fl : List Str} (h : leafB K x b "RuntimeError" "RuntimeError.__new__" fl = true) : LeafK K x b fl := leafB_ok F.excBase_RuntimeError F.store_RuntimeError.passes (by decide +kernel) h
/-! ### the Hook: what the top's names reach in n steps, and the statics (which readsIn asks for) -/
def wide (g : Addr → Option Obj) (n : Nat) : List Addr := PySem.cStatics :: He.asD g n
theorem tabs_out {g : Addr → Option Obj} {tf : List He.Defn} {as : List Addr} (h : He.tabsB g tf (He.frT g as) = true) (p : He.Defn) (hp : p ∈ tf) :
    PySem.W.codeHdIn (He.frT g as) (He.cT (He.frT g as) p).1 (He.cT (He.frT g as) p).2 = true ∧ (He.frT g as).lookup (He.cT (He.frT g as) p).2 = none ∧ g (He.cT (He.frT g as) p).2 = some { cls := .none, data := .fields #[] } := by
  have z := List.all_eq_true.mp h p hp
  obtain ⟨z1, z2⟩ := He.ba z
  generalize (He.cT (He.frT g as) p).2 = t at z1 z2 ⊢
  cases e : g t with
  | none =>
    rw [e] at z2
    cases z2
  | some u =>
    rw [e] at z2
    exact ⟨z1, He.frT_none e z2, congrArg some (He.emptyTab_eq z2)⟩
def lookS (n : Nat) (fa : List He.Fa) (fn : List He.DefD) (tf : List He.Defn) (ex : PySem.W.Frag → Bool) (g : Addr → Option Obj) : He.AlX :=
  (He.obsT fa fn [] (He.frT g (wide g n)), ex (He.frT g (wide g n)) && He.tabsB g tf (He.frT g (wide g n)))
theorem lookS_says {n : Nat} {fa : List He.Fa} {fn : List He.DefD} {tf : List He.Defn} {ex : PySem.W.Frag → Bool} {w : World} {h : Heap} (e : lookS n fa fn tf ex h.get? = He.valX fn [] w) : He.SaysX fa fn [] tf ex w h (He.frT h.get? (wide h.get? n)) := by
  have a : _ = He.valT fn [] w := congrArg Prod.fst e
  obtain ⟨b, c⟩ := He.ba (show _ = true from congrArg Prod.snd e)
  exact { t := a, more := b, hd := fun p hp => (tabs_out c p hp).1, out := fun p hp => (tabs_out c p hp).2.1, empty := fun p hp => (tabs_out c p hp).2.2 }
def hookS (n : Nat) (fa : List He.Fa) (fn : List He.DefD) (tf : List He.Defn) (ex : PySem.W.Frag → Bool) : PySem.W.Hook :=
  { α := He.AlX, obs := fun s => lookS n fa fn tf ex s.heap.get?, val := He.valX fn [], says := fun w h => ∃ K : PySem.W.Frag, K.In h ∧ He.SaysX fa fn [] tf ex w h K, of := fun w s e => ⟨_, He.frT_in, lookS_says e⟩,
    keeps := fun w h h' y k => by
      obtain ⟨K, i, c⟩ := y
      exact ⟨K, PySem.W.Frag.In.keeps i k, { t := c.t, more := c.more, hd := c.hd, out := c.out, empty := fun p hp => k _ _ (c.empty p hp) }⟩ }
theorem lookS_eq {n : Nat} {fa : List He.Fa} {fn : List He.DefD} {tf : List He.Defn} {ex : PySem.W.Frag → Bool} (s : PySem.W.SharedT) : lookS n fa fn tf ex (HandSHeadRun.getT s) = (hookS n fa fn tf ex).obs s.abs := by
  rw [show HandSHeadRun.getT s = s.abs.heap.get? from funext (HandSHeadRun.getT_eq s)]
  rfl
/-! ### t.index(n), t a tuple of ints -/
section
variable {X : Cx}
theorem mt_tup_indexI : MtR X "tuple.index" (fun x xs H Q => ∃ (p : Addr) (ys : List Int) (n : Int) (j : Nat), x = .ref p ∧ xs = [.int n] ∧ SqT X.K H p (ys.map V.int) ∧ ys[j]? = some n ∧ (∀ m, m < j → ys[m]? ≠ some n) ∧ Q (.int (j : Nat)) H) := by
  intro pins s σ H x xs v us Q I rx rs h
  obtain ⟨p, ys, n, j, ex, exs, hT, hj, hb, q⟩ := h
  subst ex exs
  cases rx
  obtain ⟨un, eu, tu, etu⟩ := vals1 rs
  subst eu etu
  obtain ⟨its, r, ⟨⟨oc, od, odt, osl⟩, hob, hcl, ep, hdt⟩, hz⟩ := I.tuple hT
  simp only at hcl hdt
  subst hcl hdt
  have hs : its.toArray.size = ys.length := by
    rw [List.size_toArray, ← r.length, List.length_map]
  have hlt : j < ys.length := (List.getElem?_eq_some_iff.mp hj).1
  have what : ∀ (m : Nat) (hm : m < its.toArray.size), ∃ (y : Int) (ty : Tok), ys[m]? = some y ∧ its.toArray[m] = Value.int y ty := fun m hm => by
    have hm2 : m < ys.length := hs ▸ hm
    obtain ⟨wv, hw, ty, hty⟩ := r.get (i := m) (x := V.int ys[m]) (by simp [hm2])
    have e1 := (List.getElem?_eq_some_iff.mp hw).2
    exact ⟨ys[m], ty, List.getElem?_eq_getElem hm2, by rw [← hty, ← e1]; simp⟩
  refine call_meets PySem.F.slot_tuple_index ⟨_, hob, rfl⟩ PySem.F.entry_tuple_index (PySem.F.args_tuple_index_2 _ _)
    (TI.tuple_indexAt p its.toArray ep od osl (.int n tu) (eqU (.int n)) j (by rw [hs]; exact hlt) ?_ fun m hm hmj => ?_)
    ⟨hob, fun wv hw => mem_eqAt (x := .int n) ⟨tu, rfl⟩ rfl r (by rw [List.all_map]; exact List.all_eq_true.mpr fun _ _ => rfl) wv (by simpa using hw), ⟨.int (j : Nat), H, I.tok _, ⟨_, rfl⟩, q⟩⟩
  · obtain ⟨y, ty, h1, h2⟩ := what j (by rw [hs]; exact hlt)
    rw [hj] at h1
    obtain rfl := Option.some.inj h1
    rw [h2]
    show decide (n = n) = true
    exact decide_eq_true rfl
  · obtain ⟨y, ty, h1, h2⟩ := what m hm
    rw [h2]
    show decide (y = n) = false
    exact decide_eq_false fun z => hb m hmj (by rw [h1, z])
end
/-! ### tuples that are known to have no dict of their own: written down as they stand -/
def NoD (o : Obj) : Prop := o.cls = .type "tuple" ∧ o.dict = none
def tTupF (t : TA) : TE := fun σ H Q => t σ H fun xs H1 => xs.length ≤ sizeLine ∧ ∀ (p : Addr) (o : Obj), H1 p = none → NoD o → Q (.ref p) (upd H1 p (.frz o (.tup xs)))
def tBMF (r : V → List V → Hp → VK → Prop) (to : TE) (t : TA) : TE := fun σ H Q => to σ H fun x H1 => (∃ (p : Addr) (o : Obj) (ys : List V), x = .ref p ∧ H1 p = some (.frz o (.tup ys)) ∧ NoD o) ∧ t σ H1 fun xs H2 => r x xs H2 Q
section
variable {X : Cx} {e : Expr} {es : List Expr} {t : TA} {pos : Pos}
theorem pe_tupF {x1} (h : PA X es t) : PE X (.Tuple es x1 pos) (tTupF t) := ⟨fun pins s σ H Q I hq => by
  refine wpAny_Tuple_spliced (thn (h.run pos pins s σ H _ I hq) fun us s1 ⟨xs, H1, I1, r, z, q⟩ => ⟨r.length ▸ z, ?_⟩)
  have fresh := I1.hok.fresh (Nat.le_refl s1.heap.objs.size)
  refine ⟨.ref s1.heap.objs.size, _, I1.laid (o := .frz _ (.tup xs)) (t' := s1.toks) (fun b u e => Heap.get?_push_of_some _ e) (Nat.le_refl _) ⟨Heap.get?_push_size _ rfl, z, us, r, _, Heap.get?_push_size _ rfl, rfl, _, rfl⟩, rfl, q _ _ fresh ⟨rfl, rfl⟩⟩⟩
theorem pe_bmF {o : Expr} {to : TE} {name : Str} {apos : Pos} {id : String} {r : V → List V → Hp → VK → Prop} (slot : Slot "tuple" name id) (hty : typeOf (.builtin id) = pure (.type "method_descriptor")) (hm : MtR X id r) (ho : PE X o to) (ha : PA X (e :: es) t)
    (hb : attributeBase o name X.env (eval o X.env) = eval o X.env := by rfl) (hfw : ((backTo pos (starEach (e :: es) X.env)).all (fun x => !x.1) && (backToKw pos (keywordEach [] X.env)).all (fun x => x.1.isSome) && decide ((e :: es).length + ([] : List Keyword).length + (if ([] : List Keyword).isEmpty then 0 else 1) < 30)) = true := by rfl)
    (hln : (apos.endLine == pos.line) = true := by rfl) (hst : starEach (e :: es) X.env = (false, eval e X.env) :: starEach es X.env := by rfl) (hpl : (backTo pos (starEach es X.env)).any (·.1) = false := by rfl) :
    PE X (.Call (.Attribute o name apos) (e :: es) [] pos) (tBMF r to t) := ⟨fun pins s σ H Q I h => by
  refine wpAny_Call_method_late hb hfw hln rfl (thn (ho.run pins s σ H _ I h) fun v s1 ⟨x, H1, I1, r1, ⟨p, ob, ys, ex, hp, hc, hd⟩, q1⟩ => ?_)
  subst ex
  cases r1
  obtain ⟨hob, _⟩ := I1.hok p _ hp
  refine ⟨"tuple", id, PySem.F.plainAttrs_tuple, slot, hty, ⟨ob, hob, hc⟩, fun a ea => ?_, ?_⟩
  · cases ea
    exact ⟨ob, hob, hd⟩
  have run := ha.run pos pins s1 σ H1 _ I1 q1
  rw [hst] at run ⊢
  refine Calls.callWith_builtin ?_ (Calls.evalArgs_plain (thn run fun us s2 ⟨vs, H2, I2, r2, q2⟩ => hm pins s2 σ H2 (.ref p) vs (.ref p) us Q I2 rfl r2 q2))
  show (false || (backTo pos (starEach es X.env)).any (·.1)) = false
  rw [hpl]
  rfl⟩
end
/-! ### _law_pull -/
theorem scPull : FnScope ["_law_bag_here", "_law_size", "_law_got", "_law_cell"] ["_law_bag_here", "_law_size"] (defScope sPull) := ⟨rfl, rfl, rfl, by decide +kernel, rfl, by decide +kernel, by decide +kernel⟩
def spPull : Sp := fun vs H Q _ => ∃ (b c : Addr) (size : Int), vs = [.ref b, .int size] ∧ Bag H b c ∧ 0 < size ∧ size.natAbs < 2 ^ 200 ∧
  ∀ H' r, Off b H H' → Bag H' b c → 0 ≤ r → r < size → Q (.int r) H'
section
variable {P : Program} {w : World} {K : PySem.W.Frag} {mg : Str → Option Value} {base : Heap}
theorem ok_pull {f : Addr} {fd : FuncData} {k : Nat} (F : Fun K "_law_pull" "_law_pull" sPull f fd) (ml : mg "len" = none) : FnOk P w K mg base CX0 (k + 1) f fd ["_law_bag_here", "_law_size"] spPull := by
  refine F.ok scPull (fun vs H Q E h => ?_) (fun cdv A outer s H vs Q E hr h => ?_)
  · obtain ⟨b, c, size, rfl, _⟩ := h
    rfl
  · obtain ⟨b, c, size, rfl, ⟨cells, at', rest, seed, hb, hc, ha, hr0, hs0, hs1, hcb⟩, hz, hzb, q⟩ := h
    refine ⟨_, pss_cons (ps_if (pt_cmpR op_ge (pe_ix ix_list (pv 0) pe_int (fun _ _ => rfl)) (pv 1) (nomark _))
        (pss_cons (ps_set (i := 2) scPull.nd rfl (.inl rfl) (pe_op op_mod (pe_ix ix_list (pv 0) pe_int (fun _ _ => rfl)) (pv 1)))
        (pss_cons (ps_asg (pe_op op_fdivW (pe_ix ix_list (pv 0) pe_int (fun _ _ => rfl)) (pv 1)) (pg_sub (pv 0) pe_int set_list))
        (pss_one (ps_ret (pv 2))))) pss_nil)
      (pss_cons (ps_set (i := 3) scPull.nd rfl (.inl rfl) pe_int)
      (pss_cons (ps_if (pt_cmpR op_lt (pe_ix ix_list (pv 0) pe_int (fun _ _ => rfl)) (pe_callB call_len_seq (by rfl) ml PySem.boot_len (pa_cons (pe_ix ix_list (pv 0) pe_int (fun _ _ => rfl)) pa_nil)) (nomark _))
        (pss_one (ps_set (i := 3) scPull.nd rfl (.inl rfl) (pe_ix ix_list (pe_ix ix_list (pv 0) pe_int (fun _ _ => rfl)) (pe_ix ix_list (pv 0) pe_int (fun _ _ => rfl)) (fun _ _ => rfl)))) pss_nil)
      (pss_cons (ps_asg (pe_op op_add (pe_ix ix_list (pv 0) pe_int (fun _ _ => rfl)) pe_int) (pg_sub (pv 0) pe_int set_list))
      (pss_cons (ps_if (pt_cmpR op_ge (pv 3) (pe_op op_pow pe_int pe_int) (nomark _))
        (pss_cons (ps_asg (pe_op op_fdivW (pv 3) (pv 1)) (pg_sub (pv 0) pe_int set_list))
        (pss_one (ps_ret (pe_op op_mod (pv 3) (pv 1))))) pss_nil)
      (pss_cons (ps_asg (pe_op op_mod (pe_op op_add (pe_op op_add (pe_op op_add (pe_op op_pow (pe_ix ix_list (pv 0) pe_int (fun _ _ => rfl)) pe_int) (pe_op op_mul pe_int (pe_ix ix_list (pv 0) pe_int (fun _ _ => rfl)))) (pe_op op_mod (pv 3) pe_int)) pe_int) pe_int) (pg_sub (pv 0) pe_int set_list))
      (pss_one (ps_ret (pe_op op_mod (pe_op op_add (pe_op op_fdivW (pe_ix ix_list (pv 0) pe_int (fun _ _ => rfl)) pe_int) (pv 3)) (pv 1))))))))), ?_⟩
    have hd : CDivW rest size := wide_div (b := 200) hz hzb (by decide) (by decide)
    -- if bag[2] >= size
    refine ⟨.ref b, rfl, b, _, 2, .int rest, rfl, rfl, .inl (.inl hb), atI_nat (j := 2) rfl, .int size, rfl, _, _, rfl, rfl, _, rfl, ite2 (fun e => ?_) (fun e => ?_)⟩
    · refine ⟨.ref b, rfl, b, _, 2, .int rest, rfl, rfl, .inl (.inl hb), atI_nat (j := 2) rfl, .int size, rfl, _, _, rfl, rfl, hz, ?_⟩
      refine ⟨.ref b, rfl, b, _, 2, .int rest, rfl, rfl, .inl (.inl hb), atI_nat (j := 2) rfl, .int size, rfl, _, _, rfl, rfl, hd, ?_⟩
      refine ⟨.ref b, rfl, b, _, 2, 2, rfl, rfl, hb, rfl, ?_⟩
      refine ⟨.int (rest % size), rfl, q _ _ Off.upd ⟨cells, at', rest / size, seed, upd_same, ?_, ha, Int.ediv_nonneg hr0 (by omega), hs0, hs1, hcb⟩ (Int.emod_nonneg _ (by omega)) (Int.emod_lt_of_pos _ hz)⟩
      rw [upd_ne hcb]
      exact hc
    · -- cell = 0; if bag[1] < len(bag[0])
      obtain ⟨j, rfl⟩ := Int.eq_ofNat_of_zero_le ha
      refine ⟨.ref b, rfl, b, _, 1, .int (j : Nat), rfl, rfl, .inl (.inl hb), atI_nat (j := 1) rfl, .ref b, rfl, b, _, 0, .ref c, rfl, rfl, .inl (.inl hb), atI_nat (j := 0) rfl, c, _, rfl, .inl (.inl (.inl hc)), _, _, rfl, rfl, _, rfl, ite2 (fun e2 => ?_) (fun e2 => ?_)⟩
      · have hl := of_decide_eq_true e2
        rw [List.length_map] at hl
        have hj : j < cells.length := by omega
        refine ⟨.ref b, rfl, b, _, 0, .ref c, rfl, rfl, .inl (.inl hb), atI_nat (j := 0) rfl, .ref b, rfl, b, _, 1, .int (j : Nat), rfl, rfl, .inl (.inl hb), atI_nat (j := 1) rfl, c, _, _, .int cells[j], rfl, rfl, .inl (.inl hc), atI_nat (j := j) (by rw [List.getElem?_map, List.getElem?_eq_getElem hj]; rfl), ?_⟩
        obtain ⟨cell, hcell⟩ : ∃ cell : Int, cell = cells[j] := ⟨_, rfl⟩
        rw [← hcell]
        -- bag[1] = bag[1] + 1
        refine ⟨.ref b, rfl, b, _, 1, .int (j : Nat), rfl, rfl, .inl (.inl hb), atI_nat (j := 1) rfl, _, _, rfl, rfl, ?_⟩
        refine ⟨.ref b, rfl, b, _, 1, 1, rfl, rfl, hb, rfl, ?_⟩
        have hb1 : (upd H b (.lst [.ref c, .int ((j : Int) + 1), .int rest, .int seed])) b = some (.lst [.ref c, .int ((j : Int) + 1), .int rest, .int seed]) := upd_same
        have hc1 : (upd H b (.lst [.ref c, .int ((j : Int) + 1), .int rest, .int seed])) c = some (.lst (cells.map V.int)) := by
          rw [upd_ne hcb]
          exact hc
        -- if cell >= 10 ** 18
        refine ⟨.int cell, rfl, 10, 18, rfl, rfl, ⟨by decide, by decide, by decide⟩, _, _, rfl, rfl, _, rfl, ite2 (fun e3 => ?_) (fun e3 => ?_)⟩
        · have h18 : (10 : Int) ^ (18 : Int).toNat ≤ cell := of_decide_eq_true e3
          have h0 : (0 : Int) ≤ 10 ^ (18 : Int).toNat := by decide
          refine ⟨.int cell, rfl, .int size, rfl, _, _, rfl, rfl, wide_div (b := 200) hz hzb (by decide) (by decide), ?_⟩
          refine ⟨.ref b, rfl, b, _, 2, 2, rfl, rfl, hb1, rfl, ?_⟩
          refine ⟨.int cell, rfl, .int size, rfl, _, _, rfl, rfl, hz, ?_⟩
          refine q _ _ (Off.upd.trans Off.upd) ⟨cells, (j : Int) + 1, cell / size, seed, upd_same, ?_, by omega, Int.ediv_nonneg (by omega) (by omega), hs0, hs1, hcb⟩ (Int.emod_nonneg _ (by omega)) (Int.emod_lt_of_pos _ hz)
          rw [upd_ne hcb]
          exact hc1
        · -- bag[3] = (bag[3] ** 5 + 69069 * bag[1] + cell % 1000003 + 7) % 2147483629
          have hp : CPow seed 5 := ⟨by decide, by decide, by omega⟩
          refine ⟨.ref b, rfl, b, _, 3, .int seed, rfl, rfl, .inl (.inl hb1), atI_nat (j := 3) rfl, _, _, rfl, rfl, hp, ?_⟩
          refine ⟨.ref b, rfl, b, _, 1, .int ((j : Int) + 1), rfl, rfl, .inl (.inl hb1), atI_nat (j := 1) rfl, _, _, rfl, rfl, .inl ⟨by decide, by decide⟩, _, _, rfl, rfl, ?_⟩
          refine ⟨.int cell, rfl, _, _, rfl, rfl, (show (0 : Int) < 1000003 by decide), _, _, rfl, rfl, _, _, rfl, rfl, _, _, rfl, rfl, (show (0 : Int) < 2147483629 by decide), ?_⟩
          refine ⟨.ref b, rfl, b, _, 3, 3, rfl, rfl, hb1, rfl, ?_⟩
          refine ⟨.ref b, rfl, b, _, 3, _, rfl, rfl, .inl (.inl upd_same), atI_nat (j := 3) rfl, _, _, rfl, rfl, wide_div (b := 200) (by decide) (by decide) (by decide) (by decide), .int cell, rfl, _, _, rfl, rfl, .int size, rfl, _, _, rfl, rfl, hz, ?_⟩
          refine q _ _ (Off.upd.trans Off.upd) ⟨cells, (j : Int) + 1, rest, _, upd_same, ?_, by omega, hr0, Int.emod_nonneg _ (by decide), Int.lt_trans (Int.emod_lt_of_pos _ (by decide)) (by decide), hcb⟩ (Int.emod_nonneg _ (by omega)) (Int.emod_lt_of_pos _ hz)
          rw [upd_ne hcb]
          exact hc1
      · obtain ⟨cell, hcell⟩ : ∃ cell : Int, cell = 0 := ⟨_, rfl⟩
        rw [show (V.int 0) = V.int cell by rw [hcell]]
        -- bag[1] = bag[1] + 1
        refine ⟨.ref b, rfl, b, _, 1, .int (j : Nat), rfl, rfl, .inl (.inl hb), atI_nat (j := 1) rfl, _, _, rfl, rfl, ?_⟩
        refine ⟨.ref b, rfl, b, _, 1, 1, rfl, rfl, hb, rfl, ?_⟩
        have hb1 : (upd H b (.lst [.ref c, .int ((j : Int) + 1), .int rest, .int seed])) b = some (.lst [.ref c, .int ((j : Int) + 1), .int rest, .int seed]) := upd_same
        have hc1 : (upd H b (.lst [.ref c, .int ((j : Int) + 1), .int rest, .int seed])) c = some (.lst (cells.map V.int)) := by
          rw [upd_ne hcb]
          exact hc
        -- if cell >= 10 ** 18
        refine ⟨.int cell, rfl, 10, 18, rfl, rfl, ⟨by decide, by decide, by decide⟩, _, _, rfl, rfl, _, rfl, ite2 (fun e3 => ?_) (fun e3 => ?_)⟩
        · have h18 : (10 : Int) ^ (18 : Int).toNat ≤ cell := of_decide_eq_true e3
          have h0 : (0 : Int) ≤ 10 ^ (18 : Int).toNat := by decide
          refine ⟨.int cell, rfl, .int size, rfl, _, _, rfl, rfl, wide_div (b := 200) hz hzb (by decide) (by decide), ?_⟩
          refine ⟨.ref b, rfl, b, _, 2, 2, rfl, rfl, hb1, rfl, ?_⟩
          refine ⟨.int cell, rfl, .int size, rfl, _, _, rfl, rfl, hz, ?_⟩
          refine q _ _ (Off.upd.trans Off.upd) ⟨cells, (j : Int) + 1, cell / size, seed, upd_same, ?_, by omega, Int.ediv_nonneg (by omega) (by omega), hs0, hs1, hcb⟩ (Int.emod_nonneg _ (by omega)) (Int.emod_lt_of_pos _ hz)
          rw [upd_ne hcb]
          exact hc1
        · -- bag[3] = (bag[3] ** 5 + 69069 * bag[1] + cell % 1000003 + 7) % 2147483629
          have hp : CPow seed 5 := ⟨by decide, by decide, by omega⟩
          refine ⟨.ref b, rfl, b, _, 3, .int seed, rfl, rfl, .inl (.inl hb1), atI_nat (j := 3) rfl, _, _, rfl, rfl, hp, ?_⟩
          refine ⟨.ref b, rfl, b, _, 1, .int ((j : Int) + 1), rfl, rfl, .inl (.inl hb1), atI_nat (j := 1) rfl, _, _, rfl, rfl, .inl ⟨by decide, by decide⟩, _, _, rfl, rfl, ?_⟩
          refine ⟨.int cell, rfl, _, _, rfl, rfl, (show (0 : Int) < 1000003 by decide), _, _, rfl, rfl, _, _, rfl, rfl, _, _, rfl, rfl, (show (0 : Int) < 2147483629 by decide), ?_⟩
          refine ⟨.ref b, rfl, b, _, 3, 3, rfl, rfl, hb1, rfl, ?_⟩
          refine ⟨.ref b, rfl, b, _, 3, _, rfl, rfl, .inl (.inl upd_same), atI_nat (j := 3) rfl, _, _, rfl, rfl, wide_div (b := 200) (by decide) (by decide) (by decide) (by decide), .int cell, rfl, _, _, rfl, rfl, .int size, rfl, _, _, rfl, rfl, hz, ?_⟩
          refine q _ _ (Off.upd.trans Off.upd) ⟨cells, (j : Int) + 1, rest, _, upd_same, ?_, by omega, hr0, Int.emod_nonneg _ (by decide), Int.lt_trans (Int.emod_lt_of_pos _ (by decide)) (by decide), hcb⟩ (Int.emod_nonneg _ (by omega)) (Int.emod_lt_of_pos _ hz)
          rw [upd_ne hcb]
          exact hc1
end
/-! ### _law_bag -/
theorem scBag : FnScope ["_law_script"] ["_law_script"] (defScope sBag) := ⟨rfl, rfl, rfl, by decide +kernel, rfl, by decide +kernel, by decide +kernel⟩
def spBag (K : PySem.W.Frag) : Sp := fun vs H Q _ => ∃ (a : Addr) (ns : List Int), vs = [.ref a] ∧ SqL K H a (ns.map V.int) ∧ ns.length ≤ 63 ∧
  ∀ H' b c, Same H H' → Bag H' b c → H b = none → Q (.ref b) H'
theorem cut_map (ns : List Int) (lo hi : Option Int) : ∃ ms : List Int, cutV (ns.map V.int) lo hi = ms.map V.int ∧ ms.length ≤ ns.length := by
  unfold cutV
  refine ⟨(ns.drop (HT.sIx (ns.map V.int).length 0 lo)).take (HT.sIx (ns.map V.int).length (ns.map V.int).length hi - HT.sIx (ns.map V.int).length 0 lo), ?_, ?_⟩
  · rw [List.map_take, List.map_drop]
  · rw [List.length_take, List.length_drop]
    omega
section
variable {P : Program} {w : World} {K : PySem.W.Frag} {mg : Str → Option Value} {base : Heap}
theorem ok_bag {f : Addr} {fd : FuncData} {k : Nat} (F : Fun K "_law_bag" "_law_bag" sBag f fd) (ml : mg "len" = none) (mli : mg "list" = none) : FnOk P w K mg base CX0 (k + 1) f fd ["_law_script"] (spBag K) := by
  refine F.ok scBag (fun vs H Q E h => ?_) (fun cdv A outer s H vs Q E hr h => ?_)
  · obtain ⟨a, ns, rfl, _⟩ := h
    rfl
  · obtain ⟨a, ns, rfl, hS, hlen, q⟩ := h
    refine ⟨_, pss_one (ps_ret (pe_lst (pa_cons (pe_callTy call_list_of (by rfl) mli (by decide +kernel) (pa_cons (pe_slice sl_list (pv 0) po_none (po_some pe_int)) pa_nil))
      (pa_cons pe_int (pa_cons pe_int (pa_cons (pe_op op_add pe_int (pe_callB call_len_seq (by rfl) ml PySem.boot_len (pa_cons (pe_slice sl_list (pv 0) po_none (po_some pe_int)) pa_nil))) pa_nil)))))), ?_⟩
    obtain ⟨ms, em, lm⟩ := cut_map ns none (some 63)
    refine ⟨.ref a, rfl, 63, rfl, a, _, rfl, hS, fun p np => ?_⟩
    rw [em]
    refine ⟨p, _, rfl, .inl (.inl (.inl upd_same)), fun l nl => ?_⟩
    have s1 : Same H (upd H p (.lst (ms.map V.int))) := same_upd np
    have s2 : Same (upd H p (.lst (ms.map V.int))) (upd (upd H p (.lst (ms.map V.int))) l (.lst (ms.map V.int))) := same_upd nl
    refine ⟨.ref a, rfl, 63, rfl, a, _, rfl, (s1.trans s2).seq hS, fun p2 np2 => ?_⟩
    rw [em]
    have s3 := same_upd (o := .lst (ms.map V.int)) np2
    refine ⟨p2, _, rfl, .inl (.inl (.inl upd_same)), _, _, rfl, rfl, (show (4 : Nat) ≤ sizeLine by decide), fun b nb => ?_⟩
    have s4 := same_upd (o := .lst [.ref l, .int 0, .int 0, .int (9463 + ((ms.map V.int).length : Nat))]) nb
    have hl : (upd (upd (upd (upd H p (.lst (ms.map V.int))) l (.lst (ms.map V.int))) p2 (.lst (ms.map V.int))) b (.lst [.ref l, .int 0, .int 0, .int (9463 + ((ms.map V.int).length : Nat))])) l = some (.lst (ms.map V.int)) := s4 _ _ (s3 _ _ upd_same)
    refine q _ b l (((s1.trans s2).trans s3).trans s4) ⟨ms, 0, 0, _, upd_same, hl, by decide, by decide, ?_, ?_, ?_⟩ (((s1.trans s2).trans s3).free nb)
    · omega
    · rw [List.length_map]
      omega
    · exact ne_of_none (s3 _ _ (upd_same (H := upd H p (.lst (ms.map V.int))) (a := l) (o := .lst (ms.map V.int)))) nb
end
/-! ### _law_like -/
theorem Same.tup {K : PySem.W.Frag} {H H' : Hp} {a : Addr} {xs : List V} (e : Same H H') (h : SqT K H a xs) : SqT K H' a xs := by
  rcases h with (h | ⟨o, h⟩) | h
  · exact .inl (.inl (e _ _ h))
  · exact .inl (.inr ⟨o, e _ _ h⟩)
  · exact .inr h
theorem tyL {K : PySem.W.Frag} {H : Hp} {a : Addr} {xs : List V} (h : SqL K H a xs) : TyX K H (.ref a) (.type "list") := by
  rcases h with (h | ⟨o, h⟩) | ⟨o, its, n, h1, h2, h3⟩
  · exact .base (.lst h)
  · exact .base (.frz h)
  · exact .kList h1 h2
theorem tyT {K : PySem.W.Frag} {H : Hp} {a : Addr} {xs : List V} (h : SqT K H a xs) : TyX K H (.ref a) (.type "tuple") := by
  rcases h with (h | ⟨o, h⟩) | ⟨o, its, n, h1, h2, h3⟩
  · exact .base (.tup h)
  · exact .fTuple h
  · exact .kTuple h1 h2
theorem ix_any {K : PySem.W.Frag} {H : Hp} {a : Addr} {xs : List V} {i : Nat} {v : V} {Q : VK} (h : SqL K H a xs ∨ SqT K H a xs) (e : xs[i]? = some v) (q : Q v H) : rIx K (.ref a) (.int (i : Nat)) H Q := by
  rcases h with h | h
  · exact .inl ⟨a, xs, _, v, rfl, rfl, h, atI_nat e, q⟩
  · exact .inr (.inl ⟨a, xs, _, v, rfl, rfl, h, atI_nat e, q⟩)
/-- what was there before a new object was made stays, though that object changes -/
theorem Same.offUpd {H H' : Hp} {D : Addr} {o : HO} (e : Same H H') (n : H D = none) : Same H (upd H' D o) := fun b x h => by
  rw [upd_ne (ne_of_none h n)]
  exact e b x h
theorem yesT {σ : L2.St} {H : Hp} {A B : Hp → Prop} (h : A H) : tYes σ H (fun b H3 => if b = true then A H3 else B H3) := h
/-- the same data, of a depth below n -/
def Lk (K : PySem.W.Frag) (H : Hp) : Nat → V → V → Prop
  | 0, _, _ => False
  | n + 1, v, u => (v = u ∧ (v = .non ∨ (∃ b, v = .bl b) ∨ (∃ i, v = .int i) ∨ ∃ z, v = .str z)) ∨
    ∃ a b xs ys, v = .ref a ∧ u = .ref b ∧ ((SqL K H a xs ∧ SqL K H b ys) ∨ (SqT K H a xs ∧ SqT K H b ys)) ∧ xs.length = ys.length ∧ xs.length ≤ 1000 ∧ ∀ (i : Nat) (x y : V), xs[i]? = some x → ys[i]? = some y → Lk K H n x y
theorem Lk.same {K : PySem.W.Frag} {H H' : Hp} (e : Same H H') : ∀ (n : Nat) (v u : V), Lk K H n v u → Lk K H' n v u
  | 0, _, _, h => h
  | n + 1, v, u, h => by
    rcases h with h | ⟨a, b, xs, ys, e1, e2, h3, h4, h5, h6⟩
    · exact .inl h
    · refine .inr ⟨a, b, xs, ys, e1, e2, ?_, h4, h5, fun i x y p q => Lk.same e n x y (h6 i x y p q)⟩
      rcases h3 with ⟨p, q⟩ | ⟨p, q⟩
      · exact .inl ⟨e.seq p, e.seq q⟩
      · exact .inr ⟨Same.tup e p, Same.tup e q⟩
theorem scLike : FnScope ["_law_one", "_law_due", "_law_at"] ["_law_one", "_law_due"] (defScope sLike) := ⟨rfl, rfl, rfl, by decide +kernel, rfl, by decide +kernel, by decide +kernel⟩
def spLike (K : PySem.W.Frag) (n : Nat) : Sp := fun vs H Q _ => ∃ v u, vs = [v, u] ∧ Lk K H n v u ∧ ∀ H', Same H H' → Q (.bl true) H'
structure LkG (mg : Str → Option Value) : Prop where
  isi : mg "isinstance" = none
  tup : mg "tuple" = none
  lst : mg "list" = none
  len : mg "len" = none
  all : mg "all" = none
  rng : mg "range" = none
  bool : mg "bool" = none
  int : mg "int" = none
  str : mg "str" = none
section
variable {P : Program} {w : World} {K : PySem.W.Frag} {mg : Str → Option Value} {base : Heap}
theorem like_step {f : Addr} {fd : FuncData} {n : Nat} (F : Fun K "_law_like" "_law_like" sLike f fd) (b : Binds K fd ["_law_one", "_law_due"] []) (g : mg "_law_like" = some (.ref f)) (M : LkG mg)
    (G : FnOk P w K mg base CX0 n f fd ["_law_one", "_law_due"] (spLike K n)) : FnOk P w K mg base CX0 (n + 1) f fd ["_law_one", "_law_due"] (spLike K (n + 1)) := by
  refine F.ok scLike (fun vs H Q E h => ?_) (fun cdv A outer s H vs Q E hr h => ?_)
  · obtain ⟨v, u, rfl, _⟩ := h
    rfl
  · obtain ⟨v, u, rfl, hL, q⟩ := h
    refine ⟨_, pss_cons (ps_if (pt_val (pe_callB call_isiT (by rfl) M.isi (by decide +kernel) (pa_cons (pv 1) (pa_cons (pe_tup (pa_cons (pe_bltn (v := .ty "tuple") (by rfl) M.tup (by decide +kernel) rfl) (pa_cons (pe_bltn (v := .ty "list") (by rfl) M.lst (by decide +kernel) rfl) pa_nil))) pa_nil))))
        (pss_cons (ps_if (pt_cmpR op_ne (pe_callB call_isi (by rfl) M.isi (by decide +kernel) (pa_cons (pv 0) (pa_cons (pe_bltn (v := .ty "tuple") (by rfl) M.tup (by decide +kernel) rfl) pa_nil))) (pe_callB call_isi (by rfl) M.isi (by decide +kernel) (pa_cons (pv 1) (pa_cons (pe_bltn (v := .ty "tuple") (by rfl) M.tup (by decide +kernel) rfl) pa_nil))) (nomark _))
          (pss_one (ps_ret pe_bl)) pss_nil)
        (pss_cons (ps_if (PW.pt (pw_or (pt_not (pt_val (pe_callB call_isiT (by rfl) M.isi (by decide +kernel) (pa_cons (pv 0) (pa_cons (pe_tup (pa_cons (pe_bltn (v := .ty "tuple") (by rfl) M.tup (by decide +kernel) rfl) (pa_cons (pe_bltn (v := .ty "list") (by rfl) M.lst (by decide +kernel) rfl) pa_nil))) pa_nil)))))
            (pw_or1 (pt_cmpR op_ne (pe_callB call_len_seq (by rfl) M.len PySem.boot_len (pa_cons (pv 0) pa_nil)) (pe_callB call_len_seq (by rfl) M.len PySem.boot_len (pa_cons (pv 1) pa_nil)) (nomark _)))))
          (pss_one (ps_ret pe_bl)) pss_nil)
        (pss_one (ps_ret (pe_callB (cr_all rfl) (by rfl) M.all (by decide +kernel) (pa_cons (pe_lc (own := [("_law_at", 2)]) (g := gName 2) (tt := tYes) rfl scLike.nd (pi_range1 (by rfl) M.rng (pa_cons (pe_callB call_len_seq (by rfl) M.len PySem.boot_len (pa_cons (pv 1) pa_nil)) pa_nil))
            (blkOk_by (own := [("_law_at", 2)]) (N := ["_law_one", "_law_due", "_law_at"]) (sc := defScope sLike) (by decide +kernel)) (fun _ _ _ _ _ => pg_name (i := 2) scLike.nd rfl (Or.inl rfl)) (fun _ _ _ _ _ => pts_nil)
            (fun _ _ _ _ _ => pe_call G hr (by rfl) g F.kp b .nil pass0 (pa_cons (pe_ix (r := rIx K) ix_seq (pv 0) (pv 2) (fun _ _ => rfl)) (pa_cons (pe_ix (r := rIx K) ix_seq (pv 1) (pv 2) (fun _ _ => rfl)) pa_nil)))) pa_nil)))))) pss_nil)
      (pss_cons (ps_if (pt_val (pe_callB call_isi (by rfl) M.isi (by decide +kernel) (pa_cons (pv 1) (pa_cons (pe_bltn (v := .ty "bool") (by rfl) M.bool (by decide +kernel) rfl) pa_nil))))
        (pss_one (ps_ret (pe_and (pe_callB call_isi (by rfl) M.isi (by decide +kernel) (pa_cons (pv 0) (pa_cons (pe_bltn (v := .ty "bool") (by rfl) M.bool (by decide +kernel) rfl) pa_nil))) (pe_one (pe_cmpR op_eq (pv 0) (pv 1) (nomark _)))))) pss_nil)
      (pss_cons (ps_if (pt_val (pe_callB call_isi (by rfl) M.isi (by decide +kernel) (pa_cons (pv 1) (pa_cons (pe_bltn (v := .ty "int") (by rfl) M.int (by decide +kernel) rfl) pa_nil))))
        (pss_one (ps_ret (pe_and (pe_callB call_isi (by rfl) M.isi (by decide +kernel) (pa_cons (pv 0) (pa_cons (pe_bltn (v := .ty "int") (by rfl) M.int (by decide +kernel) rfl) pa_nil))) (pe_and (pe_not (pe_callB call_isi (by rfl) M.isi (by decide +kernel) (pa_cons (pv 0) (pa_cons (pe_bltn (v := .ty "bool") (by rfl) M.bool (by decide +kernel) rfl) pa_nil)))) (pe_one (pe_cmpR op_eq (pv 0) (pv 1) (nomark _))))))) pss_nil)
      (pss_cons (ps_if (pt_val (pe_callB call_isi (by rfl) M.isi (by decide +kernel) (pa_cons (pv 1) (pa_cons (pe_bltn (v := .ty "str") (by rfl) M.str (by decide +kernel) rfl) pa_nil))))
        (pss_one (ps_ret (pe_and (pe_callB call_isi (by rfl) M.isi (by decide +kernel) (pa_cons (pv 0) (pa_cons (pe_bltn (v := .ty "str") (by rfl) M.str (by decide +kernel) rfl) pa_nil))) (pe_one (pe_cmpR op_eq (pv 0) (pv 1) (nomark _)))))) pss_nil)
      (pss_one (ps_ret (pe_and (pe_cmp (pc_isN (pv 1)) rfl) (pe_one (pe_cmp (pc_isN (pv 0)) rfl)))))))), ?_⟩
    rcases hL with ⟨rfl, hs⟩ | ⟨a1, a2, xs, ys, rfl, rfl, h3, h4, h5, h6⟩
    · rcases hs with rfl | ⟨bb, rfl⟩ | ⟨i, rfl⟩ | ⟨z, rfl⟩
      · refine ⟨.non, rfl, (show (2 : Nat) ≤ sizeLine by decide), fun t nt => ⟨.non, t, _, .type "NoneType", [.type "tuple", .type "list"], false, rfl, upd_same, .cons (.ty _) (.cons (.ty _) .nil), .base .non, kitAny_cons (b := false) (kit_ty (by decide +kernel)) (fun _ => kitAny_cons (b := false) (kit_ty (by decide +kernel)) (fun _ => kitAny_nil) (fun e => nomatch e)) (fun e => nomatch e), _, rfl, iteF ?_⟩⟩
        refine ⟨.non, rfl, .non, _, _, _, false, rfl, .ty _, .base .non, kit_ty (by decide +kernel), _, rfl, iteF ?_⟩
        refine ⟨.non, rfl, .non, _, _, _, false, rfl, .ty _, .base .non, kit_ty (by decide +kernel), _, rfl, iteF ?_⟩
        refine ⟨.non, rfl, .non, _, _, _, false, rfl, .ty _, .base .non, kit_ty (by decide +kernel), _, rfl, iteF ?_⟩
        refine ⟨.non, rfl, _, rfl, iteT ⟨.non, rfl, ?_⟩⟩
        exact q _ (same_upd nt)
      · refine ⟨.bl bb, rfl, (show (2 : Nat) ≤ sizeLine by decide), fun t nt => ⟨.bl bb, t, _, .type "bool", [.type "tuple", .type "list"], false, rfl, upd_same, .cons (.ty _) (.cons (.ty _) .nil), .base (.bl bb), kitAny_cons (b := false) (kit_ty (by decide +kernel)) (fun _ => kitAny_cons (b := false) (kit_ty (by decide +kernel)) (fun _ => kitAny_nil) (fun e => nomatch e)) (fun e => nomatch e), _, rfl, iteF ?_⟩⟩
        refine ⟨.bl bb, rfl, .bl bb, _, _, _, true, rfl, .ty _, .base (.bl bb), kit_ty (by decide +kernel), _, rfl, iteT ?_⟩
        refine ⟨.bl bb, rfl, .bl bb, _, _, _, true, rfl, .ty _, .base (.bl bb), kit_ty (by decide +kernel), _, rfl, iteT ⟨.bl bb, rfl, .bl bb, rfl, rfl, ?_⟩⟩
        rw [decide_eq_true rfl]
        exact q _ (same_upd nt)
      · refine ⟨.int i, rfl, (show (2 : Nat) ≤ sizeLine by decide), fun t nt => ⟨.int i, t, _, .type "int", [.type "tuple", .type "list"], false, rfl, upd_same, .cons (.ty _) (.cons (.ty _) .nil), .base (.int i), kitAny_cons (b := false) (kit_ty (by decide +kernel)) (fun _ => kitAny_cons (b := false) (kit_ty (by decide +kernel)) (fun _ => kitAny_nil) (fun e => nomatch e)) (fun e => nomatch e), _, rfl, iteF ?_⟩⟩
        refine ⟨.int i, rfl, .int i, _, _, _, false, rfl, .ty _, .base (.int i), kit_ty (by decide +kernel), _, rfl, iteF ?_⟩
        refine ⟨.int i, rfl, .int i, _, _, _, true, rfl, .ty _, .base (.int i), kit_ty (by decide +kernel), _, rfl, iteT ?_⟩
        refine ⟨.int i, rfl, .int i, _, _, _, true, rfl, .ty _, .base (.int i), kit_ty (by decide +kernel), _, rfl, iteT ⟨.int i, rfl, .int i, _, _, _, false, rfl, .ty _, .base (.int i), kit_ty (by decide +kernel), _, rfl, _, rfl, iteT ⟨.int i, rfl, .int i, rfl, rfl, ?_⟩⟩⟩
        rw [decide_eq_true rfl]
        exact q _ (same_upd nt)
      · refine ⟨.str z, rfl, (show (2 : Nat) ≤ sizeLine by decide), fun t nt => ⟨.str z, t, _, .type "str", [.type "tuple", .type "list"], false, rfl, upd_same, .cons (.ty _) (.cons (.ty _) .nil), .base (.str z), kitAny_cons (b := false) (kit_ty (by decide +kernel)) (fun _ => kitAny_cons (b := false) (kit_ty (by decide +kernel)) (fun _ => kitAny_nil) (fun e => nomatch e)) (fun e => nomatch e), _, rfl, iteF ?_⟩⟩
        refine ⟨.str z, rfl, .str z, _, _, _, false, rfl, .ty _, .base (.str z), kit_ty (by decide +kernel), _, rfl, iteF ?_⟩
        refine ⟨.str z, rfl, .str z, _, _, _, false, rfl, .ty _, .base (.str z), kit_ty (by decide +kernel), _, rfl, iteF ?_⟩
        refine ⟨.str z, rfl, .str z, _, _, _, true, rfl, .ty _, .base (.str z), kit_ty (by decide +kernel), _, rfl, iteT ?_⟩
        refine ⟨.str z, rfl, .str z, _, _, _, true, rfl, .ty _, .base (.str z), kit_ty (by decide +kernel), _, rfl, iteT ⟨.str z, rfl, .str z, rfl, rfl, ?_⟩⟩
        rw [decide_eq_true rfl]
        exact q _ (same_upd nt)
    · obtain ⟨ty, bt, ht1, ht2, k2, k3, hq1, hq2⟩ : ∃ (ty : String) (bt : Bool), (∀ H', Same H H' → TyX K H' (.ref a1) (.type ty)) ∧ (∀ H', Same H H' → TyX K H' (.ref a2) (.type ty)) ∧ PySem.W.kitAny K (.type ty) [.type "tuple", .type "list"] = some true ∧ PySem.W.kitOne K (.type ty) (.type "tuple") = some bt ∧ (∀ H', Same H H' → SqL K H' a1 xs ∨ SqT K H' a1 xs) ∧ (∀ H', Same H H' → SqL K H' a2 ys ∨ SqT K H' a2 ys) := by
        rcases h3 with ⟨p1, p2⟩ | ⟨p1, p2⟩
        · exact ⟨"list", false, fun _ e => tyL (e.seq p1), fun _ e => tyL (e.seq p2), kitAny_cons (b := false) (kit_ty (by decide +kernel)) (fun _ => kitAny_cons (b := true) (kit_ty (by decide +kernel)) (fun e => nomatch e) (fun _ => rfl)) (fun e => nomatch e), kit_ty (by decide +kernel), fun _ e => .inl (e.seq p1), fun _ e => .inl (e.seq p2)⟩
        · exact ⟨"tuple", true, fun _ e => tyT (Same.tup e p1), fun _ e => tyT (Same.tup e p2), kitAny_cons (b := true) (kit_ty (by decide +kernel)) (fun e => nomatch e) (fun _ => rfl), kit_ty (by decide +kernel), fun _ e => .inr (Same.tup e p1), fun _ e => .inr (Same.tup e p2)⟩
      refine ⟨.ref a2, rfl, (show (2 : Nat) ≤ sizeLine by decide), fun t nt => ⟨.ref a2, t, _, .type ty, [.type "tuple", .type "list"], true, rfl, upd_same, .cons (.ty _) (.cons (.ty _) .nil), ht2 _ (same_upd nt), k2, _, rfl, iteT ?_⟩⟩
      have s1 : Same H (upd H t (.tup [.ty "tuple", .ty "list"])) := same_upd nt
      refine ⟨.ref a1, rfl, .ref a1, _, _, _, bt, rfl, .ty _, ht1 _ s1, k3, .ref a2, rfl, .ref a2, _, _, _, bt, rfl, .ty _, ht2 _ s1, k3, rfl, _, rfl, iteNS rfl ?_⟩
      refine ⟨.ref a1, rfl, (show (2 : Nat) ≤ sizeLine by decide), fun t2 nt2 => ⟨.ref a1, t2, _, .type ty, [.type "tuple", .type "list"], true, rfl, upd_same, .cons (.ty _) (.cons (.ty _) .nil), ht1 _ (s1.trans (same_upd nt2)), k2, _, rfl, iteF ?_⟩⟩
      have s2 := s1.trans (same_upd (o := .tup [.ty "tuple", .ty "list"]) nt2)
      generalize upd (upd H t (.tup [.ty "tuple", .ty "list"])) t2 (.tup [.ty "tuple", .ty "list"]) = H2 at s2 ⊢
      refine ⟨.ref a1, rfl, a1, xs, rfl, hq1 _ s2, .ref a2, rfl, a2, ys, rfl, hq2 _ s2, rfl, _, rfl, iteNS (by rw [h4]) ?_⟩
      refine ⟨.ref a2, rfl, a2, ys, rfl, hq2 _ s2, (ys.length : Nat), rfl, by omega, by omega, fun D nD => ?_⟩
      refine lc_range (lo := 0) (n := ((ys.length : Nat) : Int).toNat) (fun i H' => Same H2 H' ∧ H' D = some (.lst ((List.replicate i true).map V.bl))) ⟨same_upd nD, upd_same⟩ (fun i H' hi hP => ?_) (fun H' hP => ?_)
      · obtain ⟨sm, hD⟩ := hP
        have hi2 : i < ys.length := by omega
        have hi1 : i < xs.length := by omega
        have e0 : (0 : Int) + (i : Int) = (i : Nat) := by omega
        have s3 := s2.trans sm
        refine ⟨rfl, yesT ?_⟩
        refine ⟨.ref a1, rfl, .int (0 + i), rfl, ?_⟩
        rw [e0]
        refine ix_any (hq1 _ s3) (List.getElem?_eq_getElem hi1) ⟨.ref a2, rfl, _, rfl, ?_⟩
        refine ix_any (hq2 _ s3) (List.getElem?_eq_getElem hi2) ?_
        refine ⟨xs[i], ys[i], rfl, Lk.same s3 n _ _ (h6 i _ _ (List.getElem?_eq_getElem hi1) (List.getElem?_eq_getElem hi2)), fun H3 sm3 => ?_⟩
        refine ⟨_, sm3 _ _ hD, ?_, Same.offUpd (sm.trans sm3) nD, ?_⟩
        · rw [List.length_map, List.length_replicate]
          exact small1000 (by omega)
        · rw [upd_same, List.replicate_succ', List.map_append]
          rfl
      · obtain ⟨sm, hD⟩ := hP
        refine ⟨D, _, rfl, .inl (.inl hD), ?_⟩
        rw [show (List.replicate ((ys.length : Nat) : Int).toNat true).all id = true by simp]
        exact q _ (s2.trans sm)
theorem ok_like {f : Addr} {fd : FuncData} (F : Fun K "_law_like" "_law_like" sLike f fd) (b : Binds K fd ["_law_one", "_law_due"] []) (g : mg "_law_like" = some (.ref f)) (M : LkG mg) : ∀ n : Nat, FnOk P w K mg base CX0 n f fd ["_law_one", "_law_due"] (spLike K n)
  | 0 => ⟨fun vs H Q E h => by obtain ⟨v, u, _, h, _⟩ := h; exact h.elim, fun A outer s H args us vs Q E hr he hb hv h => by obtain ⟨v, u, _, h, _⟩ := h; exact h.elim⟩
  | n + 1 => like_step F b g M (ok_like F b g M n)
end
/-! ### rules whose answer is some object that holds the wanted things, new or not -/
theorem tuple_mulW1 (l : Addr) (items : Array Value) (n : Nat) (dd : Option Addr) (sl : Array (Option Value)) (u : Tok) :
    Meets (Builtin.«tuple.__mul__» ⟨[.ref l, .int 1 u], []⟩) (fun _ R s => s.heap.get? l = some { cls := .type "tuple", dict := dd, data := .seq items n, slots := sl } ∧ R (.ok (.ret (Value.ref l))) { s with heap := s.heap, toks := s.toks }) :=
  .of_wp fun prog w A R s h => by
    obtain ⟨hp, g, d, tk, os⟩ := s
    obtain ⟨hl, h⟩ := h
    have f1 := AutoSeq1.idx_int
    wp_walk using wpAny_loadPart' hl
    exact ⟨_, rfl, h⟩
section
variable {X : Cx}
def rRepT1 (K : PySem.W.Frag) : R2 := fun x y H Q => ∃ l xs, x = .ref l ∧ y = .int 1 ∧ SqT K H l xs ∧ Q (.ref l) H
theorem op_repT1 : OpR X (binaryOp .Mult) (rRepT1 X.K) := by
  intro pins s σ H x y v u Q I rx ry h
  obtain ⟨l, xs, rfl, rfl, hT, q⟩ := h
  cases rx
  obtain ⟨t, rfl⟩ := ry
  obtain ⟨its, r, ⟨⟨cls, dd, data, sl⟩, ho, hc, n, hd⟩, hs⟩ := I.tuple hT
  simp only at hc hd
  subst hc hd
  refine wpAny_binaryOp_repeat_ref (T := "tuple") (U := "int") (by decide) ⟨_, ho, rfl⟩ (fun s' => typeIs_int s' 1 t) noFill_tuple_mul F.fills_int_mul F.slot_int_rmul repeat_tuple F.slot_int_index.lookup
    (call_meets F.slot_int_rmul (typeIs_int s 1 t) F.entry_int_rmul (F.args_int_rmul_2 _ _) (int_rmul_tuple 1 t l its.toArray n dd sl)
      ⟨ho, rfl, ⟨_, ho, rfl⟩, call_meets F.slot_tuple_mul ⟨_, ho, rfl⟩ F.entry_tuple_mul (F.args_tuple_mul_2 _ _) (tuple_mulW1 l its.toArray n dd sl t) ⟨ho, ?_⟩⟩)
  exact ⟨.ref l, H, I, rfl, q⟩
/-- t * k -/
def rRepS (K : PySem.W.Frag) : R2 := fun x y H Q => ∃ l k xs, x = .ref l ∧ y = .int k ∧ SqT K H l xs ∧ xs ≠ [] ∧ 1 ≤ k ∧ k ≤ 1000 ∧ xs.length ≤ 1000 ∧ ∀ p H', Same H H' → SqT K H' p (List.replicate k.toNat xs).flatten → Q (.ref p) H'
theorem op_repS : OpR X (binaryOp .Mult) (rRepS X.K) := by
  intro pins s σ H x y v u Q I rx ry h
  obtain ⟨l, k, xs, rfl, rfl, hT, hne, h1, h2, h3, q⟩ := h
  by_cases hk : k = 1
  · subst hk
    refine op_repT1 pins s σ H _ _ v u Q I rx ry ⟨l, xs, rfl, rfl, hT, q l H (Same.refl H) ?_⟩
    rw [show (List.replicate (1 : Int).toNat xs).flatten = xs by simp]
    exact hT
  · exact op_repT pins s σ H _ _ v u Q I rx ry ⟨l, k, xs, rfl, rfl, hT, hne, by omega, h2, h3, fun p np => q p _ (same_upd np) (SqT.of upd_same)⟩
/-- t + u -/
def rCatS (K : PySem.W.Frag) : R2 := fun x y H Q => ∃ a b xs ys, x = .ref a ∧ y = .ref b ∧ SqT K H a xs ∧ SqT K H b ys ∧ xs.length + ys.length ≤ sizeLine ∧ ∀ p H', Same H H' → SqT K H' p (xs ++ ys) → Q (.ref p) H'
theorem op_catS : OpR X (binaryOp .Add) (rCatS X.K) := by
  intro pins s σ H x y v u Q I rx ry h
  obtain ⟨a, b, xs, ys, rfl, rfl, ha, hb, hz, q⟩ := h
  refine op_catA pins s σ H _ _ v u Q I rx ry ⟨a, b, xs, ys, rfl, rfl, ha, hb, hz, fun e => ?_, fun _ e => ?_, fun _ _ p np => q p _ (same_upd np) (SqT.of upd_same)⟩
  · subst e
    exact q b H (Same.refl H) hb
  · subst e
    exact q a H (Same.refl H) (by rw [List.append_nil]; exact ha)
/-- t[lo:hi] -/
def rSlS (K : PySem.W.Frag) : V → Option Int → Option Int → Hp → VK → Prop := fun x lo hi H Q => ∃ a xs, x = .ref a ∧ (SqL K H a xs ∨ SqT K H a xs) ∧ ∀ p H', Same H H' → ((∃ ys, SqL K H a ys) → SqL K H' p (cutV xs lo hi)) → ((∃ ys, SqT K H a ys) → SqT K H' p (cutV xs lo hi)) → (SqL K H' p (cutV xs lo hi) ∨ SqT K H' p (cutV xs lo hi)) → Q (.ref p) H'
def rSlT' (K : PySem.W.Frag) : V → Option Int → Option Int → Hp → VK → Prop := fun x lo hi H Q => ∃ a xs, x = .ref a ∧ SqT K H a xs ∧ ∀ p H', Same H H' → SqT K H' p (cutV xs lo hi) → Q (.ref p) H'
theorem cut_whole {α : Type} {xs : List α} {lo hi : Option Int} (h : HT.sIx xs.length 0 lo = 0 ∧ HT.sIx xs.length xs.length hi = xs.length) : ((xs.drop (HT.sIx xs.length 0 lo)).take (HT.sIx xs.length xs.length hi - HT.sIx xs.length 0 lo)) = xs := by
  rw [h.1, h.2]
  simp
theorem sl_tupS : L2.SlR X (rSlT' X.K) := by
  intro pins s σ H x v vl vu lo hi sl Q I rx hs pl pu h
  obtain ⟨a, xs, rfl, hx, q⟩ := h
  refine sl_tupA pins s σ H _ v vl vu lo hi sl Q I rx hs pl pu ⟨a, xs, rfl, hx, fun e => ?_, fun _ p np => q p _ (same_upd np) (SqT.of upd_same)⟩
  exact q a H (Same.refl H) (by rw [show cutV xs lo hi = xs from cut_whole e]; exact hx)
/-- a list's or a tuple's slice -/
def rSlQ (K : PySem.W.Frag) : V → Option Int → Option Int → Hp → VK → Prop := fun x lo hi H Q => ∃ a xs, x = .ref a ∧ (SqL K H a xs ∨ SqT K H a xs) ∧ ∀ p H', Same H H' → (SqL K H' p (cutV xs lo hi) ∨ SqT K H' p (cutV xs lo hi)) → Q (.ref p) H'
theorem sl_seqS : L2.SlR X (rSlQ X.K) := by
  intro pins s σ H x v vl vu lo hi sl Q I rx hs pl pu h
  obtain ⟨a, xs, rfl, hx, q⟩ := h
  rcases hx with hx | hx
  · exact sl_list pins s σ H _ v vl vu lo hi sl Q I rx hs pl pu ⟨a, xs, rfl, hx, fun p np => q p _ (same_upd np) (.inl (SqL.of upd_same))⟩
  · exact sl_tupS pins s σ H _ v vl vu lo hi sl Q I rx hs pl pu ⟨a, xs, rfl, hx, fun p H' e h => q p H' e (.inr h)⟩
/-- tuple(x) -/
def rTupS (K : PySem.W.Frag) : List V → Hp → VK → Prop := fun vs H Q => ∃ p ys, vs = [.ref p] ∧ (SqL K H p ys ∨ SqT K H p ys) ∧ ∀ l H', Same H H' → SqT K H' l ys → Q (.ref l) H'
theorem call_tupS : CallR X (.type "tuple") (rTupS X.K) := by
  intro pins s σ H xs us Q I r h
  obtain ⟨p, ys, rfl, hx, q⟩ := h
  refine call_tuple_of pins s σ H _ us Q I r ⟨p, ys, rfl, ?_⟩
  rcases hx with hx | hx
  · exact .inl ⟨hx, fun l nl => q l _ (same_upd nl) (SqT.of upd_same)⟩
  · exact .inr ⟨hx, q p H (Same.refl H) hx⟩
/-- len(x) -/
def rLenQ (K : PySem.W.Frag) : List V → Hp → VK → Prop := fun xs H Q => ∃ p ys, xs = [.ref p] ∧ (SqL K H p ys ∨ SqT K H p ys) ∧ Q (.int (ys.length : Nat)) H
theorem call_lenQ : CallR X (.builtin "len") (rLenQ X.K) := call_len_seq
end
theorem cut_to {α : Type} (xs : List α) (k : Nat) : ((xs.drop (HT.sIx xs.length 0 none)).take (HT.sIx xs.length xs.length (some (k : Int)) - HT.sIx xs.length 0 none)) = xs.take k := by
  rw [HT.sIx_none, HT.sIx_nat, List.drop_zero, Nat.sub_zero]
  rcases Nat.le_total k xs.length with h | h
  · rw [Nat.min_eq_left h]
  · rw [Nat.min_eq_right h, List.take_of_length_le h, List.take_length]
theorem cut_from {α : Type} (xs : List α) (k : Nat) : ((xs.drop (HT.sIx xs.length 0 (some (k : Int)))).take (HT.sIx xs.length xs.length none - HT.sIx xs.length 0 (some (k : Int)))) = xs.drop k := by
  rw [HT.sIx_none, HT.sIx_nat]
  rcases Nat.le_total k xs.length with h | h
  · rw [Nat.min_eq_left h, ← List.length_drop, List.take_length]
  · rw [Nat.min_eq_right h, List.drop_of_length_le h, List.drop_length, List.take_nil]
theorem cutV_to (xs : List V) (k : Nat) : cutV xs none (some (k : Int)) = xs.take k := cut_to xs k
theorem cutV_from (xs : List V) (k : Nat) : cutV xs (some (k : Int)) none = xs.drop k := cut_from xs k
/-! ### data of whole numbers -/
theorem dpI {K : PySem.W.Frag} {H : Hp} : ∀ ns : List Int, DpAll K H (ns.map V.int) (ns.map PyData.int)
  | [] => .nil
  | n :: r => .cons (.int n) (dpI r)
theorem canLay_ints : ∀ ns : List Int, PyData.canLayAll0 (ns.map PyData.int) = true
  | [] => rfl
  | _ :: r => by simp [PyData.canLayAll0, PyData.canLay0, canLay_ints r]
theorem depth_ints : ∀ ns : List Int, PyData.depthAll (ns.map PyData.int) = 0
  | [] => rfl
  | _ :: r => by simp [PyData.depthAll, PyData.depth, depth_ints r]
theorem shL (ns : List Int) : SeqAt.shaped (.list (ns.map PyData.int)) = true := by
  simp [SeqAt.shaped, PyData.canLay0, PyData.depth, canLay_ints, depth_ints]
theorem shT (ns : List Int) : SeqAt.shaped (.tuple (ns.map PyData.int)) = true := by
  simp [SeqAt.shaped, PyData.canLay0, PyData.depth, canLay_ints, depth_ints]
theorem eqv_ints : ∀ ns ms : List Int, PyData.eqvAll (ns.map PyData.int) (ms.map PyData.int) = decide (ns = ms)
  | [], [] => rfl
  | [], _ :: _ => by simp [PyData.eqvAll]
  | _ :: _, [] => by simp [PyData.eqvAll]
  | a :: r, b :: t => by
    simp only [List.map_cons, PyData.eqvAll, PyData.eqv, eqv_ints r t]
    by_cases h : a = b <;> by_cases h' : r = t <;> simp [h, h']
theorem eqvL (ns ms : List Int) : PyData.eqv (.list (ns.map PyData.int)) (.list (ms.map PyData.int)) = decide (ns = ms) := by
  simp only [PyData.eqv]
  exact eqv_ints ns ms
theorem eqvT (ns ms : List Int) : PyData.eqv (.tuple (ns.map PyData.int)) (.tuple (ms.map PyData.int)) = decide (ns = ms) := by
  simp only [PyData.eqv]
  exact eqv_ints ns ms
theorem dpL {K : PySem.W.Frag} {H : Hp} {a : Addr} {ns : List Int} (h : SqL K H a (ns.map V.int)) : Dp K H (.ref a) (.list (ns.map PyData.int)) := .lst h (dpI ns)
theorem dpT {K : PySem.W.Frag} {H : Hp} {a : Addr} {ns : List Int} (h : SqT K H a (ns.map V.int)) : Dp K H (.ref a) (.tuple (ns.map PyData.int)) := .tup h (dpI ns)
theorem flat_map (ns : List Int) (k : Nat) : (List.replicate k (ns.map V.int)).flatten = ((List.replicate k ns).flatten).map V.int := by
  induction k with
  | zero => rfl
  | succ k ih => rw [List.replicate_succ, List.replicate_succ, List.flatten_cons, List.flatten_cons, List.map_append, ih]
theorem small_k {n : Nat} (h : n ≤ 5000) : n < sizeLine := by
  rw [sizeLine_eq]
  omega
theorem same_any {K : PySem.W.Frag} {H H' : Hp} {a : Addr} {xs : List V} (e : Same H H') (h : SqL K H a xs ∨ SqT K H a xs) : SqL K H' a xs ∨ SqT K H' a xs := by
  rcases h with h | h
  · exact .inl (e.seq h)
  · exact .inr (Same.tup e h)
def nI (ns : List Nat) : List Int := ns.map fun (n : Nat) => (n : Int)
/-! ### a, *b = seq (a list or a tuple that is not empty): b is a new list -/
section
variable {P : Program} {w : World} {A : Around} {E : Value → Shared → Prop} {s : Shared} {l : Addr} {x : Value} {us : List Value} {Q : List Value → Shared → Prop}
/-- what is to be shown of the two values -/
def StarQ (s : Shared) (x : Value) (us : List Value) (Q : List Value → Shared → Prop) : Prop :=
  ∀ (g : Heap) (k : Nat), (∀ b o, s.heap.get? b = some o → g.get? b = some o) → Q [x, .ref g.objs.size] { s with heap := g.push { cls := .type "list", data := .seq us.toArray }, toks := k }
theorem star_one (x : Value) (us : List Value) : ((x :: us).toArray.toList.drop 0).take 1 = [x] ∧ (x :: us).toArray.toList.drop 1 = us := by simp
theorem star_tail {g : Heap} {k : Nat} (hz : us.length ≤ sizeLine) (hQ : StarQ s x us Q) (hk : ∀ b o, s.heap.get? b = some o → g.get? b = some o) :
    wpAny (model P w) A (newList (us.take (us.length - 0)) >>= fun d => pure ([x] ++ [d] ++ us.drop (us.length - 0))) Q E { s with heap := g, toks := k } := by
  rw [Nat.sub_zero, List.take_length, List.drop_length]
  exact wpAny_bind (PySem.wpAny_newList (wpAny_pure (hQ g k hk)) hz)
theorem star_list (hl : s.heap.IsList l (x :: us).toArray) (hh : A.handled = none) (hz : us.length ≤ 16000) (hQ : StarQ s x us Q) : wpAny (model P w) A (unpackItems (.ref l) 2 (some 1)) Q E s := by
  have nl : l ≠ s.heap.objs.size := by
    obtain ⟨o, ho, _⟩ := hl
    exact Nat.ne_of_lt (Heap.lt_size ho)
  have hzl : us.length ≤ sizeLine := by rw [sizeLine_eq]; omega
  have size : (x :: us).toArray.size = us.length + 1 := by simp
  unfold unpackItems notIterableAtAll
  refine wpAny_bind (wpAny_bind (wpAny_specialOf hl.typeIs F.slot_list_iter.lookup (wpAny_pure ?_)))
  rw [if_neg (by exact fun z => nomatch z)]
  refine wpAny_bind (wpAny_holding (wpAny_pyIter_list hl ?_))
  refine wpAny_bind (wpAny_holding (PySem.W.kun_draw nl 1 0 _ _ ⟨_, Heap.get?_push_size _ rfl, rfl, rfl⟩ (hl.push _) (by omega) fun g hit kept => ?_))
  have stays : g.IsList l (x :: us).toArray := (hl.push _).extBut kept.extBut nl
  have old : ∀ b o, s.heap.get? b = some o → g.get? b = some o := fun b o e => kept.extBut b o (Nat.ne_of_lt (Heap.lt_size e)) (Heap.get?_push_of_some _ e)
  have hI : s.heap.objs.size < g.objs.size := by
    obtain ⟨o, ho, _⟩ := id hit
    exact Heap.lt_size ho
  have hA : l < g.objs.size := by
    obtain ⟨o, ho, _⟩ := id stays
    exact Heap.lt_size ho
  rw [(star_one x us).1, if_neg (by exact Nat.lt_irrefl 1)]
  refine wpAny_bind (wpAny_holding (PySem.W.kun_collect (s := { s with heap := g }) (k := 1) (.inr (.inr (.inl rfl))) (Walks.list (A := A.in1) hh s.heap.objs.size l nl (x :: us).toArray) (fun _ _ st => st.1.typeIs) (by omega) ⟨hit, stays⟩ hI hA (fun g2 k2 k => ?_) (by rw [size, sizeLine_eq]; omega)))
  rw [(star_one x us).2]
  show wpAny _ _ (if us.length < 0 then _ else _) _ _ _
  rw [if_neg (Nat.not_lt_zero _)]
  show wpAny _ _ (newList (us.take (us.length - 0)) >>= fun d => pure ([x] ++ [d] ++ us.drop (us.length - 0))) _ _ _
  exact star_tail (s := s) hzl hQ fun b o e => k b o (Nat.ne_of_lt (Heap.lt_size e)) (old b o e)
theorem star_tup (hl : IsTup s.heap l (x :: us).toArray) (hh : A.handled = none) (hz : us.length ≤ 16000) (hQ : StarQ s x us Q) : wpAny (model P w) A (unpackItems (.ref l) 2 (some 1)) Q E s := by
  have nl : l ≠ s.heap.objs.size := by
    obtain ⟨o, ho, _⟩ := hl
    exact Nat.ne_of_lt (Heap.lt_size ho)
  have hzl : us.length ≤ sizeLine := by rw [sizeLine_eq]; omega
  have size : (x :: us).toArray.size = us.length + 1 := by simp
  unfold unpackItems notIterableAtAll
  refine wpAny_bind (wpAny_bind (wpAny_specialOf hl.typeIs F.slot_tuple_iter.lookup (wpAny_pure ?_)))
  rw [if_neg (by exact fun z => nomatch z)]
  refine wpAny_bind (wpAny_holding (iter_tuple hl ?_))
  refine wpAny_bind (wpAny_holding (draw_tuple nl 1 0 _ _ ⟨_, Heap.get?_push_size _ rfl, rfl, rfl⟩ (hl.push _) (by omega) fun g hit kept => ?_))
  have stays : IsTup g l (x :: us).toArray := (hl.push _).extBut kept.extBut nl
  have old : ∀ b o, s.heap.get? b = some o → g.get? b = some o := fun b o e => kept.extBut b o (Nat.ne_of_lt (Heap.lt_size e)) (Heap.get?_push_of_some _ e)
  have hI : s.heap.objs.size < g.objs.size := by
    obtain ⟨o, ho, _⟩ := id hit
    exact Heap.lt_size ho
  have hA : l < g.objs.size := by
    obtain ⟨o, ho, _⟩ := id stays
    exact Heap.lt_size ho
  rw [(star_one x us).1, if_neg (by exact Nat.lt_irrefl 1)]
  refine wpAny_bind (wpAny_holding (PySem.W.kun_collect (s := { s with heap := g }) (k := 1) (.inr (.inr (.inr rfl))) (Walks.tuple (A := A.in1) hh s.heap.objs.size l nl (x :: us).toArray) (fun _ _ st => st.1.typeIs) (by omega) ⟨hit, stays⟩ hI hA (fun g2 k2 k => ?_) (by rw [size, sizeLine_eq]; omega)))
  rw [(star_one x us).2]
  show wpAny _ _ (if us.length < 0 then _ else _) _ _ _
  rw [if_neg (Nat.not_lt_zero _)]
  show wpAny _ _ (newList (us.take (us.length - 0)) >>= fun d => pure ([x] ++ [d] ++ us.drop (us.length - 0))) _ _ _
  exact star_tail (s := s) hzl hQ fun b o e => k b o (Nat.ne_of_lt (Heap.lt_size e)) (old b o e)
end
/-- a, *b = a list or a tuple of one thing or more -/
def gStar (K : PySem.W.Frag) (t : TGs) : TG := fun v σ H Q => ∃ a y ys, v = .ref a ∧ (SqL K H a (y :: ys) ∨ SqT K H a (y :: ys)) ∧ ys.length ≤ 16000 ∧ ∀ D, H D = none → t [y, .ref D] σ (upd H D (.lst ys)) Q
theorem pg_star {X : Cx} {es es' : List Expr} {k : Nat} {pos : Pos} {t : TGs} (hc : X.calm = true) (h : PGs X es' t) (hl : (assignEach es X.env).length = 2 := by rfl) (hs : (assignEach es X.env).findIdx? (·.1) = some 1 := by rfl)
    (he : (assignEach es X.env).map (·.2) = (assignEach es' X.env).map (·.2) := by rfl) : PG X (.Tuple es k pos) (gStar X.K t) := by
  refine ⟨fun pins s σ H v u Q I r hw => ?_⟩
  obtain ⟨a, y, ys, rfl, hq, hz, hw⟩ := hw
  cases r
  have fin : ∀ (its : List Value), Vals (y :: ys) its → (∀ x us, its = x :: us → us.length ≤ 16000 → (∀ Q', StarQ s x us Q' → wpAny (model X.prog X.w) X.A (unpackItems (.ref a) 2 (some 1)) Q' X.xe s)) →
      wpAny (model X.prog X.w) X.A (assign (.Tuple es k pos) X.env (.ref a)) (fun _ s' => ∃ σ' H', Inv X pins σ' H' s' ∧ Q σ' H') X.xe s := by
    intro its rv go
    cases rv with
    | cons r1 rr =>
      rename_i x us
      have hlen := rr.length
      rw [assign_Tuple]
      refine wpAny_bind (wpAny_standAt ?_)
      unfold unpack
      rw [hl, hs, he]
      refine wpAny_bind (wpAny_holding (go x us rfl (by omega) _ fun g kk old => ?_))
      have I1 : Inv X pins σ H { s with heap := g, toks := kk } := I.kept old
      have I2 := I1.lnew (t' := kk) rr (by rw [sizeLine_eq]; omega)
      exact h.run pins _ σ _ [y, .ref g.objs.size] _ Q I2 (.cons r1 (.cons rfl .nil)) (hw _ I1.fresh)
  rcases hq with hq | hq
  · obtain ⟨its, rv, pl, hzz⟩ := I.list hq
    refine fin its rv fun x us e hu Q' hQ => ?_
    subst e
    exact star_list pl.isList (I.ok.hd hc) hu hQ
  · obtain ⟨its, rv, ht, hzz⟩ := I.tuple hq
    refine fin its rv fun x us e hu Q' hQ => ?_
    subst e
    exact star_tup ht (I.ok.hd hc) hu hQ
/-! ### list(enumerate(xs)) of a list: the tuples stay, so the enumerate makes a new one at each turn -/
/-- an enumerate that has handed out a tuple -/
abbrev EnumX (h : Heap) (e it : Addr) (i : Int) (f : Bool) (x : Value) (T : Addr) : Prop :=
  h.get? e = some { cls := .type "enumerate", dict := none, data := .fields #[rawInt T, .bool f, .ref it, rawInt i, .none, x], slots := #[] }
/-- the tuples made so far -/
def EnT (h : Heap) (base : Addr) (items : Array Value) (ts : List Addr) (i : Nat) : Prop :=
  ts.length = i ∧ ts.Pairwise (· < ·) ∧ (∀ T ∈ ts, base ≤ T ∧ T < h.objs.size) ∧ ∀ j T, ts[j]? = some T → ∃ u x, items[j]? = some x ∧ h.get? T = some { cls := .type "tuple", data := .seq #[.int (j : Nat) u, x] }
def EnSt (h : Heap) (e it : Addr) (ts : List Addr) (i : Nat) : Prop := (ts = [] ∧ ∃ old, IsEnum h e it (i : Nat) old) ∨ ∃ T f x, T ∈ ts ∧ EnumX h e it (i : Nat) f x T
theorem enum_no_len : typeLookup (.type "enumerate") "__len__" = pure none := by rw [typeLookup_type, builtinLookup_eq_fast]; kernel_rfl
theorem enum_no_hint : typeLookup (.type "enumerate") "__length_hint__" = pure none := by rw [typeLookup_type, builtinLookup_eq_fast]; kernel_rfl
section
variable {P : Program} {w : World} {A : Around} {E : Value → Shared → Prop} {s : Shared}
theorem alive_is {a : Addr} {o : Obj} {Q : Option Obj → Shared → Prop} (e : s.heap.get? a = some o) (q : Q (some o) s) : wpAny (model P w) A (loadIfAlive a) Q E s := by
  have q2 : Q (s.heap.get? a) s := by rw [e]; exact q
  exact fun _ _ _ => q2
theorem owned_held {e it T : Addr} {i : Int} {f : Bool} {x : Value} {o : Obj} {Q : Bool → Shared → Prop} (he : EnumX s.heap e it i f x T) (hT : s.heap.get? T = some o)
    (q : ∀ h', EnumX h' e it i true x T → Heap.SameBut e s.heap h' → Q false { s with heap := h' }) : wpAny (model P w) A (Builtin.SmallTypes.ownedTupleIsFree (.ref e)) Q E s := by
  unfold Builtin.SmallTypes.ownedTupleIsFree
  refine wpAny_bind (wpAny_field he rfl (x := rawInt T) rfl ?_)
  show wpAny _ _ (loadIfAlive ((T : Int).toNat) >>= _) _ _ _
  rw [Int.toNat_natCast]
  refine wpAny_bind (alive_is hT ?_)
  simp only [Option.isNone_some, Bool.false_eq_true, if_false]
  refine wpAny_bind (wpAny_field he rfl (x := .bool f) rfl ?_)
  cases f
  · rw [if_pos (by decide)]
    refine wpAny_bind (wpAny_setField_rec he (by simp) fun h' he' hs' => ?_)
    exact wpAny_pure (q h' he' hs')
  · rw [if_neg (by decide)]
    exact wpAny_pure (q s.heap he ⟨rfl, fun _ _ => rfl⟩)
/-- the next pair of an enumerate whose tuple is held -/
theorem enum_next_held {e it l T : Addr} {i : Nat} {f : Bool} {items : Array Value} {x old : Value} {o : Obj} {Q : Option Value → Shared → Prop}
    (he : EnumX s.heap e it (i : Nat) f old T) (hT : s.heap.get? T = some o) (nTe : T ≠ e) (nTi : T ≠ it) (hit : s.heap.IsListIter it l i) (hl : s.heap.IsList l items) (hx : items[i]? = some x) (hne : e ≠ it)
    (hQ : ∀ h', EnumX h' e it ((i : Int) + 1) true old T → h'.IsListIter it l (i + 1) → h'.get? s.heap.objs.size = some { cls := .type "tuple", data := .seq #[.int i s.toks, x] } → h'.objs.size = s.heap.objs.size + 1 →
      (∀ b o, b ≠ e → b ≠ it → s.heap.get? b = some o → h'.get? b = some o) → Q (some (.ref s.heap.objs.size)) { s with heap := h', toks := s.toks + 1 }) :
    wpAny (model P w) A (pyNext (.ref e)) Q E s := by
  obtain ⟨hp, g, d, tk, os⟩ := s
  have hTy : Shared.TypeIs ⟨hp, g, d, tk, os⟩ (.ref e) "enumerate" := ⟨_, he, rfl⟩
  unfold pyNext
  refine wpAny_bind (wpAny_attempt (wpAny_callSpecial?_slot (name := Str.ofString "__next__") hTy F.slot_enumerate_next
    (wpAny_call_entry F.slot_enumerate_next hTy F.entry_enumerate_next ?_ (F.args_enumerate_next_1 _))))
  show wpAny _ _ (field (.ref e) 2 >>= _) _ _ _
  refine wpAny_bind (wpAny_field he rfl (x := .ref it) rfl ?_)
  refine wpAny_bind (wpAny_nextOf_list_item hit hl hx fun h1 hit1 s1 => ?_)
  have e1 : EnumX h1 e it (i : Nat) f old T := (s1.2 e hne).trans he
  show wpAny _ _ (field (.ref e) 3 >>= _) _ _ ⟨h1, g, d, tk, os⟩
  refine wpAny_bind (wpAny_field e1 rfl (x := rawInt i) rfl ?_)
  show wpAny _ _ (field (.ref e) 4 >>= _) _ _ ⟨h1, g, d, tk, os⟩
  refine wpAny_bind (wpAny_field e1 rfl (x := .none) rfl ?_)
  show wpAny _ _ (mkInt i >>= _) _ _ ⟨h1, g, d, tk, os⟩
  refine wpAny_bind (wpAny_mkInt ?_)
  show wpAny _ _ (setField (.ref e) 3 (rawInt ((i : Int) + 1)) >>= _) _ _ ⟨h1, g, d, tk + 1, os⟩
  refine wpAny_bind (wpAny_setField_rec e1 (by simp) fun h2 e2 s2 => ?_)
  replace e2 : EnumX h2 e it ((i : Int) + 1) f old T := e2
  show wpAny _ _ (setField (.ref e) 4 .none >>= _) _ _ ⟨h2, g, d, tk + 1, os⟩
  refine wpAny_bind (wpAny_setField_rec e2 (by simp) fun h3 e3 s3 => ?_)
  replace e3 : EnumX h3 e it ((i : Int) + 1) f old T := e3
  show wpAny _ _ (newTuple [.int i tk, x] >>= _) _ _ ⟨h3, g, d, tk + 1, os⟩
  refine wpAny_bind (wpAny_newTuple ?_)
  have sz : h3.objs.size = hp.objs.size := by rw [s3.1, s2.1, s1.1]
  have el : e < hp.objs.size := Heap.lt_size he
  have k3 : ∀ b o, b ≠ e → b ≠ it → hp.get? b = some o → h3.get? b = some o := fun b o n1 n2 z => s3.extBut b o n1 (s2.extBut b o n1 (s1.extBut b o n2 z))
  have i3 : h3.IsListIter it l (i + 1) := (hit1.extBut s2.extBut (Ne.symm hne)).extBut s3.extBut (Ne.symm hne)
  show wpAny _ _ (Builtin.SmallTypes.ownedTupleIsFree (.ref e) >>= _) _ _ ⟨h3.push { cls := .type "tuple", data := .seq #[.int i tk, x] }, g, d, tk + 1, os⟩
  refine wpAny_bind (owned_held (Heap.get?_push_of_some _ e3) (Heap.get?_push_of_some _ (k3 T o nTe nTi hT)) fun h5 e5 s5 => ?_)
  simp only [Bool.false_eq_true, if_false]
  have nee : hp.objs.size ≠ e := Nat.ne_of_gt el
  show wpAny _ _ (ret (.ref h3.objs.size)) _ _ _
  rw [sz]
  refine wpAny_pure ⟨_, rfl, wpAny_pure (hQ h5 e5 ?_ ?_ ?_ ?_)⟩
  · exact (i3.at fun o z => Heap.get?_push_of_some _ z).extBut s5.extBut (Ne.symm hne)
  · refine s5.extBut _ _ nee ?_
    rw [← sz]
    exact Heap.get?_push_size _ rfl
  · rw [s5.1, Heap.size_push, sz]
  · exact fun b o n1 n2 z => s5.extBut b o n1 (Heap.get?_push_of_some _ (k3 b o n1 n2 z))
/-- its end -/
theorem enum_next_end {e it l : Addr} {n : Nat} {fs : Array Value} {items : Array Value} {Q : Option Value → Shared → Prop} (hh : A.handled = none)
    (he : s.heap.get? e = some { cls := .type "enumerate", dict := none, data := .fields fs, slots := #[] }) (hf : fs[2]? = some (.ref it)) (hit : s.heap.IsListIter it l n) (hl : s.heap.IsList l items) (hx : items[n]? = none)
    (hQ : ∀ h', Heap.ExtBut it s.heap h' → Q none { s with heap := h' }) : wpAny (model P w) A (pyNext (.ref e)) Q E s := by
  have hT : s.TypeIs (.ref e) "enumerate" := ⟨_, he, rfl⟩
  unfold pyNext
  refine wpAny_bind (wpAny_attempt (wpAny_callSpecial?_slot (name := Str.ofString "__next__") hT F.slot_enumerate_next
    (wpAny_call_entry F.slot_enumerate_next hT F.entry_enumerate_next ?_ (F.args_enumerate_next_1 _))))
  show wpAny _ _ (field (.ref e) 2 >>= _) _ _ _
  refine wpAny_bind (wpAny_field he rfl (x := .ref it) hf ?_)
  refine wpAny_bind (wpAny_nextOf_list_end hh hit hl hx fun h' x he' hx' => ?_)
  obtain ⟨o, ho, hc⟩ := hx'
  refine wpAny_bind (wpAny_isInstance (T := "StopIteration") (b := true) ⟨o, ho, hc⟩ isSubtype_stop ?_)
  exact wpAny_pure (hQ _ he')
end
/-! ### the loop of list(enumerate(xs)) -/
theorem EnT.keep {h h' : Heap} {base : Addr} {items : Array Value} {ts : List Addr} {i : Nat} (q : EnT h base items ts i) (k : ∀ b o, base ≤ b → h.get? b = some o → h'.get? b = some o) : EnT h' base items ts i := by
  obtain ⟨a, b, c, d⟩ := q
  have d2 : ∀ j T, ts[j]? = some T → ∃ u x, items[j]? = some x ∧ h'.get? T = some { cls := .type "tuple", data := .seq #[.int (j : Nat) u, x] } := fun j T hj => by
    obtain ⟨u, x, e1, e2⟩ := d j T hj
    exact ⟨u, x, e1, k T _ (c T (List.mem_of_getElem? hj)).1 e2⟩
  refine ⟨a, b, fun T hT => ⟨(c T hT).1, ?_⟩, d2⟩
  obtain ⟨j, hj⟩ := List.getElem?_of_mem hT
  obtain ⟨u, x, _, e2⟩ := d2 j T hj
  exact Heap.lt_size e2
theorem EnT.push {h h' : Heap} {base : Addr} {items : Array Value} {ts : List Addr} {i u : Nat} {x : Value} (q : EnT h base items ts i) (hb : base ≤ h.objs.size) (k : ∀ b o, base ≤ b → h.get? b = some o → h'.get? b = some o)
    (hx : items[i]? = some x) (hT : h'.get? h.objs.size = some { cls := .type "tuple", data := .seq #[.int (i : Nat) u, x] }) : EnT h' base items (ts ++ [h.objs.size]) (i + 1) := by
  obtain ⟨a, b, c, d⟩ := q.keep k
  have c0 := q.2.2.1
  refine ⟨by rw [List.length_append, a]; rfl, List.pairwise_append.mpr ⟨b, List.pairwise_singleton _ _, fun y hy z hz => ?_⟩, fun T hT2 => ?_, fun j T hj => ?_⟩
  · rw [List.mem_singleton.mp hz]
    exact (c0 y hy).2
  · rcases List.mem_append.mp hT2 with hT2 | hT2
    · exact c T hT2
    · rw [List.mem_singleton.mp hT2]
      exact ⟨hb, Heap.lt_size hT⟩
  · rcases Nat.lt_or_ge j ts.length with hl | hl
    · rw [List.getElem?_append_left hl] at hj
      exact d j T hj
    · rw [List.getElem?_append_right hl] at hj
      have e : j = i := by
        rcases Nat.eq_zero_or_pos (j - ts.length) with z | z
        · omega
        · rw [List.getElem?_eq_none (by show 1 ≤ _; omega)] at hj
          cases hj
      subst e
      rw [show j - ts.length = 0 by omega] at hj
      obtain rfl := Option.some.inj hj
      exact ⟨u, x, hx, hT⟩
section
variable {P : Program} {w : World} {A : Around} {s : Shared}
theorem enum_loop {S e it l base : Addr} {items : Array Value} {res : Value} {R : Result → Shared → Prop} (hh : A.handled = none) (hSe : S ≠ e) (hSi : S ≠ it) (hei : e ≠ it) (hle : l ≠ e) (hli : l ≠ it) (hlS : l ≠ S) (b1 : S < base) (b2 : e < base) (b3 : it < base) (hn : items.size ≤ sizeLine)
    (hR : ∀ h' tk ts c', EnT h' base items ts items.size → h'.get? S = some { cls := .type "list", dict := none, data := .seq (ts.map Value.ref).toArray c', slots := #[] } → (∀ b o, b ≠ S → b ≠ e → b ≠ it → s.heap.get? b = some o → h'.get? b = some o) → R (.ok (.ret res)) { s with heap := h', toks := tk }) :
    ∀ (k i : Nat) (h : Heap) (tk : Nat) (ts : List Addr) (c : Nat), items.size - i = k → i ≤ items.size → base ≤ h.objs.size → EnSt h e it ts i → h.IsListIter it l i → h.IsList l items → h.get? S = some { cls := .type "list", dict := none, data := .seq (ts.map Value.ref).toArray c, slots := #[] } → EnT h base items ts i →
      (∀ b o, b ≠ S → b ≠ e → b ≠ it → s.heap.get? b = some o → h.get? b = some o) → codeAny (model P w) A (.builtin "list.extend.loop" ⟨[.ref S, .ref e, res], []⟩) R { s with heap := h, toks := tk } := by
  have hh1 : A.in1.handled = none := hh
  have nS : ∀ b : Addr, base ≤ b → b ≠ S := fun b hb z => absurd (z ▸ hb) (Nat.not_le_of_lt b1)
  have ne : ∀ b : Addr, base ≤ b → b ≠ e := fun b hb z => absurd (z ▸ hb) (Nat.not_le_of_lt b2)
  have ni : ∀ b : Addr, base ≤ b → b ≠ it := fun b hb z => absurd (z ▸ hb) (Nat.not_le_of_lt b3)
  intro k
  induction k with
  | zero =>
    intro i h tk ts c hk hi hb st hit hl hS ht hkp
    have hin : i = items.size := by omega
    subst hin
    refine codeAny_builtin F.entry_extend_loop ?_
    rw [Around.under_plainId F.plain_extend_loop _]
    show wpAny _ A.in1 (pyNext (.ref e) >>= _) _ _ _
    have hx : items[items.size]? = none := by simp
    have fin : ∀ h', Heap.ExtBut it h h' → R (.ok (.ret res)) { s with heap := h', toks := tk } := fun h' he =>
      hR h' tk ts c (ht.keep fun b o hb z => he b o (ni b hb) z) (he S _ hSi hS) fun b o n1 n2 n3 z => he b o n3 (hkp b o n1 n2 n3 z)
    refine wpAny_bind ?_
    rcases st with ⟨_, old, he⟩ | ⟨T, f, x, _, he⟩
    · exact enum_next_end hh1 he rfl hit hl hx fun h' he => wpAny_pure (fin h' he)
    · exact enum_next_end hh1 he rfl hit hl hx fun h' he => wpAny_pure (fin h' he)
  | succ k ih =>
    intro i h tk ts c hk hi hb st hit hl hS ht hkp
    have hlt : i < items.size := by omega
    have hx : items[i]? = some items[i] := by simp [hlt]
    refine codeAny_builtin F.entry_extend_loop ?_
    rw [Around.under_plainId F.plain_extend_loop _]
    show wpAny _ A.in1 (pyNext (.ref e) >>= _) _ _ _
    have step : ∀ h', ((∃ o, IsEnumOut h' e it ((i : Int) + 1) o h.objs.size) ∨ ∃ T f x, T ∈ ts ∧ EnumX h' e it ((i : Int) + 1) f x T) → h'.IsListIter it l (i + 1) → h'.get? h.objs.size = some { cls := .type "tuple", data := .seq #[.int i tk, items[i]] } → h'.objs.size = h.objs.size + 1 →
        (∀ b o, b ≠ e → b ≠ it → h.get? b = some o → h'.get? b = some o) →
        wpAny (model P w) A.in1 (updateSeq S (·.push (.ref h.objs.size)) >>= fun _ => again (.builtin "list.extend.loop" ⟨[.ref S, .ref e, res], []⟩)) (fun fin s' => match fin with | .done f => R (.ok f) s' | .again c' => c'.quiet = true ∧ codeAny (model P w) A c' R s') (fun er s' => R (.error er) s') { s with heap := h', toks := tk + 1 } := by
      intro h' st' hit' hT hsz k'
      have hS' := k' S _ hSe hSi hS
      have up : ∀ b o, b ≠ S → h'.get? b = some o → (h'.update S (Obj.mapSeq (·.push (Value.ref h.objs.size)))).get? b = some o := fun b o n z => (Heap.get?_update_other _ _ (Ne.symm n)).trans z
      have hlen : (ts.map Value.ref).toArray.size = i := by rw [List.size_toArray, List.length_map, ht.1]
      have kb : ∀ b o, base ≤ b → h.get? b = some o → (h'.update S (Obj.mapSeq (·.push (Value.ref h.objs.size)))).get? b = some o := fun b o n z => up b o (nS b n) (k' b o (ne b n) (ni b n) z)
      have usz : (h'.update S (Obj.mapSeq (·.push (Value.ref h.objs.size)))).objs.size = h.objs.size + 1 := by rw [Heap.size_update, hsz]
      refine wpAny_bind (wpAny_updateSeq hS' rfl (wpAny_pure ⟨plainId_quiet F.plain_extend_loop _, ih (i + 1) _ (tk + 1) (ts ++ [h.objs.size]) (c + 1) (by omega) hlt (by rw [usz]; exact Nat.le_succ_of_le hb) ?_ ?_ ?_ ?_ ?_ ?_⟩)
        (by rw [hlen]; omega) (by show ((ts.map Value.ref).toArray.push _).size ≤ sizeLine + 1; rw [Array.size_push, hlen]; omega))
      · refine .inr ?_
        rcases st' with ⟨o, z⟩ | ⟨T, f, x, m, z⟩
        · exact ⟨_, false, o, List.mem_append_right _ (List.mem_singleton.mpr rfl), up e _ (Ne.symm hSe) z⟩
        · exact ⟨T, f, x, List.mem_append_left _ m, up e _ (Ne.symm hSe) z⟩
      · exact hit'.at fun o z => up it o (Ne.symm hSi) z
      · exact (hl.at fun o z => k' l o hle hli z).at fun o z => up l o hlS z
      · have z := Heap.get?_update_self (Obj.mapSeq (·.push (Value.ref h.objs.size))) hS' rfl
        rw [z]
        have e1 : ((ts.map Value.ref).toArray.push (Value.ref h.objs.size)) = ((ts ++ [h.objs.size]).map Value.ref).toArray := by simp
        have e2 : (((ts ++ [h.objs.size]).map Value.ref).toArray.size == (ts.map Value.ref).toArray.size) = false := by simp
        unfold Obj.mapSeq
        simp only [e1, e2, Bool.false_eq_true, if_false]
      · exact ht.push hb kb hx (up _ _ (nS _ hb) hT)
      · exact fun b o n1 n2 n3 z => up b o n1 (k' b o n2 n3 (hkp b o n1 n2 n3 z))
    refine wpAny_bind ?_
    rcases st with ⟨_, old, he⟩ | ⟨T, f, x, hT, he⟩
    · exact wpAny_pyNext_enum_item he hit hl hx hei fun h' z1 z2 z3 z4 z5 => step h' (.inl ⟨_, z1⟩) z2 z3 z4 z5
    · obtain ⟨j, hj⟩ := List.getElem?_of_mem hT
      obtain ⟨u, y, _, hTo⟩ := ht.2.2.2 j T hj
      have tb := (ht.2.2.1 T hT).1
      exact enum_next_held he hTo (ne _ tb) (ni _ tb) hit hl hx hei fun h' z1 z2 z3 z4 z5 => step h' (.inr ⟨_, _, _, hT, z1⟩) z2 z3 z4 z5
end
/-! ### list(enumerate(xs)): the call and its rule -/
section
variable {P : Program} {w : World} {A : Around} {E : Value → Shared → Prop} {s : Shared}
theorem call_list_enum {Q : Value → Shared → Prop} {e it l : Addr} {items : Array Value} (hh : A.handled = none) (he : IsEnum s.heap e it 0 .none) (hit : s.heap.IsListIter it l 0) (hl : s.heap.IsList l items) (hei : e ≠ it) (hle : l ≠ e) (hli : l ≠ it) (hn : items.size ≤ sizeLine)
    (hQ : ∀ h' tk ts c', EnT h' (s.heap.objs.size + 1) items ts items.size → h'.get? s.heap.objs.size = some { cls := .type "list", dict := none, data := .seq (ts.map Value.ref).toArray c', slots := #[] } → (∀ b o, b ≠ e → b ≠ it → s.heap.get? b = some o → h'.get? b = some o) → Q (.ref s.heap.objs.size) { s with heap := h', toks := tk }) :
    wpAny (model P w) A (call (.type "list") [.ref e]) Q E s := by
  refine callType_codes (Q₁ := fun obj s₁ => obj = .ref s.heap.objs.size ∧ s₁ = { s with heap := s.heap.push { cls := .type "list", data := .seq #[] } }) F.called_list (F.typeCall_list_1 _) F.entry_list_init
    (code_list_new _ ⟨rfl, rfl⟩) fun obj s₁ h₁ => ?_
  obtain ⟨rfl, rfl⟩ := h₁
  have hh1 : A.in1.handled = none := hh
  have hS : (s.heap.push { cls := .type "list", data := .seq #[] }).get? s.heap.objs.size = some { cls := .type "list", data := .seq #[] } := Heap.get?_push_size _ rfl
  refine ⟨⟨_, hS, rfl⟩, F.args_list_init_2 _ _, ?_⟩
  have elt : e < s.heap.objs.size := Heap.lt_size he
  have ilt : it < s.heap.objs.size := by obtain ⟨o, z, _⟩ := hit; exact Heap.lt_size z
  have llt : l < s.heap.objs.size := by obtain ⟨o, z, _⟩ := hl; exact Heap.lt_size z
  have hSe : s.heap.objs.size ≠ e := Nat.ne_of_gt elt
  have hSi : s.heap.objs.size ≠ it := Nat.ne_of_gt ilt
  have hlS : l ≠ s.heap.objs.size := Nat.ne_of_lt llt
  have kp : ∀ b o, s.heap.get? b = some o → (s.heap.push { cls := .type "list", data := .seq #[] }).get? b = some o := fun b o z => Heap.get?_push_of_some _ z
  have nb : ∀ b o, s.heap.get? b = some o → b ≠ s.heap.objs.size := fun b o z => Nat.ne_of_lt (Heap.lt_size z)
  have psz : (s.heap.push { cls := .type "list", data := .seq #[] }).objs.size = s.heap.objs.size + 1 := Heap.size_push _ _
  generalize hk0 : s.heap.push { cls := .type "list", data := .seq #[] } = k0 at hS kp psz ⊢
  show wpAny _ _ (do let old ← Builtin.List.listItems (.ref s.heap.objs.size); Builtin.List.listUpdate (.ref s.heap.objs.size) (fun _ => #[]); letGo old.toList.reverse; Builtin.List.listExtendWith (.ref s.heap.objs.size) (.ref e) .none) _ _ _
  refine wpAny_bind ?_
  unfold Builtin.List.listItems
  refine wpAny_bind (wpAny_seqItems hS rfl (wpAny_pure ?_))
  show wpAny _ _ (updateSeq s.heap.objs.size (fun _ => #[]) >>= fun _ => letGo (#[] : Array Value).toList.reverse >>= fun _ => Builtin.List.listExtendWith (.ref s.heap.objs.size) (.ref e) .none) _ _ _
  refine wpAny_bind (wpAny_updateSeq hS rfl ?_)
  have hS1 := Heap.get?_update_self (Obj.mapSeq (fun _ => (#[] : Array Value))) hS rfl
  have o1 : ∀ b o, b ≠ s.heap.objs.size → k0.get? b = some o → (k0.update s.heap.objs.size (Obj.mapSeq (fun _ => (#[] : Array Value)))).get? b = some o := fun b o hb z => (Heap.get?_update_other _ _ (Ne.symm hb)).trans z
  have z1 : (k0.update s.heap.objs.size (Obj.mapSeq (fun _ => (#[] : Array Value)))).objs.size = k0.objs.size := Heap.size_update _ _ _
  refine wpAny_bind (wpAny_letGo ?_)
  generalize k0.update s.heap.objs.size (Obj.mapSeq (fun _ => (#[] : Array Value))) = k1 at hS1 o1 z1 ⊢
  have he1 : IsEnum k1 e it 0 .none := o1 e _ (Ne.symm hSe) (kp e _ he)
  unfold Builtin.List.listExtendWith
  refine wpAny_bind (wpAny_typeOf (T := "enumerate") ⟨_, he1, rfl⟩ ?_)
  have h1 : Builtin.List.listSameRef (.ref s.heap.objs.size) (.ref e) = false := by simp [Builtin.List.listSameRef, hSe]
  have h2 : (Value.type "enumerate" == Value.type "list") = false := by decide
  have h3 : (Value.type "enumerate" == Value.type "tuple") = false := by decide
  simp only [h1, h2, h3, Bool.or_false, Bool.false_eq_true, if_false]
  refine wpAny_bind (wpAny_pyIter_enum he1 ?_)
  refine wpAny_bind (wpAny_holding ?_)
  unfold Builtin.List.listLengthHint
  refine wpAny_bind (wpAny_specialOf (T := "enumerate") ⟨_, he1, rfl⟩ enum_no_len ?_)
  show wpAny _ _ (specialOf (Value.ref e) (Str.ofString "__length_hint__") >>= _) _ _ _
  refine wpAny_bind (wpAny_specialOf (T := "enumerate") ⟨_, he1, rfl⟩ enum_no_hint ?_)
  refine wpAny_pure ?_
  show wpAny _ _ (rule "list.extend.makes-room" >>= fun _ => Builtin.List.listTouch (.ref s.heap.objs.size) >>= fun _ => again (.builtin "list.extend.loop" ⟨[.ref s.heap.objs.size, .ref e, .none], []⟩)) _ _ _
  refine wpAny_bind (wpAny_rule ?_)
  refine wpAny_bind ?_
  show wpAny _ _ (updateSeq s.heap.objs.size (·.push .none) >>= fun _ => updateSeq s.heap.objs.size (·.pop)) _ _ _
  refine wpAny_bind (wpAny_updateSeq hS1 rfl ?_)
  have hS2 := Heap.get?_update_self (Obj.mapSeq (·.push Value.none)) hS1 rfl
  refine wpAny_updateSeq (hz := by seq_fits) hS2 rfl ?_
  have hS3 := Heap.get?_update_self (Obj.mapSeq (·.pop)) hS2 rfl
  have o3 : ∀ b o, b ≠ s.heap.objs.size → k1.get? b = some o → ((k1.update s.heap.objs.size (Obj.mapSeq (·.push Value.none))).update s.heap.objs.size (Obj.mapSeq (·.pop))).get? b = some o :=
    fun b o hb z => (Heap.get?_update_other _ _ (Ne.symm hb)).trans ((Heap.get?_update_other _ _ (Ne.symm hb)).trans z)
  have z3 : ((k1.update s.heap.objs.size (Obj.mapSeq (·.push Value.none))).update s.heap.objs.size (Obj.mapSeq (·.pop))).objs.size = s.heap.objs.size + 1 := by rw [Heap.size_update, Heap.size_update, z1, psz]
  generalize (k1.update s.heap.objs.size (Obj.mapSeq (·.push Value.none))).update s.heap.objs.size (Obj.mapSeq (·.pop)) = k3 at hS3 o3 z3 ⊢
  have k03 : ∀ b o, s.heap.get? b = some o → k3.get? b = some o := fun b o z => o3 b o (nb b o z) (o1 b o (nb b o z) (kp b o z))
  refine wpAny_pure ⟨plainId_quiet F.plain_extend_loop _, ?_⟩
  refine enum_loop (A := A.in1) (s := s) (S := s.heap.objs.size) (e := e) (it := it) (l := l) (base := s.heap.objs.size + 1) (items := items) hh1 hSe hSi hei hle hli hlS (Nat.lt_succ_self _) (Nat.lt_succ_of_lt elt) (Nat.lt_succ_of_lt ilt) hn (fun h' tk ts c' q1 q2 q3 => ?_)
    items.size 0 k3 s.toks [] _ rfl (Nat.zero_le _) (by rw [z3]; exact Nat.le_refl _) (.inl ⟨rfl, _, k03 e _ he⟩) (hit.at fun o z => k03 it o z) (hl.at fun o z => k03 l o z) hS3 ⟨rfl, List.Pairwise.nil, fun T hT => (nomatch hT), fun j T hj => (by cases hj)⟩ (fun b o _ _ _ z => k03 b o z)
  exact ⟨rfl, hQ h' tk ts c' q1 q2 fun b o n1 n2 z => q3 b o (nb b o z) n1 n2 z⟩
end
section
variable {X : Cx} {pins : List (Addr × Obj)} {σ : L2.St}
/-- many new objects at once -/
theorem laidMany : ∀ (news : List (Addr × HO)) (s : Shared) (H : Hp) (h' : Heap) (t' : Nat), Inv X pins σ H s → (∀ b o, s.heap.get? b = some o → h'.get? b = some o) → news.Pairwise (fun p q => p.1 ≠ q.1) →
    (∀ p ∈ news, s.heap.get? p.1 = none ∧ H p.1 = none) → (∀ p ∈ news, ∀ (H2 : Hp) (G : Heap), G.get? p.1 = h'.get? p.1 → ObjOk X.prog X.w H2 G p.1 p.2) →
    ∃ H2, Inv X pins σ H2 { s with heap := h', toks := t' } ∧ Same H H2 ∧ ∀ p ∈ news, H2 p.1 = some p.2
  | [], s, H, h', t', I, k, _, _, _ => ⟨H, I.kept k, (fun _ _ e => e), fun p hp => (nomatch hp)⟩
  | p :: r, s, H, h', t', I, k, pw, hf, ok => by
    obtain ⟨G, g1, g2⟩ := restrict h' fun b => !(r.map (·.1)).contains b
    have pr : ∀ q ∈ r, p.1 ≠ q.1 := fun q hq => List.rel_of_pairwise_cons pw hq
    have up : ∀ b, b ∉ r.map (·.1) → G.get? b = h'.get? b := fun b hb => g1 b (by simpa using hb)
    have nr : ∀ b, s.heap.get? b ≠ none → b ∉ r.map (·.1) := fun b hb hm => by
      obtain ⟨q, hq, rfl⟩ := List.mem_map.mp hm
      exact hb (hf q (List.mem_cons_of_mem _ hq)).1
    have np : p.1 ∉ r.map (·.1) := fun hm => by
      obtain ⟨q, hq, e⟩ := List.mem_map.mp hm
      exact pr q hq e.symm
    have f0 := hf p List.mem_cons_self
    have I1 : Inv X pins σ (upd H p.1 p.2) { s with heap := G, toks := s.toks } := I.laidN (fun b o e => (up b (nr b (by rw [e]; exact fun z => nomatch z))).trans (k b o e)) f0.1 f0.2 (ok p List.mem_cons_self _ G (up _ np))
    obtain ⟨H2, a1, a2, a3⟩ := laidMany r { s with heap := G, toks := s.toks } (upd H p.1 p.2) h' t' I1 (fun b o e => by
        by_cases hb : b ∈ r.map (·.1)
        · rw [show ({ s with heap := G, toks := s.toks } : Shared).heap = G from rfl, g2 b (by simpa using hb)] at e
          cases e
        · exact (up b hb).symm.trans e) (List.Pairwise.of_cons pw) (fun q hq => ⟨g2 q.1 (by simpa using ⟨q.2, hq⟩), by rw [upd_ne (fun z => pr q hq z.symm)]; exact (hf q (List.mem_cons_of_mem _ hq)).2⟩) (fun q hq => ok q (List.mem_cons_of_mem _ hq))
    refine ⟨H2, a1, (same_upd f0.2).trans a2, fun q hq => ?_⟩
    rcases List.mem_cons.mp hq with rfl | hq
    · exact a2 _ _ upd_same
    · exact a3 q hq
end
def tLstEn (K : PySem.W.Frag) (ta : TE) : TE := fun σ H Q => ta σ H fun x H1 => ∃ (p : Addr) (xs : List V), x = .ref p ∧ SqL K H1 p xs ∧ ∀ (H2 : Hp) (q : Addr) (ts : List Addr), Same H1 H2 → H1 q = none → H2 q = some (.lst (ts.map V.ref)) → ts.length = xs.length → (∀ (j : Nat) T, ts[j]? = some T → ∃ x, xs[j]? = some x ∧ H2 T = some (.tup [.int (j : Nat), x])) → Q (.ref q) H2
section
variable {X : Cx} {a : Expr} {ta : TE}
theorem pe_listEnum {p p2 pos pos2 : Pos} (hc : X.calm = true) (hgl : Gl X "list") (hml : X.mg "list" = none) (hge : Gl X "enumerate") (hme : X.mg "enumerate" = none) (ha : PE X a ta)
    (na : starEach [a] X.env = (false, eval a X.env) :: starEach [] X.env := by rfl) (nb : starEach [.Call (.Name "enumerate" p2) [a] [] pos2] X.env = (false, eval (.Call (.Name "enumerate" p2) [a] [] pos2) X.env) :: starEach [] X.env := by rfl) :
    PE X (.Call (.Name "list" p) [.Call (.Name "enumerate" p2) [a] [] pos2] [] pos) (tLstEn X.K ta) := by
  refine ⟨fun pins s σ H Q I h => ?_⟩
  have inner : wpAny (model X.prog X.w) X.A (eval (.Call (.Name "enumerate" p2) [a] [] pos2) X.env) (fun v s' => ∃ (s1 : Shared) (h' : Heap) (H1 : Hp) (l : Addr) (its : List Value) (xs : List V), v = .ref (s1.heap.objs.size + 1) ∧ s' = { s1 with heap := h' } ∧ Inv X pins σ H1 s1 ∧ s1.heap.IsList l its.toArray ∧ Vals xs its ∧ xs.length ≤ sizeLine ∧
      IsEnum h' (s1.heap.objs.size + 1) s1.heap.objs.size 0 .none ∧ h'.IsListIter s1.heap.objs.size l 0 ∧ h'.objs.size = s1.heap.objs.size + 2 ∧ (∀ b o, s1.heap.get? b = some o → h'.get? b = some o) ∧
      ∀ (H2 : Hp) (q : Addr) (ts : List Addr), Same H1 H2 → H1 q = none → H2 q = some (.lst (ts.map V.ref)) → ts.length = xs.length → (∀ (j : Nat) T, ts[j]? = some T → ∃ x, xs[j]? = some x ∧ H2 T = some (.tup [.int (j : Nat), x])) → Q (.ref q) H2) X.xe s := by
    refine Call_ (ld_blt I hge hme boot_enumerate (PyProof.Rows.callWith_type1 (one_arg ha I h (fun v s2 x H2 I2 r q => ?_) na) na))
    obtain ⟨l, xs, rfl, hl, q⟩ := q
    obtain rfl : v = .ref l := r
    obtain ⟨its, rv, pl, hz⟩ := I2.list hl
    refine call_enumerate_list pl.isList fun h' he hit hsz hk => ?_
    exact ⟨s2, h', H2, l, its, xs, rfl, rfl, I2, pl.isList, rv, hz, he, hit, hsz, hk, q⟩
  refine Call_ (ld_blt I hgl hml boot_list (PyProof.Rows.callWith_type1 (args_cons (thn inner fun v s' ⟨s1, h1, H1, l, its, xs, e1, e2, I1, hl, rv, hz, he, hit, hsz, hk, q⟩ => args_nil ?_) nb) nb))
  subst e1 e2
  have llt : l < s1.heap.objs.size := by obtain ⟨o, z, _⟩ := hl; exact Heap.lt_size z
  have hvl : xs.length = its.length := rv.length
  refine call_list_enum (I1.ok.hd hc) he hit (hl.at fun o z => hk l o z) (Nat.succ_ne_self _) (Nat.ne_of_lt (Nat.lt_succ_of_lt llt)) (Nat.ne_of_lt llt) (by rw [List.size_toArray, ← hvl]; exact hz) fun h' tk ts c' q1 q2 q3 => ?_
  have hkeep : ∀ b o, s1.heap.get? b = some o → h'.get? b = some o := fun b o z => q3 b o (Nat.ne_of_lt (Nat.lt_succ_of_lt (Heap.lt_size z))) (Nat.ne_of_lt (Heap.lt_size z)) (hk b o z)
  rw [show ({ s1 with heap := h1 } : Shared).heap.objs.size = s1.heap.objs.size + 2 from hsz] at q1 q2 ⊢
  obtain ⟨t1, t2, t3, t4⟩ := q1
  rw [List.size_toArray, ← hvl] at t1
  -- the new objects
  obtain ⟨news, hnews⟩ : ∃ news : List (Addr × HO), news = (s1.heap.objs.size + 2, HO.lst (ts.map V.ref)) :: (List.range xs.length).map (fun j => (ts.getD j 0, HO.tup [.int (j : Nat), xs.getD j .non])) := ⟨_, rfl⟩
  have hget : ∀ j, j < xs.length → ts[j]? = some (ts.getD j 0) ∧ xs[j]? = some (xs.getD j .non) := fun j hj => by
    rw [List.getElem?_eq_getElem (by omega), List.getElem?_eq_getElem hj]
    simp [List.getD, List.getElem?_eq_getElem (show j < ts.length by omega), List.getElem?_eq_getElem hj]
  have big : ∀ j, j < xs.length → s1.heap.objs.size + 3 ≤ ts.getD j 0 := fun j hj => (t3 _ (List.mem_of_getElem? (hget j hj).1)).1
  have w1 : news.Pairwise (fun p q => p.1 ≠ q.1) := by
    rw [hnews]
    refine List.Pairwise.cons (fun p hp => ?_) ?_
    · obtain ⟨j, hj, rfl⟩ := List.mem_map.mp hp
      have z := big j (List.mem_range.mp hj)
      exact fun e => absurd (Nat.le_trans z (Nat.le_of_eq (show ts.getD j 0 = s1.heap.objs.size + 2 from e.symm))) (Nat.not_le_of_lt (Nat.lt_succ_self _))
    · rw [List.pairwise_map]
      refine List.Pairwise.imp_of_mem (R := (· < ·)) (fun {i j} hi hj hij => ?_) List.pairwise_lt_range
      have z1 := (hget i (List.mem_range.mp hi)).1
      have z2 := (hget j (List.mem_range.mp hj)).1
      obtain ⟨y1, y2⟩ := List.getElem?_eq_some_iff.mp z1
      obtain ⟨y3, y4⟩ := List.getElem?_eq_some_iff.mp z2
      have lt := (List.pairwise_iff_getElem.mp t2) i j y1 y3 hij
      rw [y2, y4] at lt
      exact Nat.ne_of_lt lt
  have w2 : ∀ p ∈ news, s1.heap.get? p.1 = none ∧ H1 p.1 = none := by
    intro p hp
    have hle : s1.heap.objs.size ≤ p.1 := by
      rw [hnews] at hp
      rcases List.mem_cons.mp hp with rfl | hp
      · exact Nat.le_add_right _ _
      · obtain ⟨j, hj, rfl⟩ := List.mem_map.mp hp
        exact Nat.le_trans (Nat.le_add_right _ 3) (big j (List.mem_range.mp hj))
    refine ⟨?_, I1.hok.fresh hle⟩
    cases hz2 : s1.heap.get? p.1 with
    | none => rfl
    | some o => exact absurd (Heap.lt_size hz2) (Nat.not_lt_of_le hle)
  have w3 : ∀ p ∈ news, ∀ (H2 : Hp) (G : Heap), G.get? p.1 = h'.get? p.1 → ObjOk X.prog X.w H2 G p.1 p.2 := by
    intro p hp H3 G hG
    rw [hnews] at hp
    rcases List.mem_cons.mp hp with rfl | hp
    · refine ⟨by rw [List.length_map, t1]; exact hz, ts.map Value.ref, c', vals_refs ts, ?_⟩
      exact hG.trans q2
    · obtain ⟨j, hj, rfl⟩ := List.mem_map.mp hp
      obtain ⟨g1, g2⟩ := hget j (List.mem_range.mp hj)
      obtain ⟨u, x, x1, x2⟩ := t4 j _ g1
      rw [List.getElem?_toArray] at x1
      have rx : RelV (xs.getD j .non) x := by
        obtain ⟨y, y1, y2⟩ := rv.get g2
        rw [x1] at y1
        cases y1
        exact y2
      exact ⟨(show (2 : Nat) ≤ sizeLine by decide), [.int (j : Nat) u, x], .cons ⟨u, rfl⟩ (.cons rx .nil), _, hG.trans x2, rfl, _, rfl⟩
  obtain ⟨H2, I2, sm, hin⟩ := laidMany news s1 H1 h' tk I1 hkeep w1 w2 w3
  have hl0 : H2 (s1.heap.objs.size + 2) = some (.lst (ts.map V.ref)) := hin (_, _) (by rw [hnews]; exact List.mem_cons_self)
  refine ⟨.ref (s1.heap.objs.size + 2), H2, I2, rfl, q H2 _ ts sm (I1.hok.fresh (Nat.le_add_right _ _)) hl0 t1 fun j T hj => ?_⟩
  have hjl : j < xs.length := by rw [← t1]; exact (List.getElem?_eq_some_iff.mp hj).1
  obtain ⟨g1, g2⟩ := hget j hjl
  rw [g1] at hj
  obtain rfl := Option.some.inj hj
  exact ⟨_, g2, hin (_, _) (by rw [hnews]; exact List.mem_cons_of_mem _ (List.mem_map.mpr ⟨j, List.mem_range.mpr hjl, rfl⟩))⟩
end
/-! ### the __init__s of the refusals -/
theorem ws_0 {ws : List V} (h : ws.length = 0) : ws = [] := List.length_eq_zero_iff.mp h
theorem ws_1 {ws : List V} (h : ws.length = 1) : ∃ a, ws = [a] := match ws, h with | [a], _ => ⟨a, rfl⟩
theorem ws_2 {ws : List V} (h : ws.length = 2) : ∃ a b, ws = [a, b] := match ws, h with | [a, b], _ => ⟨a, b, rfl⟩
theorem scI_TearError : FnScope ["self", "word"] ["self", "word"] (defScope sI_TearError) := ⟨rfl, rfl, rfl, by decide +kernel, rfl, by decide +kernel, by decide +kernel⟩
theorem okI_TearError {P : Program} {w : World} {K : PySem.W.Frag} {mg : Str → Option Value} {base : Heap} {f : Addr} {fd : FuncData} {k : Nat} {ds : List V} (F : FunD K "__init__" "TearError.__init__" (defArgs sI_TearError) (defBody sI_TearError) (defScope sI_TearError) ds [] f fd) :
    FnOk P w K mg base CX0 (k + 1) f fd ["self", "word"] (spBase K) := by
  refine F.ok (CX := CX0) scI_TearError (fun vs H Q E h => ?_) (fun cdv A outer s H vs Q E hr h => ?_)
  · obtain ⟨a, C, y, rfl, _⟩ := h
    rfl
  · obtain ⟨a, C, y, rfl, T, hw, ha, q⟩ := h
    refine ⟨_, PSs.nox (pss_one (ps_gst (pv 0) (pv 1) rfl)), ?_⟩
    exact ⟨y, rfl, .ref a, rfl, a, C, rfl, T, hw, .inl ⟨ha, fun dx h1 h2 => q dx h1 h2⟩⟩
theorem scI_Missing : FnScope ["self", "word"] ["self", "word"] (defScope sI_Missing) := ⟨rfl, rfl, rfl, by decide +kernel, rfl, by decide +kernel, by decide +kernel⟩
theorem okI_Missing {P : Program} {w : World} {K : PySem.W.Frag} {mg : Str → Option Value} {base : Heap} {f : Addr} {fd : FuncData} {k : Nat} {ds : List V} (F : FunD K "__init__" "Missing.__init__" (defArgs sI_Missing) (defBody sI_Missing) (defScope sI_Missing) ds [] f fd) :
    FnOk P w K mg base CX0 (k + 1) f fd ["self", "word"] (spBase K) := by
  refine F.ok (CX := CX0) scI_Missing (fun vs H Q E h => ?_) (fun cdv A outer s H vs Q E hr h => ?_)
  · obtain ⟨a, C, y, rfl, _⟩ := h
    rfl
  · obtain ⟨a, C, y, rfl, T, hw, ha, q⟩ := h
    refine ⟨_, PSs.nox (pss_one (ps_gst (pv 0) (pv 1) rfl)), ?_⟩
    exact ⟨y, rfl, .ref a, rfl, a, C, rfl, T, hw, .inl ⟨ha, fun dx h1 h2 => q dx h1 h2⟩⟩
abbrev sI_OtherBook : Stmt := inClass (topS 10) 0
theorem scI_OtherBook : FnScope ["self"] ["self"] (defScope sI_OtherBook) := ⟨rfl, rfl, rfl, by decide +kernel, rfl, by decide +kernel, by decide +kernel⟩
theorem okI_OtherBook {P : Program} {w : World} {K : PySem.W.Frag} {mg : Str → Option Value} {base : Heap} {f C CB fB : Addr} {fd fdB : FuncData} {k : Nat} (F : Fun K "__init__" "OtherBook.__init__" sI_OtherBook f fd) (T : OexG K C) (hw : PySem.W.findIn K (.ref C) "word" = some none)
    (B : CFn K CB "__init__" fB) (GB : FnOk P w K mg base CX0 k fB fdB ["self", "word"] (spBase K)) (bB : Binds K fdB ["self", "word"] []) (mB : mg "TearError" = some (.ref CB)) :
    FnOk P w K mg base CX0 (k + 1) f fd ["self"] (spMade C 0 (fun ws => [("word", .str "OtherBook")])) := by
  refine F.ok scI_OtherBook (fun vs H Q E h => ?_) (fun cdv A outer s H vs Q E hr h => ?_)
  · obtain ⟨a, ws, rfl, hl, _⟩ := h
    rw [List.length_cons, hl]
    rfl
  · obtain ⟨a, ws, rfl, hl, ha, q⟩ := h
    obtain rfl := ws_0 hl
    refine ⟨_, pss_one (ps_expr (pe_cfn B GB hr bB .nil pass0 (by rfl) mB (pa_cons (pv 0) (pa_cons pe_str pa_nil)))), ?_⟩
    refine ⟨.ref a, rfl, a, C, _, rfl, T, hw, ha, fun dx h1 h2 => ?_⟩
    have nn : a ≠ dx := fun z => h2 z.symm
    refine q dx _ h1 h2 (fun b b1 b2 => ?_) upd_same ?_
    · rw [upd_ne b1, upd_ne b2]
    · rw [upd_ne h2, upd_same]
theorem scI_NoFigure : FnScope ["self", "figure"] ["self", "figure"] (defScope sI_NoFigure) := ⟨rfl, rfl, rfl, by decide +kernel, rfl, by decide +kernel, by decide +kernel⟩
theorem okI_NoFigure {P : Program} {w : World} {K : PySem.W.Frag} {mg : Str → Option Value} {base : Heap} {f C CB fB : Addr} {fd fdB : FuncData} {k : Nat} (F : Fun K "__init__" "NoFigure.__init__" sI_NoFigure f fd) (T : OexG K C) (hw : PySem.W.findIn K (.ref C) "word" = some none) (n_figure : PySem.W.findIn K (.ref C) "figure" = some none)
    (B : CFn K CB "__init__" fB) (GB : FnOk P w K mg base CX0 k fB fdB ["self", "word"] (spBase K)) (bB : Binds K fdB ["self", "word"] []) (mB : mg "Missing" = some (.ref CB)) :
    FnOk P w K mg base CX0 (k + 1) f fd ["self", "figure"] (spMade C 1 (fun ws => [("figure", ws.getD 0 .non), ("word", .str "NoFigure")])) := by
  refine F.ok scI_NoFigure (fun vs H Q E h => ?_) (fun cdv A outer s H vs Q E hr h => ?_)
  · obtain ⟨a, ws, rfl, hl, _⟩ := h
    rw [List.length_cons, hl]
    rfl
  · obtain ⟨a, ws, rfl, hl, ha, q⟩ := h
    obtain ⟨y0, rfl⟩ := ws_1 hl
    refine ⟨_, pss_cons (ps_expr (pe_cfn B GB hr bB .nil pass0 (by rfl) mB (pa_cons (pv 0) (pa_cons pe_str pa_nil)))) (pss_one (ps_gst (pv 0) (pv 1) rfl)), ?_⟩
    refine ⟨.ref a, rfl, a, C, _, rfl, T, hw, ha, fun dx h1 h2 => ?_⟩
    have nn : a ≠ dx := fun z => h2 z.symm
    refine ⟨y0, rfl, .ref a, rfl, a, C, rfl, T, n_figure, .inr ⟨dx, _, by rw [upd_same], by rw [upd_ne h2, upd_same], by simp, ?_⟩⟩
    refine q dx _ h1 h2 (fun b b1 b2 => ?_) ?_ ?_
    · rw [upd_ne b2, upd_ne b1, upd_ne b2]
    · rw [upd_ne nn, upd_same]
    · rw [upd_same]
      rfl
theorem scI_NoPad : FnScope ["self", "pad"] ["self", "pad"] (defScope sI_NoPad) := ⟨rfl, rfl, rfl, by decide +kernel, rfl, by decide +kernel, by decide +kernel⟩
theorem okI_NoPad {P : Program} {w : World} {K : PySem.W.Frag} {mg : Str → Option Value} {base : Heap} {f C CB fB : Addr} {fd fdB : FuncData} {k : Nat} (F : Fun K "__init__" "NoPad.__init__" sI_NoPad f fd) (T : OexG K C) (hw : PySem.W.findIn K (.ref C) "word" = some none) (n_pad : PySem.W.findIn K (.ref C) "pad" = some none)
    (B : CFn K CB "__init__" fB) (GB : FnOk P w K mg base CX0 k fB fdB ["self", "word"] (spBase K)) (bB : Binds K fdB ["self", "word"] []) (mB : mg "Missing" = some (.ref CB)) :
    FnOk P w K mg base CX0 (k + 1) f fd ["self", "pad"] (spMade C 1 (fun ws => [("pad", ws.getD 0 .non), ("word", .str "NoPad")])) := by
  refine F.ok scI_NoPad (fun vs H Q E h => ?_) (fun cdv A outer s H vs Q E hr h => ?_)
  · obtain ⟨a, ws, rfl, hl, _⟩ := h
    rw [List.length_cons, hl]
    rfl
  · obtain ⟨a, ws, rfl, hl, ha, q⟩ := h
    obtain ⟨y0, rfl⟩ := ws_1 hl
    refine ⟨_, pss_cons (ps_expr (pe_cfn B GB hr bB .nil pass0 (by rfl) mB (pa_cons (pv 0) (pa_cons pe_str pa_nil)))) (pss_one (ps_gst (pv 0) (pv 1) rfl)), ?_⟩
    refine ⟨.ref a, rfl, a, C, _, rfl, T, hw, ha, fun dx h1 h2 => ?_⟩
    have nn : a ≠ dx := fun z => h2 z.symm
    refine ⟨y0, rfl, .ref a, rfl, a, C, rfl, T, n_pad, .inr ⟨dx, _, by rw [upd_same], by rw [upd_ne h2, upd_same], by simp, ?_⟩⟩
    refine q dx _ h1 h2 (fun b b1 b2 => ?_) ?_ ?_
    · rw [upd_ne b2, upd_ne b1, upd_ne b2]
    · rw [upd_ne nn, upd_same]
    · rw [upd_same]
      rfl
/-! ### BadRow.__init__ -/
theorem scI_BadRow : FnScope ["self", "at"] ["self", "at"] (defScope sI_BadRow) := ⟨rfl, rfl, rfl, by decide +kernel, rfl, by decide +kernel, by decide +kernel⟩
theorem okI_BadRow {P : Program} {w : World} {K : PySem.W.Frag} {mg : Str → Option Value} {base : Heap} {f C CB fB : Addr} {fd fdB : FuncData} {k : Nat} (F : Fun K "__init__" "BadRow.__init__" sI_BadRow f fd) (T : OexG K C) (hw : PySem.W.findIn K (.ref C) "word" = some none) (n_at : PySem.W.findIn K (.ref C) "at" = some none)
    (B : CFn K CB "__init__" fB) (GB : FnOk P w K mg base CX0 k fB fdB ["self", "word"] (spBase K)) (bB : Binds K fdB ["self", "word"] []) (mB : mg "TearError" = some (.ref CB)) :
    FnOk P w K mg base CX0 (k + 1) f fd ["self", "at"] (spMade C 1 (fun ws => [("at", ws.getD 0 .non), ("word", .str "BadRow")])) := by
  refine F.ok scI_BadRow (fun vs H Q E h => ?_) (fun cdv A outer s H vs Q E hr h => ?_)
  · obtain ⟨a, ws, rfl, hl, _⟩ := h
    rw [List.length_cons, hl]
    rfl
  · obtain ⟨a, ws, rfl, hl, ha, q⟩ := h
    obtain ⟨y0, rfl⟩ := ws_1 hl
    refine ⟨_, pss_cons (ps_expr (pe_cfn B GB hr bB .nil pass0 (by rfl) mB (pa_cons (pv 0) (pa_cons pe_str pa_nil)))) (pss_one (ps_gst (pv 0) (pv 1) rfl)), ?_⟩
    refine ⟨.ref a, rfl, a, C, _, rfl, T, hw, ha, fun dx h1 h2 => ?_⟩
    have nn : a ≠ dx := fun z => h2 z.symm
    refine ⟨y0, rfl, .ref a, rfl, a, C, rfl, T, n_at, .inr ⟨dx, _, by rw [upd_same], by rw [upd_ne h2, upd_same], by simp, ?_⟩⟩
    refine q dx _ h1 h2 (fun b b1 b2 => ?_) ?_ ?_
    · rw [upd_ne b2, upd_ne b1, upd_ne b2]
    · rw [upd_ne nn, upd_same]
    · rw [upd_same]
      rfl
/-! ### NoNote.__init__ -/
abbrev sI_NoNote : Stmt := inClass (topS 29) 0
theorem scI_NoNote : FnScope ["self", "depth"] ["self", "depth"] (defScope sI_NoNote) := ⟨rfl, rfl, rfl, by decide +kernel, rfl, by decide +kernel, by decide +kernel⟩
theorem okI_NoNote {P : Program} {w : World} {K : PySem.W.Frag} {mg : Str → Option Value} {base : Heap} {f C CB fB : Addr} {fd fdB : FuncData} {k : Nat} (F : Fun K "__init__" "NoNote.__init__" sI_NoNote f fd) (T : OexG K C) (hw : PySem.W.findIn K (.ref C) "word" = some none) (n_depth : PySem.W.findIn K (.ref C) "depth" = some none)
    (B : CFn K CB "__init__" fB) (GB : FnOk P w K mg base CX0 k fB fdB ["self", "word"] (spBase K)) (bB : Binds K fdB ["self", "word"] []) (mB : mg "Missing" = some (.ref CB)) :
    FnOk P w K mg base CX0 (k + 1) f fd ["self", "depth"] (spMade C 1 (fun ws => [("depth", ws.getD 0 .non), ("word", .str "NoNote")])) := by
  refine F.ok scI_NoNote (fun vs H Q E h => ?_) (fun cdv A outer s H vs Q E hr h => ?_)
  · obtain ⟨a, ws, rfl, hl, _⟩ := h
    rw [List.length_cons, hl]
    rfl
  · obtain ⟨a, ws, rfl, hl, ha, q⟩ := h
    obtain ⟨y0, rfl⟩ := ws_1 hl
    refine ⟨_, pss_cons (ps_expr (pe_cfn B GB hr bB .nil pass0 (by rfl) mB (pa_cons (pv 0) (pa_cons pe_str pa_nil)))) (pss_one (ps_gst (pv 0) (pv 1) rfl)), ?_⟩
    refine ⟨.ref a, rfl, a, C, _, rfl, T, hw, ha, fun dx h1 h2 => ?_⟩
    have nn : a ≠ dx := fun z => h2 z.symm
    refine ⟨y0, rfl, .ref a, rfl, a, C, rfl, T, n_depth, .inr ⟨dx, _, by rw [upd_same], by rw [upd_ne h2, upd_same], by simp, ?_⟩⟩
    refine q dx _ h1 h2 (fun b b1 b2 => ?_) ?_ ?_
    · rw [upd_ne b2, upd_ne b1, upd_ne b2]
    · rw [upd_ne nn, upd_same]
    · rw [upd_same]
      rfl
/-! ### the __init__s of BadNote, Full -/
abbrev sI_BadNote : Stmt := inClass (topS 12) 0
theorem scI_BadNote : FnScope ["self", "note"] ["self", "note"] (defScope sI_BadNote) := ⟨rfl, rfl, rfl, by decide +kernel, rfl, by decide +kernel, by decide +kernel⟩
theorem okI_BadNote {P : Program} {w : World} {K : PySem.W.Frag} {mg : Str → Option Value} {base : Heap} {f C CB fB : Addr} {fd fdB : FuncData} {k : Nat} (F : Fun K "__init__" "BadNote.__init__" sI_BadNote f fd) (T : OexG K C) (hw : PySem.W.findIn K (.ref C) "word" = some none) (n_note : PySem.W.findIn K (.ref C) "note" = some none)
    (B : CFn K CB "__init__" fB) (GB : FnOk P w K mg base CX0 k fB fdB ["self", "word"] (spBase K)) (bB : Binds K fdB ["self", "word"] []) (mB : mg "TearError" = some (.ref CB)) :
    FnOk P w K mg base CX0 (k + 1) f fd ["self", "note"] (spMade C 1 (fun ws => [("note", ws.getD 0 .non), ("word", .str "BadNote")])) := by
  refine F.ok scI_BadNote (fun vs H Q E h => ?_) (fun cdv A outer s H vs Q E hr h => ?_)
  · obtain ⟨a, ws, rfl, hl, _⟩ := h
    rw [List.length_cons, hl]
    rfl
  · obtain ⟨a, ws, rfl, hl, ha, q⟩ := h
    obtain ⟨y0, rfl⟩ := ws_1 hl
    refine ⟨_, pss_cons (ps_expr (pe_cfn B GB hr bB .nil pass0 (by rfl) mB (pa_cons (pv 0) (pa_cons pe_str pa_nil)))) (pss_one (ps_gst (pv 0) (pv 1) rfl)), ?_⟩
    refine ⟨.ref a, rfl, a, C, _, rfl, T, hw, ha, fun dx h1 h2 => ?_⟩
    have nn : a ≠ dx := fun z => h2 z.symm
    refine ⟨y0, rfl, .ref a, rfl, a, C, rfl, T, n_note, .inr ⟨dx, _, by rw [upd_same], by rw [upd_ne h2, upd_same], by simp, ?_⟩⟩
    refine q dx _ h1 h2 (fun b b1 b2 => ?_) ?_ ?_
    · rw [upd_ne b2, upd_ne b1, upd_ne b2]
    · rw [upd_ne nn, upd_same]
    · rw [upd_same]
      rfl
theorem scI_Full : FnScope ["self", "pad"] ["self", "pad"] (defScope sI_Full) := ⟨rfl, rfl, rfl, by decide +kernel, rfl, by decide +kernel, by decide +kernel⟩
theorem okI_Full {P : Program} {w : World} {K : PySem.W.Frag} {mg : Str → Option Value} {base : Heap} {f C CB fB : Addr} {fd fdB : FuncData} {k : Nat} (F : Fun K "__init__" "Full.__init__" sI_Full f fd) (T : OexG K C) (hw : PySem.W.findIn K (.ref C) "word" = some none) (n_pad : PySem.W.findIn K (.ref C) "pad" = some none)
    (B : CFn K CB "__init__" fB) (GB : FnOk P w K mg base CX0 k fB fdB ["self", "word"] (spBase K)) (bB : Binds K fdB ["self", "word"] []) (mB : mg "TearError" = some (.ref CB)) :
    FnOk P w K mg base CX0 (k + 1) f fd ["self", "pad"] (spMade C 1 (fun ws => [("pad", ws.getD 0 .non), ("word", .str "Full")])) := by
  refine F.ok scI_Full (fun vs H Q E h => ?_) (fun cdv A outer s H vs Q E hr h => ?_)
  · obtain ⟨a, ws, rfl, hl, _⟩ := h
    rw [List.length_cons, hl]
    rfl
  · obtain ⟨a, ws, rfl, hl, ha, q⟩ := h
    obtain ⟨y0, rfl⟩ := ws_1 hl
    refine ⟨_, pss_cons (ps_expr (pe_cfn B GB hr bB .nil pass0 (by rfl) mB (pa_cons (pv 0) (pa_cons pe_str pa_nil)))) (pss_one (ps_gst (pv 0) (pv 1) rfl)), ?_⟩
    refine ⟨.ref a, rfl, a, C, _, rfl, T, hw, ha, fun dx h1 h2 => ?_⟩
    have nn : a ≠ dx := fun z => h2 z.symm
    refine ⟨y0, rfl, .ref a, rfl, a, C, rfl, T, n_pad, .inr ⟨dx, _, by rw [upd_same], by rw [upd_ne h2, upd_same], by simp, ?_⟩⟩
    refine q dx _ h1 h2 (fun b b1 b2 => ?_) ?_ ?_
    · rw [upd_ne b2, upd_ne b1, upd_ne b2]
    · rw [upd_ne nn, upd_same]
    · rw [upd_same]
      rfl
/-! ### the __init__s of Stuck, NothingBack, NothingAgain -/
abbrev sI_Stuck : Stmt := inClass (topS 30) 0
theorem scI_Stuck : FnScope ["self", "word"] ["self", "word"] (defScope sI_Stuck) := ⟨rfl, rfl, rfl, by decide +kernel, rfl, by decide +kernel, by decide +kernel⟩
theorem okI_Stuck {P : Program} {w : World} {K : PySem.W.Frag} {mg : Str → Option Value} {base : Heap} {f : Addr} {fd : FuncData} {k : Nat} {ds : List V} (F : FunD K "__init__" "Stuck.__init__" (defArgs sI_Stuck) (defBody sI_Stuck) (defScope sI_Stuck) ds [] f fd) :
    FnOk P w K mg base CX0 (k + 1) f fd ["self", "word"] (spBase K) := by
  refine F.ok (CX := CX0) scI_Stuck (fun vs H Q E h => ?_) (fun cdv A outer s H vs Q E hr h => ?_)
  · obtain ⟨a, C, y, rfl, _⟩ := h
    rfl
  · obtain ⟨a, C, y, rfl, T, hw, ha, q⟩ := h
    refine ⟨_, PSs.nox (pss_one (ps_gst (pv 0) (pv 1) rfl)), ?_⟩
    exact ⟨y, rfl, .ref a, rfl, a, C, rfl, T, hw, .inl ⟨ha, fun dx h1 h2 => q dx h1 h2⟩⟩
abbrev sI_NothingBack : Stmt := inClass (topS 31) 0
theorem scI_NothingBack : FnScope ["self"] ["self"] (defScope sI_NothingBack) := ⟨rfl, rfl, rfl, by decide +kernel, rfl, by decide +kernel, by decide +kernel⟩
theorem okI_NothingBack {P : Program} {w : World} {K : PySem.W.Frag} {mg : Str → Option Value} {base : Heap} {f C CB fB : Addr} {fd fdB : FuncData} {k : Nat} (F : Fun K "__init__" "NothingBack.__init__" sI_NothingBack f fd) (T : OexG K C) (hw : PySem.W.findIn K (.ref C) "word" = some none)
    (B : CFn K CB "__init__" fB) (GB : FnOk P w K mg base CX0 k fB fdB ["self", "word"] (spBase K)) (bB : Binds K fdB ["self", "word"] []) (mB : mg "Stuck" = some (.ref CB)) :
    FnOk P w K mg base CX0 (k + 1) f fd ["self"] (spMade C 0 (fun ws => [("word", .str "NothingBack")])) := by
  refine F.ok scI_NothingBack (fun vs H Q E h => ?_) (fun cdv A outer s H vs Q E hr h => ?_)
  · obtain ⟨a, ws, rfl, hl, _⟩ := h
    rw [List.length_cons, hl]
    rfl
  · obtain ⟨a, ws, rfl, hl, ha, q⟩ := h
    obtain rfl := ws_0 hl
    refine ⟨_, pss_one (ps_expr (pe_cfn B GB hr bB .nil pass0 (by rfl) mB (pa_cons (pv 0) (pa_cons pe_str pa_nil)))), ?_⟩
    refine ⟨.ref a, rfl, a, C, _, rfl, T, hw, ha, fun dx h1 h2 => ?_⟩
    have nn : a ≠ dx := fun z => h2 z.symm
    refine q dx _ h1 h2 (fun b b1 b2 => ?_) upd_same ?_
    · rw [upd_ne b1, upd_ne b2]
    · rw [upd_ne h2, upd_same]
abbrev sI_NothingAgain : Stmt := inClass (topS 32) 0
theorem scI_NothingAgain : FnScope ["self"] ["self"] (defScope sI_NothingAgain) := ⟨rfl, rfl, rfl, by decide +kernel, rfl, by decide +kernel, by decide +kernel⟩
theorem okI_NothingAgain {P : Program} {w : World} {K : PySem.W.Frag} {mg : Str → Option Value} {base : Heap} {f C CB fB : Addr} {fd fdB : FuncData} {k : Nat} (F : Fun K "__init__" "NothingAgain.__init__" sI_NothingAgain f fd) (T : OexG K C) (hw : PySem.W.findIn K (.ref C) "word" = some none)
    (B : CFn K CB "__init__" fB) (GB : FnOk P w K mg base CX0 k fB fdB ["self", "word"] (spBase K)) (bB : Binds K fdB ["self", "word"] []) (mB : mg "Stuck" = some (.ref CB)) :
    FnOk P w K mg base CX0 (k + 1) f fd ["self"] (spMade C 0 (fun ws => [("word", .str "NothingAgain")])) := by
  refine F.ok scI_NothingAgain (fun vs H Q E h => ?_) (fun cdv A outer s H vs Q E hr h => ?_)
  · obtain ⟨a, ws, rfl, hl, _⟩ := h
    rw [List.length_cons, hl]
    rfl
  · obtain ⟨a, ws, rfl, hl, ha, q⟩ := h
    obtain rfl := ws_0 hl
    refine ⟨_, pss_one (ps_expr (pe_cfn B GB hr bB .nil pass0 (by rfl) mB (pa_cons (pv 0) (pa_cons pe_str pa_nil)))), ?_⟩
    refine ⟨.ref a, rfl, a, C, _, rfl, T, hw, ha, fun dx h1 h2 => ?_⟩
    have nn : a ≠ dx := fun z => h2 z.symm
    refine q dx _ h1 h2 (fun b b1 b2 => ?_) upd_same ?_
    · rw [upd_ne b1, upd_ne b2]
    · rw [upd_ne h2, upd_same]
/-! ### the __init__s of more refusals -/
theorem scI_BadColours : FnScope ["self", "at"] ["self", "at"] (defScope sI_BadColours) := ⟨rfl, rfl, rfl, by decide +kernel, rfl, by decide +kernel, by decide +kernel⟩
theorem okI_BadColours {P : Program} {w : World} {K : PySem.W.Frag} {mg : Str → Option Value} {base : Heap} {f C CB fB : Addr} {fd fdB : FuncData} {k : Nat} (F : Fun K "__init__" "BadColours.__init__" sI_BadColours f fd) (T : OexG K C) (hw : PySem.W.findIn K (.ref C) "word" = some none) (n_at : PySem.W.findIn K (.ref C) "at" = some none)
    (B : CFn K CB "__init__" fB) (GB : FnOk P w K mg base CX0 k fB fdB ["self", "word"] (spBase K)) (bB : Binds K fdB ["self", "word"] []) (mB : mg "TearError" = some (.ref CB)) :
    FnOk P w K mg base CX0 (k + 1) f fd ["self", "at"] (spMade C 1 (fun ws => [("at", ws.getD 0 .non), ("word", .str "BadColours")])) := by
  refine F.ok scI_BadColours (fun vs H Q E h => ?_) (fun cdv A outer s H vs Q E hr h => ?_)
  · obtain ⟨a, ws, rfl, hl, _⟩ := h
    rw [List.length_cons, hl]
    rfl
  · obtain ⟨a, ws, rfl, hl, ha, q⟩ := h
    obtain ⟨y0, rfl⟩ := ws_1 hl
    refine ⟨_, pss_cons (ps_expr (pe_cfn B GB hr bB .nil pass0 (by rfl) mB (pa_cons (pv 0) (pa_cons pe_str pa_nil)))) (pss_one (ps_gst (pv 0) (pv 1) rfl)), ?_⟩
    refine ⟨.ref a, rfl, a, C, _, rfl, T, hw, ha, fun dx h1 h2 => ?_⟩
    have nn : a ≠ dx := fun z => h2 z.symm
    refine ⟨y0, rfl, .ref a, rfl, a, C, rfl, T, n_at, .inr ⟨dx, _, by rw [upd_same], by rw [upd_ne h2, upd_same], by simp, ?_⟩⟩
    refine q dx _ h1 h2 (fun b b1 b2 => ?_) ?_ ?_
    · rw [upd_ne b2, upd_ne b1, upd_ne b2]
    · rw [upd_ne nn, upd_same]
    · rw [upd_same]
      rfl
theorem scI_Meeting : FnScope ["self", "one", "other"] ["self", "one", "other"] (defScope sI_Meeting) := ⟨rfl, rfl, rfl, by decide +kernel, rfl, by decide +kernel, by decide +kernel⟩
theorem okI_Meeting {P : Program} {w : World} {K : PySem.W.Frag} {mg : Str → Option Value} {base : Heap} {f C CB fB : Addr} {fd fdB : FuncData} {k : Nat} (F : Fun K "__init__" "Meeting.__init__" sI_Meeting f fd) (T : OexG K C) (hw : PySem.W.findIn K (.ref C) "word" = some none) (n_one : PySem.W.findIn K (.ref C) "one" = some none) (n_other : PySem.W.findIn K (.ref C) "other" = some none)
    (B : CFn K CB "__init__" fB) (GB : FnOk P w K mg base CX0 k fB fdB ["self", "word"] (spBase K)) (bB : Binds K fdB ["self", "word"] []) (mB : mg "TearError" = some (.ref CB)) :
    FnOk P w K mg base CX0 (k + 1) f fd ["self", "one", "other"] (spMade C 2 (fun ws => [("other", ws.getD 1 .non), ("one", ws.getD 0 .non), ("word", .str "Meeting")])) := by
  refine F.ok scI_Meeting (fun vs H Q E h => ?_) (fun cdv A outer s H vs Q E hr h => ?_)
  · obtain ⟨a, ws, rfl, hl, _⟩ := h
    rw [List.length_cons, hl]
    rfl
  · obtain ⟨a, ws, rfl, hl, ha, q⟩ := h
    obtain ⟨y0, y1, rfl⟩ := ws_2 hl
    refine ⟨_, pss_cons (ps_expr (pe_cfn B GB hr bB .nil pass0 (by rfl) mB (pa_cons (pv 0) (pa_cons pe_str pa_nil)))) (pss_cons (ps_gst (pv 0) (pv 1) rfl) (pss_one (ps_gst (pv 0) (pv 2) rfl))), ?_⟩
    refine ⟨.ref a, rfl, a, C, _, rfl, T, hw, ha, fun dx h1 h2 => ?_⟩
    have nn : a ≠ dx := fun z => h2 z.symm
    refine ⟨y0, rfl, .ref a, rfl, a, C, rfl, T, n_one, .inr ⟨dx, _, by rw [upd_same], by rw [upd_ne h2, upd_same], by simp, ?_⟩⟩
    refine ⟨y1, rfl, .ref a, rfl, a, C, rfl, T, n_other, .inr ⟨dx, _, by rw [upd_ne nn, upd_same], by rw [upd_same], by simp, ?_⟩⟩
    refine q dx _ h1 h2 (fun b b1 b2 => ?_) ?_ ?_
    · rw [upd_ne b2, upd_ne b2, upd_ne b1, upd_ne b2]
    · rw [upd_ne nn, upd_ne nn, upd_same]
    · rw [upd_same]
      rfl
theorem scI_TooMany : FnScope ["self", "most"] ["self", "most"] (defScope sI_TooMany) := ⟨rfl, rfl, rfl, by decide +kernel, rfl, by decide +kernel, by decide +kernel⟩
theorem okI_TooMany {P : Program} {w : World} {K : PySem.W.Frag} {mg : Str → Option Value} {base : Heap} {f C CB fB : Addr} {fd fdB : FuncData} {k : Nat} (F : Fun K "__init__" "TooMany.__init__" sI_TooMany f fd) (T : OexG K C) (hw : PySem.W.findIn K (.ref C) "word" = some none) (n_most : PySem.W.findIn K (.ref C) "most" = some none)
    (B : CFn K CB "__init__" fB) (GB : FnOk P w K mg base CX0 k fB fdB ["self", "word"] (spBase K)) (bB : Binds K fdB ["self", "word"] []) (mB : mg "TearError" = some (.ref CB)) :
    FnOk P w K mg base CX0 (k + 1) f fd ["self", "most"] (spMade C 1 (fun ws => [("most", ws.getD 0 .non), ("word", .str "TooMany")])) := by
  refine F.ok scI_TooMany (fun vs H Q E h => ?_) (fun cdv A outer s H vs Q E hr h => ?_)
  · obtain ⟨a, ws, rfl, hl, _⟩ := h
    rw [List.length_cons, hl]
    rfl
  · obtain ⟨a, ws, rfl, hl, ha, q⟩ := h
    obtain ⟨y0, rfl⟩ := ws_1 hl
    refine ⟨_, pss_cons (ps_expr (pe_cfn B GB hr bB .nil pass0 (by rfl) mB (pa_cons (pv 0) (pa_cons pe_str pa_nil)))) (pss_one (ps_gst (pv 0) (pv 1) rfl)), ?_⟩
    refine ⟨.ref a, rfl, a, C, _, rfl, T, hw, ha, fun dx h1 h2 => ?_⟩
    have nn : a ≠ dx := fun z => h2 z.symm
    refine ⟨y0, rfl, .ref a, rfl, a, C, rfl, T, n_most, .inr ⟨dx, _, by rw [upd_same], by rw [upd_ne h2, upd_same], by simp, ?_⟩⟩
    refine q dx _ h1 h2 (fun b b1 b2 => ?_) ?_ ?_
    · rw [upd_ne b2, upd_ne b1, upd_ne b2]
    · rw [upd_ne nn, upd_same]
    · rw [upd_same]
      rfl
abbrev sI_BadOrder : Stmt := inClass (topS 8) 0
theorem scI_BadOrder : FnScope ["self"] ["self"] (defScope sI_BadOrder) := ⟨rfl, rfl, rfl, by decide +kernel, rfl, by decide +kernel, by decide +kernel⟩
theorem okI_BadOrder {P : Program} {w : World} {K : PySem.W.Frag} {mg : Str → Option Value} {base : Heap} {f C CB fB : Addr} {fd fdB : FuncData} {k : Nat} (F : Fun K "__init__" "BadOrder.__init__" sI_BadOrder f fd) (T : OexG K C) (hw : PySem.W.findIn K (.ref C) "word" = some none)
    (B : CFn K CB "__init__" fB) (GB : FnOk P w K mg base CX0 k fB fdB ["self", "word"] (spBase K)) (bB : Binds K fdB ["self", "word"] []) (mB : mg "TearError" = some (.ref CB)) :
    FnOk P w K mg base CX0 (k + 1) f fd ["self"] (spMade C 0 (fun ws => [("word", .str "BadOrder")])) := by
  refine F.ok scI_BadOrder (fun vs H Q E h => ?_) (fun cdv A outer s H vs Q E hr h => ?_)
  · obtain ⟨a, ws, rfl, hl, _⟩ := h
    rw [List.length_cons, hl]
    rfl
  · obtain ⟨a, ws, rfl, hl, ha, q⟩ := h
    obtain rfl := ws_0 hl
    refine ⟨_, pss_one (ps_expr (pe_cfn B GB hr bB .nil pass0 (by rfl) mB (pa_cons (pv 0) (pa_cons pe_str pa_nil)))), ?_⟩
    refine ⟨.ref a, rfl, a, C, _, rfl, T, hw, ha, fun dx h1 h2 => ?_⟩
    have nn : a ≠ dx := fun z => h2 z.symm
    refine q dx _ h1 h2 (fun b b1 b2 => ?_) upd_same ?_
    · rw [upd_ne b1, upd_ne b2]
    · rw [upd_ne h2, upd_same]
abbrev sI_OtherColours : Stmt := inClass (topS 9) 0
theorem scI_OtherColours : FnScope ["self"] ["self"] (defScope sI_OtherColours) := ⟨rfl, rfl, rfl, by decide +kernel, rfl, by decide +kernel, by decide +kernel⟩
theorem okI_OtherColours {P : Program} {w : World} {K : PySem.W.Frag} {mg : Str → Option Value} {base : Heap} {f C CB fB : Addr} {fd fdB : FuncData} {k : Nat} (F : Fun K "__init__" "OtherColours.__init__" sI_OtherColours f fd) (T : OexG K C) (hw : PySem.W.findIn K (.ref C) "word" = some none)
    (B : CFn K CB "__init__" fB) (GB : FnOk P w K mg base CX0 k fB fdB ["self", "word"] (spBase K)) (bB : Binds K fdB ["self", "word"] []) (mB : mg "TearError" = some (.ref CB)) :
    FnOk P w K mg base CX0 (k + 1) f fd ["self"] (spMade C 0 (fun ws => [("word", .str "OtherColours")])) := by
  refine F.ok scI_OtherColours (fun vs H Q E h => ?_) (fun cdv A outer s H vs Q E hr h => ?_)
  · obtain ⟨a, ws, rfl, hl, _⟩ := h
    rw [List.length_cons, hl]
    rfl
  · obtain ⟨a, ws, rfl, hl, ha, q⟩ := h
    obtain rfl := ws_0 hl
    refine ⟨_, pss_one (ps_expr (pe_cfn B GB hr bB .nil pass0 (by rfl) mB (pa_cons (pv 0) (pa_cons pe_str pa_nil)))), ?_⟩
    refine ⟨.ref a, rfl, a, C, _, rfl, T, hw, ha, fun dx h1 h2 => ?_⟩
    have nn : a ≠ dx := fun z => h2 z.symm
    refine q dx _ h1 h2 (fun b b1 b2 => ?_) upd_same ?_
    · rw [upd_ne b1, upd_ne b2]
    · rw [upd_ne h2, upd_same]
/-! ### the refusals by their numbers -/
def rNm (i : Nat) : Str := rNms.getD i ""
/-- the fields of the refusal i with these values -/
def rFs (i : Nat) (ws : List V) : List (Str × V) := ((rFl i).zip ws).reverse ++ [(("word" : Str), V.str (rNm i))]
structure RefsT (K : PySem.W.Frag) (mg : Str → Option Value) (cm : Nat → Addr) : Prop where
  mgC : ∀ i, i < 28 → mg (rNm i) = some (.ref (cm i))
  xf : ∀ i, i < 28 → XfC K (cm i)
  nw : ∀ i, i < 28 → ∀ f ∈ ("word" : Str) :: rFl i, PySem.W.findIn K (.ref (cm i)) f = some none
  sub : ∀ i j, i < 28 → j < 28 → PySem.W.exmOne K (.ref (cm i)) (.ref (cm j)) = some (decide (i = j))
theorem RefsT.any {K : PySem.W.Frag} {mg : Str → Option Value} {cm : Nat → Addr} (T : RefsT K mg cm) {i : Nat} (hi : i < 28) : ∀ (js : List Nat), (∀ j ∈ js, j < 28) → PySem.W.exmAny K (.ref (cm i)) (js.map fun j => .ref (cm j)) = some (js.any fun j => decide (i = j)) := by
  intro js
  induction js with
  | nil => exact fun _ => rfl
  | cons j r ih =>
    intro h
    have a := T.sub i j hi (h j (List.mem_cons_self ..))
    have b := ih fun x hx => h x (List.mem_cons_of_mem _ hx)
    show PySem.W.exmAny K (.ref (cm i)) (.ref (cm j) :: r.map fun j => .ref (cm j)) = _
    unfold PySem.W.exmAny
    rw [a, b]
    rfl
theorem nmT {X : Cx} {K : PySem.W.Frag} {cm : Nat → Addr} {i : Nat} (T : RefsT K X.mg cm) (hi : i < 28) (hg : Gl X (rNm i)) (hd : (rNm i == ("__debug__" : Str)) = false) : Names X (rNm i) (.ref (cm i)) := ⟨hg, hd, .inl (T.mgC i hi)⟩
/-- e.f in an except suite, e a refusal of whatever class -/
def tXfr (K : PySem.W.Frag) (a : Addr) (cls : Value) (d : Option Addr) (f : Str) (te : TE) : TE := fun σ H Q => te σ H fun x H1 => ∃ (C dd : Addr) (fs : List (Str × V)) (v : V), x = .ref a ∧ cls = .ref C ∧ XfC K C ∧ PySem.W.findIn K (.ref C) f = some none ∧ d = some dd ∧ H1 dd = some (.xd fs) ∧ fs.lookup f = some v ∧ Q v H1
theorem pe_xfr {X : Cx} {a : Addr} {oe : Obj} {cls : Value} {d : Option Addr} {pn : List (Addr × Obj)} {e : Expr} {te : TE} {pos : Pos} {f : Str} (hz : Zc cls d oe) (hf : ∃ vs, oe.data = .fields vs) (he : PE (X.suite a ((a, oe) :: pn)) e te)
    (hb : attributeBase e f X.env (eval e X.env) = eval e X.env := by rfl) : PE (X.suite a ((a, oe) :: pn)) (.Attribute e f pos) (tXfr X.K a cls d f te) := by
  refine ⟨fun pins s σ H Q I h => ?_⟩
  refine attr_of hb (thn (he.run pins s σ H _ I h) fun u s1 hh => ?_)
  obtain ⟨x, H1, I1, rx, C, dd, fs, v, rfl, rfl, T, hno, rfl, ea, l, q⟩ := hh
  obtain rfl : u = Value.ref a := rx
  obtain ⟨ha, _⟩ := I1.pin (a, oe) (List.mem_append_left _ List.mem_cons_self)
  obtain ⟨vs, hd⟩ := hf
  have hx : ObjOk X.prog X.w H1 s1.heap dd (.xd fs) := I1.hok dd _ ea
  obtain ⟨mA, hns, hr⟩ := hx
  obtain ⟨od, ho, hl⟩ := lookIn_ns hns
  obtain ⟨u, hu, ru⟩ := RelO.some_of (v := v) (o := mA f) (by rw [← l]; exact hr f)
  have J : PySem.W.InstAt s1.heap a oe C (some od) := ⟨ha, hz.1, by unfold PySem.W.notCls; rw [hd] <;> rfl, by rw [hz.2]; exact ho⟩
  exact HandSPX.exc_get I1.kIn J T.ga T.gg T.exC (PySem.W.findObj_own T.hdC hno rfl (by rw [hl, hu])) (handed_of ru) ⟨v, H1, I1.tok _, ru, q⟩
theorem takes_len {X : Cx} {W : WX} (t : Takes X W) : Takes X (fun cls d σ H => σ.length = X.N.length → W cls d σ H) := fun u s' x => by
  obtain ⟨a, B, sI, pins, σ, H, cls, d, e, I, nb, up, sky, na, os, ag, w⟩ := x
  exact t u s' ⟨a, B, sI, pins, σ, H, cls, d, e, I, nb, up, sky, na, os, ag, w I.len⟩
/-- what _law_tried makes of the lambda's reading -/
def TTried (cm : Nat → Addr) : (XK → Hp → VK → Prop) → Hp → VK → Prop := fun tl H Q =>
  tl (fun cls d H' => ∃ (i : Nat) (ws : List V) (dd : Addr), i < 28 ∧ cls = .ref (cm i) ∧ d = some dd ∧ ws.length = (rFl i).length ∧ H' dd = some (.xd (rFs i ws)) ∧ ∀ p, H' p = none → Q (.ref p) (upd H' p (.tup (.str (rNm i) :: ws)))) H
    (fun v H1 => (2 : Nat) ≤ sizeLine ∧ ∀ p, H1 p = none → Q (.ref p) (upd H1 p (.tup [.str "told", v])))
abbrev nTried : List Str := ["_law_act", "e"]
theorem scTried : FnScope nTried ["_law_act"] (defScope sTried) := ⟨rfl, rfl, rfl, by decide +kernel, rfl, by decide +kernel, by decide +kernel⟩
theorem tried_gives {X : Cx} {cm : Nat → Addr} {g : Addr} {cdg : Value} {q : Str} (T : RefsT X.K X.mg cm) : LamX.GivesTo X nTried "_law_tried" (defScope sTried) g cdg (defBody sTried) "_law_act" q (TTried cm) := by
  intro f c' s H Q tl act hc h
  refine ⟨_, pss_one (ps_try_asN (X := (cxOf C8.CX0 X.prog X.w X.K X.mg X.base nTried "_law_tried" (defScope sTried) g cdg X.A X.stack s H C8.E0).nox) (i := 1) (n := "e")
      (tb := fun W D σ H => ∃ Ech : XK, (∀ cls d (σ' : L2.St) H', Ech cls d H' → σ'.length = 2 → W cls d σ' H') ∧ σ[0]? = some (some (.ref f)) ∧ H c' = some (LamX.CodeO c' q) ∧ tl Ech H (fun v H1 => (2 : Nat) ≤ sizeLine ∧ ∀ p, H1 p = none → D.rt (.ref p) (upd H1 p (.tup [.str "told", v]))))
      rfl rfl scTried.nd rfl rfl LamX.takes0 (fun W pn xe tk _ => ?_)
      (.cons (.tup (.cons (nmT (i := 0) T (by decide) (by rfl) (by decide)) (.cons (nmT (i := 1) T (by decide) (by rfl) (by decide)) (.cons (nmT (i := 8) T (by decide) (by rfl) (by decide)) (.cons (nmT (i := 19) T (by decide) (by rfl) (by decide)) (.cons (nmT (i := 20) T (by decide) (by rfl) (by decide)) (.cons (nmT (i := 22) T (by decide) (by rfl) (by decide)) .nil)))))) (by simp)) (fun a oe cls d pn hz hf => pss_one (ps_ret (pe_tup (pa_cons (pe_xfr hz hf (pv 1)) (pa_cons (pe_xfr hz hf (pv 1)) pa_nil)))))
        (.cons (.one (nmT (i := 2) T (by decide) (by rfl) (by decide))) (fun a oe cls d pn hz hf => pss_one (ps_ret (pe_tup (pa_cons (pe_xfr hz hf (pv 1)) (pa_cons (pe_xfr hz hf (pv 1)) (pa_cons (pe_xfr hz hf (pv 1)) pa_nil))))))
        (.cons (.tup (.cons (nmT (i := 3) T (by decide) (by rfl) (by decide)) (.cons (nmT (i := 4) T (by decide) (by rfl) (by decide)) .nil)) (by simp)) (fun a oe cls d pn hz hf => pss_one (ps_ret (pe_tup (pa_cons (pe_xfr hz hf (pv 1)) (pa_cons (pe_xfr hz hf (pv 1)) pa_nil)))))
        (.cons (.one (nmT (i := 9) T (by decide) (by rfl) (by decide))) (fun a oe cls d pn hz hf => pss_one (ps_ret (pe_tup (pa_cons (pe_xfr hz hf (pv 1)) (pa_cons (pe_xfr hz hf (pv 1)) pa_nil)))))
        (.cons (.tup (.cons (nmT (i := 11) T (by decide) (by rfl) (by decide)) (.cons (nmT (i := 12) T (by decide) (by rfl) (by decide)) (.cons (nmT (i := 14) T (by decide) (by rfl) (by decide)) (.cons (nmT (i := 18) T (by decide) (by rfl) (by decide)) (.cons (nmT (i := 23) T (by decide) (by rfl) (by decide)) .nil))))) (by simp)) (fun a oe cls d pn hz hf => pss_one (ps_ret (pe_tup (pa_cons (pe_xfr hz hf (pv 1)) (pa_cons (pe_xfr hz hf (pv 1)) pa_nil)))))
        (.cons (.tup (.cons (nmT (i := 13) T (by decide) (by rfl) (by decide)) (.cons (nmT (i := 24) T (by decide) (by rfl) (by decide)) .nil)) (by simp)) (fun a oe cls d pn hz hf => pss_one (ps_ret (pe_tup (pa_cons (pe_xfr hz hf (pv 1)) (pa_cons (pe_xfr hz hf (pv 1)) pa_nil)))))
        (.cons (.one (nmT (i := 16) T (by decide) (by rfl) (by decide))) (fun a oe cls d pn hz hf => pss_one (ps_ret (pe_tup (pa_cons (pe_xfr hz hf (pv 1)) (pa_cons (pe_xfr hz hf (pv 1)) pa_nil)))))
        (.cons (.one (nmT (i := 25) T (by decide) (by rfl) (by decide))) (fun a oe cls d pn hz hf => pss_one (ps_ret (pe_tup (pa_cons (pe_xfr hz hf (pv 1)) (pa_cons (pe_xfr hz hf (pv 1)) pa_nil)))))
        (.cons (.tup (.cons (nmT (i := 5) T (by decide) (by rfl) (by decide)) (.cons (nmT (i := 6) T (by decide) (by rfl) (by decide)) (.cons (nmT (i := 7) T (by decide) (by rfl) (by decide)) (.cons (nmT (i := 10) T (by decide) (by rfl) (by decide)) (.cons (nmT (i := 15) T (by decide) (by rfl) (by decide)) (.cons (nmT (i := 17) T (by decide) (by rfl) (by decide)) (.cons (nmT (i := 21) T (by decide) (by rfl) (by decide)) .nil))))))) (by simp)) (fun a oe cls d pn hz hf => pss_one (ps_ret (pe_tup (pa_cons (pe_xfr hz hf (pv 1)) pa_nil))))
        (.cons (.tup (.cons (nmT (i := 26) T (by decide) (by rfl) (by decide)) (.cons (nmT (i := 27) T (by decide) (by rfl) (by decide)) .nil)) (by simp)) (fun a oe cls d pn hz hf => pss_one (ps_ret (pe_tup (pa_cons (pe_xfr hz hf (pv 1)) pa_nil))))
        .nil))))))))))), ?_⟩
  · refine ⟨fun pins s' σ H' D I h' => ?_⟩
    obtain ⟨Ech, hW, h1, h2, h3⟩ := h'
    refine (pss_one (ps_ret (pe_tup (pa_cons pe_str (pa_cons (act (fun cls d σ' H' => σ'.length = 2 → W cls d σ' H') pn xe Ech _ _ (takes_len tk) hW) pa_nil))))).run pins s' σ H' D I ?_
    exact ⟨h1, h2, h3⟩
  · refine ⟨fun cls d H' => ∃ (i : Nat) (ws : List V) (dd : Addr), i < 28 ∧ cls = .ref (cm i) ∧ d = some dd ∧ ws.length = (rFl i).length ∧ H' dd = some (.xd (rFs i ws)) ∧ ∀ p, H' p = none → Q (.ref p) (upd H' p (.tup (.str (rNm i) :: ws))),
      fun cls d σ' H' z hs => ?_, rfl, hc, h⟩
    obtain ⟨i, ws, dd, hi, rfl, rfl, hl, hx, hq⟩ := z
    have at1 : ∀ a : Addr, (σ'.set 1 (some (V.ref a)))[1]? = some (some (V.ref a)) := fun a => List.getElem?_set_self (by omega)
    match i, hi with
    | 0, _ =>
      obtain ⟨y0, rfl⟩ := ws_1 hl
      refine ⟨true, T.any (i := 0) (by decide) [0, 1, 8, 19, 20, 22] (by decide), fun _ a ha => ?_, (fun z => nomatch z)⟩
      exact ⟨.ref a, at1 a, cm 0, dd, _, _, rfl, rfl, T.xf 0 (by decide), T.nw 0 (by decide) _ (by decide), rfl, hx, rfl, .ref a, at1 a, cm 0, dd, _, _, rfl, rfl, T.xf 0 (by decide), T.nw 0 (by decide) _ (by decide), rfl, hx, rfl, by show _ ≤ sizeLine; rw [sizeLine_eq]; simp, hq⟩
    | 1, _ =>
      obtain ⟨y0, rfl⟩ := ws_1 hl
      refine ⟨true, T.any (i := 1) (by decide) [0, 1, 8, 19, 20, 22] (by decide), fun _ a ha => ?_, (fun z => nomatch z)⟩
      exact ⟨.ref a, at1 a, cm 1, dd, _, _, rfl, rfl, T.xf 1 (by decide), T.nw 1 (by decide) _ (by decide), rfl, hx, rfl, .ref a, at1 a, cm 1, dd, _, _, rfl, rfl, T.xf 1 (by decide), T.nw 1 (by decide) _ (by decide), rfl, hx, rfl, by show _ ≤ sizeLine; rw [sizeLine_eq]; simp, hq⟩
    | 2, _ =>
      obtain ⟨y0, y1, rfl⟩ := ws_2 hl
      refine ⟨false, T.any (i := 2) (by decide) [0, 1, 8, 19, 20, 22] (by decide), (fun z => nomatch z), fun _ => ?_⟩
      refine ⟨true, T.any (i := 2) (by decide) [2] (by decide), fun _ a ha => ?_, (fun z => nomatch z)⟩
      exact ⟨.ref a, at1 a, cm 2, dd, _, _, rfl, rfl, T.xf 2 (by decide), T.nw 2 (by decide) _ (by decide), rfl, hx, rfl, .ref a, at1 a, cm 2, dd, _, _, rfl, rfl, T.xf 2 (by decide), T.nw 2 (by decide) _ (by decide), rfl, hx, rfl, .ref a, at1 a, cm 2, dd, _, _, rfl, rfl, T.xf 2 (by decide), T.nw 2 (by decide) _ (by decide), rfl, hx, rfl, by show _ ≤ sizeLine; rw [sizeLine_eq]; simp, hq⟩
    | 3, _ =>
      obtain ⟨y0, rfl⟩ := ws_1 hl
      refine ⟨false, T.any (i := 3) (by decide) [0, 1, 8, 19, 20, 22] (by decide), (fun z => nomatch z), fun _ => ?_⟩
      refine ⟨false, T.any (i := 3) (by decide) [2] (by decide), (fun z => nomatch z), fun _ => ?_⟩
      refine ⟨true, T.any (i := 3) (by decide) [3, 4] (by decide), fun _ a ha => ?_, (fun z => nomatch z)⟩
      exact ⟨.ref a, at1 a, cm 3, dd, _, _, rfl, rfl, T.xf 3 (by decide), T.nw 3 (by decide) _ (by decide), rfl, hx, rfl, .ref a, at1 a, cm 3, dd, _, _, rfl, rfl, T.xf 3 (by decide), T.nw 3 (by decide) _ (by decide), rfl, hx, rfl, by show _ ≤ sizeLine; rw [sizeLine_eq]; simp, hq⟩
    | 4, _ =>
      obtain ⟨y0, rfl⟩ := ws_1 hl
      refine ⟨false, T.any (i := 4) (by decide) [0, 1, 8, 19, 20, 22] (by decide), (fun z => nomatch z), fun _ => ?_⟩
      refine ⟨false, T.any (i := 4) (by decide) [2] (by decide), (fun z => nomatch z), fun _ => ?_⟩
      refine ⟨true, T.any (i := 4) (by decide) [3, 4] (by decide), fun _ a ha => ?_, (fun z => nomatch z)⟩
      exact ⟨.ref a, at1 a, cm 4, dd, _, _, rfl, rfl, T.xf 4 (by decide), T.nw 4 (by decide) _ (by decide), rfl, hx, rfl, .ref a, at1 a, cm 4, dd, _, _, rfl, rfl, T.xf 4 (by decide), T.nw 4 (by decide) _ (by decide), rfl, hx, rfl, by show _ ≤ sizeLine; rw [sizeLine_eq]; simp, hq⟩
    | 5, _ =>
      obtain rfl := ws_0 hl
      refine ⟨false, T.any (i := 5) (by decide) [0, 1, 8, 19, 20, 22] (by decide), (fun z => nomatch z), fun _ => ?_⟩
      refine ⟨false, T.any (i := 5) (by decide) [2] (by decide), (fun z => nomatch z), fun _ => ?_⟩
      refine ⟨false, T.any (i := 5) (by decide) [3, 4] (by decide), (fun z => nomatch z), fun _ => ?_⟩
      refine ⟨false, T.any (i := 5) (by decide) [9] (by decide), (fun z => nomatch z), fun _ => ?_⟩
      refine ⟨false, T.any (i := 5) (by decide) [11, 12, 14, 18, 23] (by decide), (fun z => nomatch z), fun _ => ?_⟩
      refine ⟨false, T.any (i := 5) (by decide) [13, 24] (by decide), (fun z => nomatch z), fun _ => ?_⟩
      refine ⟨false, T.any (i := 5) (by decide) [16] (by decide), (fun z => nomatch z), fun _ => ?_⟩
      refine ⟨false, T.any (i := 5) (by decide) [25] (by decide), (fun z => nomatch z), fun _ => ?_⟩
      refine ⟨true, T.any (i := 5) (by decide) [5, 6, 7, 10, 15, 17, 21] (by decide), fun _ a ha => ?_, (fun z => nomatch z)⟩
      exact ⟨.ref a, at1 a, cm 5, dd, _, _, rfl, rfl, T.xf 5 (by decide), T.nw 5 (by decide) _ (by decide), rfl, hx, rfl, by show _ ≤ sizeLine; rw [sizeLine_eq]; simp, hq⟩
    | 6, _ =>
      obtain rfl := ws_0 hl
      refine ⟨false, T.any (i := 6) (by decide) [0, 1, 8, 19, 20, 22] (by decide), (fun z => nomatch z), fun _ => ?_⟩
      refine ⟨false, T.any (i := 6) (by decide) [2] (by decide), (fun z => nomatch z), fun _ => ?_⟩
      refine ⟨false, T.any (i := 6) (by decide) [3, 4] (by decide), (fun z => nomatch z), fun _ => ?_⟩
      refine ⟨false, T.any (i := 6) (by decide) [9] (by decide), (fun z => nomatch z), fun _ => ?_⟩
      refine ⟨false, T.any (i := 6) (by decide) [11, 12, 14, 18, 23] (by decide), (fun z => nomatch z), fun _ => ?_⟩
      refine ⟨false, T.any (i := 6) (by decide) [13, 24] (by decide), (fun z => nomatch z), fun _ => ?_⟩
      refine ⟨false, T.any (i := 6) (by decide) [16] (by decide), (fun z => nomatch z), fun _ => ?_⟩
      refine ⟨false, T.any (i := 6) (by decide) [25] (by decide), (fun z => nomatch z), fun _ => ?_⟩
      refine ⟨true, T.any (i := 6) (by decide) [5, 6, 7, 10, 15, 17, 21] (by decide), fun _ a ha => ?_, (fun z => nomatch z)⟩
      exact ⟨.ref a, at1 a, cm 6, dd, _, _, rfl, rfl, T.xf 6 (by decide), T.nw 6 (by decide) _ (by decide), rfl, hx, rfl, by show _ ≤ sizeLine; rw [sizeLine_eq]; simp, hq⟩
    | 7, _ =>
      obtain rfl := ws_0 hl
      refine ⟨false, T.any (i := 7) (by decide) [0, 1, 8, 19, 20, 22] (by decide), (fun z => nomatch z), fun _ => ?_⟩
      refine ⟨false, T.any (i := 7) (by decide) [2] (by decide), (fun z => nomatch z), fun _ => ?_⟩
      refine ⟨false, T.any (i := 7) (by decide) [3, 4] (by decide), (fun z => nomatch z), fun _ => ?_⟩
      refine ⟨false, T.any (i := 7) (by decide) [9] (by decide), (fun z => nomatch z), fun _ => ?_⟩
      refine ⟨false, T.any (i := 7) (by decide) [11, 12, 14, 18, 23] (by decide), (fun z => nomatch z), fun _ => ?_⟩
      refine ⟨false, T.any (i := 7) (by decide) [13, 24] (by decide), (fun z => nomatch z), fun _ => ?_⟩
      refine ⟨false, T.any (i := 7) (by decide) [16] (by decide), (fun z => nomatch z), fun _ => ?_⟩
      refine ⟨false, T.any (i := 7) (by decide) [25] (by decide), (fun z => nomatch z), fun _ => ?_⟩
      refine ⟨true, T.any (i := 7) (by decide) [5, 6, 7, 10, 15, 17, 21] (by decide), fun _ a ha => ?_, (fun z => nomatch z)⟩
      exact ⟨.ref a, at1 a, cm 7, dd, _, _, rfl, rfl, T.xf 7 (by decide), T.nw 7 (by decide) _ (by decide), rfl, hx, rfl, by show _ ≤ sizeLine; rw [sizeLine_eq]; simp, hq⟩
    | 8, _ =>
      obtain ⟨y0, rfl⟩ := ws_1 hl
      refine ⟨true, T.any (i := 8) (by decide) [0, 1, 8, 19, 20, 22] (by decide), fun _ a ha => ?_, (fun z => nomatch z)⟩
      exact ⟨.ref a, at1 a, cm 8, dd, _, _, rfl, rfl, T.xf 8 (by decide), T.nw 8 (by decide) _ (by decide), rfl, hx, rfl, .ref a, at1 a, cm 8, dd, _, _, rfl, rfl, T.xf 8 (by decide), T.nw 8 (by decide) _ (by decide), rfl, hx, rfl, by show _ ≤ sizeLine; rw [sizeLine_eq]; simp, hq⟩
    | 9, _ =>
      obtain ⟨y0, rfl⟩ := ws_1 hl
      refine ⟨false, T.any (i := 9) (by decide) [0, 1, 8, 19, 20, 22] (by decide), (fun z => nomatch z), fun _ => ?_⟩
      refine ⟨false, T.any (i := 9) (by decide) [2] (by decide), (fun z => nomatch z), fun _ => ?_⟩
      refine ⟨false, T.any (i := 9) (by decide) [3, 4] (by decide), (fun z => nomatch z), fun _ => ?_⟩
      refine ⟨true, T.any (i := 9) (by decide) [9] (by decide), fun _ a ha => ?_, (fun z => nomatch z)⟩
      exact ⟨.ref a, at1 a, cm 9, dd, _, _, rfl, rfl, T.xf 9 (by decide), T.nw 9 (by decide) _ (by decide), rfl, hx, rfl, .ref a, at1 a, cm 9, dd, _, _, rfl, rfl, T.xf 9 (by decide), T.nw 9 (by decide) _ (by decide), rfl, hx, rfl, by show _ ≤ sizeLine; rw [sizeLine_eq]; simp, hq⟩
    | 10, _ =>
      obtain rfl := ws_0 hl
      refine ⟨false, T.any (i := 10) (by decide) [0, 1, 8, 19, 20, 22] (by decide), (fun z => nomatch z), fun _ => ?_⟩
      refine ⟨false, T.any (i := 10) (by decide) [2] (by decide), (fun z => nomatch z), fun _ => ?_⟩
      refine ⟨false, T.any (i := 10) (by decide) [3, 4] (by decide), (fun z => nomatch z), fun _ => ?_⟩
      refine ⟨false, T.any (i := 10) (by decide) [9] (by decide), (fun z => nomatch z), fun _ => ?_⟩
      refine ⟨false, T.any (i := 10) (by decide) [11, 12, 14, 18, 23] (by decide), (fun z => nomatch z), fun _ => ?_⟩
      refine ⟨false, T.any (i := 10) (by decide) [13, 24] (by decide), (fun z => nomatch z), fun _ => ?_⟩
      refine ⟨false, T.any (i := 10) (by decide) [16] (by decide), (fun z => nomatch z), fun _ => ?_⟩
      refine ⟨false, T.any (i := 10) (by decide) [25] (by decide), (fun z => nomatch z), fun _ => ?_⟩
      refine ⟨true, T.any (i := 10) (by decide) [5, 6, 7, 10, 15, 17, 21] (by decide), fun _ a ha => ?_, (fun z => nomatch z)⟩
      exact ⟨.ref a, at1 a, cm 10, dd, _, _, rfl, rfl, T.xf 10 (by decide), T.nw 10 (by decide) _ (by decide), rfl, hx, rfl, by show _ ≤ sizeLine; rw [sizeLine_eq]; simp, hq⟩
    | 11, _ =>
      obtain ⟨y0, rfl⟩ := ws_1 hl
      refine ⟨false, T.any (i := 11) (by decide) [0, 1, 8, 19, 20, 22] (by decide), (fun z => nomatch z), fun _ => ?_⟩
      refine ⟨false, T.any (i := 11) (by decide) [2] (by decide), (fun z => nomatch z), fun _ => ?_⟩
      refine ⟨false, T.any (i := 11) (by decide) [3, 4] (by decide), (fun z => nomatch z), fun _ => ?_⟩
      refine ⟨false, T.any (i := 11) (by decide) [9] (by decide), (fun z => nomatch z), fun _ => ?_⟩
      refine ⟨true, T.any (i := 11) (by decide) [11, 12, 14, 18, 23] (by decide), fun _ a ha => ?_, (fun z => nomatch z)⟩
      exact ⟨.ref a, at1 a, cm 11, dd, _, _, rfl, rfl, T.xf 11 (by decide), T.nw 11 (by decide) _ (by decide), rfl, hx, rfl, .ref a, at1 a, cm 11, dd, _, _, rfl, rfl, T.xf 11 (by decide), T.nw 11 (by decide) _ (by decide), rfl, hx, rfl, by show _ ≤ sizeLine; rw [sizeLine_eq]; simp, hq⟩
    | 12, _ =>
      obtain ⟨y0, rfl⟩ := ws_1 hl
      refine ⟨false, T.any (i := 12) (by decide) [0, 1, 8, 19, 20, 22] (by decide), (fun z => nomatch z), fun _ => ?_⟩
      refine ⟨false, T.any (i := 12) (by decide) [2] (by decide), (fun z => nomatch z), fun _ => ?_⟩
      refine ⟨false, T.any (i := 12) (by decide) [3, 4] (by decide), (fun z => nomatch z), fun _ => ?_⟩
      refine ⟨false, T.any (i := 12) (by decide) [9] (by decide), (fun z => nomatch z), fun _ => ?_⟩
      refine ⟨true, T.any (i := 12) (by decide) [11, 12, 14, 18, 23] (by decide), fun _ a ha => ?_, (fun z => nomatch z)⟩
      exact ⟨.ref a, at1 a, cm 12, dd, _, _, rfl, rfl, T.xf 12 (by decide), T.nw 12 (by decide) _ (by decide), rfl, hx, rfl, .ref a, at1 a, cm 12, dd, _, _, rfl, rfl, T.xf 12 (by decide), T.nw 12 (by decide) _ (by decide), rfl, hx, rfl, by show _ ≤ sizeLine; rw [sizeLine_eq]; simp, hq⟩
    | 13, _ =>
      obtain ⟨y0, rfl⟩ := ws_1 hl
      refine ⟨false, T.any (i := 13) (by decide) [0, 1, 8, 19, 20, 22] (by decide), (fun z => nomatch z), fun _ => ?_⟩
      refine ⟨false, T.any (i := 13) (by decide) [2] (by decide), (fun z => nomatch z), fun _ => ?_⟩
      refine ⟨false, T.any (i := 13) (by decide) [3, 4] (by decide), (fun z => nomatch z), fun _ => ?_⟩
      refine ⟨false, T.any (i := 13) (by decide) [9] (by decide), (fun z => nomatch z), fun _ => ?_⟩
      refine ⟨false, T.any (i := 13) (by decide) [11, 12, 14, 18, 23] (by decide), (fun z => nomatch z), fun _ => ?_⟩
      refine ⟨true, T.any (i := 13) (by decide) [13, 24] (by decide), fun _ a ha => ?_, (fun z => nomatch z)⟩
      exact ⟨.ref a, at1 a, cm 13, dd, _, _, rfl, rfl, T.xf 13 (by decide), T.nw 13 (by decide) _ (by decide), rfl, hx, rfl, .ref a, at1 a, cm 13, dd, _, _, rfl, rfl, T.xf 13 (by decide), T.nw 13 (by decide) _ (by decide), rfl, hx, rfl, by show _ ≤ sizeLine; rw [sizeLine_eq]; simp, hq⟩
    | 14, _ =>
      obtain ⟨y0, rfl⟩ := ws_1 hl
      refine ⟨false, T.any (i := 14) (by decide) [0, 1, 8, 19, 20, 22] (by decide), (fun z => nomatch z), fun _ => ?_⟩
      refine ⟨false, T.any (i := 14) (by decide) [2] (by decide), (fun z => nomatch z), fun _ => ?_⟩
      refine ⟨false, T.any (i := 14) (by decide) [3, 4] (by decide), (fun z => nomatch z), fun _ => ?_⟩
      refine ⟨false, T.any (i := 14) (by decide) [9] (by decide), (fun z => nomatch z), fun _ => ?_⟩
      refine ⟨true, T.any (i := 14) (by decide) [11, 12, 14, 18, 23] (by decide), fun _ a ha => ?_, (fun z => nomatch z)⟩
      exact ⟨.ref a, at1 a, cm 14, dd, _, _, rfl, rfl, T.xf 14 (by decide), T.nw 14 (by decide) _ (by decide), rfl, hx, rfl, .ref a, at1 a, cm 14, dd, _, _, rfl, rfl, T.xf 14 (by decide), T.nw 14 (by decide) _ (by decide), rfl, hx, rfl, by show _ ≤ sizeLine; rw [sizeLine_eq]; simp, hq⟩
    | 15, _ =>
      obtain rfl := ws_0 hl
      refine ⟨false, T.any (i := 15) (by decide) [0, 1, 8, 19, 20, 22] (by decide), (fun z => nomatch z), fun _ => ?_⟩
      refine ⟨false, T.any (i := 15) (by decide) [2] (by decide), (fun z => nomatch z), fun _ => ?_⟩
      refine ⟨false, T.any (i := 15) (by decide) [3, 4] (by decide), (fun z => nomatch z), fun _ => ?_⟩
      refine ⟨false, T.any (i := 15) (by decide) [9] (by decide), (fun z => nomatch z), fun _ => ?_⟩
      refine ⟨false, T.any (i := 15) (by decide) [11, 12, 14, 18, 23] (by decide), (fun z => nomatch z), fun _ => ?_⟩
      refine ⟨false, T.any (i := 15) (by decide) [13, 24] (by decide), (fun z => nomatch z), fun _ => ?_⟩
      refine ⟨false, T.any (i := 15) (by decide) [16] (by decide), (fun z => nomatch z), fun _ => ?_⟩
      refine ⟨false, T.any (i := 15) (by decide) [25] (by decide), (fun z => nomatch z), fun _ => ?_⟩
      refine ⟨true, T.any (i := 15) (by decide) [5, 6, 7, 10, 15, 17, 21] (by decide), fun _ a ha => ?_, (fun z => nomatch z)⟩
      exact ⟨.ref a, at1 a, cm 15, dd, _, _, rfl, rfl, T.xf 15 (by decide), T.nw 15 (by decide) _ (by decide), rfl, hx, rfl, by show _ ≤ sizeLine; rw [sizeLine_eq]; simp, hq⟩
    | 16, _ =>
      obtain ⟨y0, rfl⟩ := ws_1 hl
      refine ⟨false, T.any (i := 16) (by decide) [0, 1, 8, 19, 20, 22] (by decide), (fun z => nomatch z), fun _ => ?_⟩
      refine ⟨false, T.any (i := 16) (by decide) [2] (by decide), (fun z => nomatch z), fun _ => ?_⟩
      refine ⟨false, T.any (i := 16) (by decide) [3, 4] (by decide), (fun z => nomatch z), fun _ => ?_⟩
      refine ⟨false, T.any (i := 16) (by decide) [9] (by decide), (fun z => nomatch z), fun _ => ?_⟩
      refine ⟨false, T.any (i := 16) (by decide) [11, 12, 14, 18, 23] (by decide), (fun z => nomatch z), fun _ => ?_⟩
      refine ⟨false, T.any (i := 16) (by decide) [13, 24] (by decide), (fun z => nomatch z), fun _ => ?_⟩
      refine ⟨true, T.any (i := 16) (by decide) [16] (by decide), fun _ a ha => ?_, (fun z => nomatch z)⟩
      exact ⟨.ref a, at1 a, cm 16, dd, _, _, rfl, rfl, T.xf 16 (by decide), T.nw 16 (by decide) _ (by decide), rfl, hx, rfl, .ref a, at1 a, cm 16, dd, _, _, rfl, rfl, T.xf 16 (by decide), T.nw 16 (by decide) _ (by decide), rfl, hx, rfl, by show _ ≤ sizeLine; rw [sizeLine_eq]; simp, hq⟩
    | 17, _ =>
      obtain rfl := ws_0 hl
      refine ⟨false, T.any (i := 17) (by decide) [0, 1, 8, 19, 20, 22] (by decide), (fun z => nomatch z), fun _ => ?_⟩
      refine ⟨false, T.any (i := 17) (by decide) [2] (by decide), (fun z => nomatch z), fun _ => ?_⟩
      refine ⟨false, T.any (i := 17) (by decide) [3, 4] (by decide), (fun z => nomatch z), fun _ => ?_⟩
      refine ⟨false, T.any (i := 17) (by decide) [9] (by decide), (fun z => nomatch z), fun _ => ?_⟩
      refine ⟨false, T.any (i := 17) (by decide) [11, 12, 14, 18, 23] (by decide), (fun z => nomatch z), fun _ => ?_⟩
      refine ⟨false, T.any (i := 17) (by decide) [13, 24] (by decide), (fun z => nomatch z), fun _ => ?_⟩
      refine ⟨false, T.any (i := 17) (by decide) [16] (by decide), (fun z => nomatch z), fun _ => ?_⟩
      refine ⟨false, T.any (i := 17) (by decide) [25] (by decide), (fun z => nomatch z), fun _ => ?_⟩
      refine ⟨true, T.any (i := 17) (by decide) [5, 6, 7, 10, 15, 17, 21] (by decide), fun _ a ha => ?_, (fun z => nomatch z)⟩
      exact ⟨.ref a, at1 a, cm 17, dd, _, _, rfl, rfl, T.xf 17 (by decide), T.nw 17 (by decide) _ (by decide), rfl, hx, rfl, by show _ ≤ sizeLine; rw [sizeLine_eq]; simp, hq⟩
    | 18, _ =>
      obtain ⟨y0, rfl⟩ := ws_1 hl
      refine ⟨false, T.any (i := 18) (by decide) [0, 1, 8, 19, 20, 22] (by decide), (fun z => nomatch z), fun _ => ?_⟩
      refine ⟨false, T.any (i := 18) (by decide) [2] (by decide), (fun z => nomatch z), fun _ => ?_⟩
      refine ⟨false, T.any (i := 18) (by decide) [3, 4] (by decide), (fun z => nomatch z), fun _ => ?_⟩
      refine ⟨false, T.any (i := 18) (by decide) [9] (by decide), (fun z => nomatch z), fun _ => ?_⟩
      refine ⟨true, T.any (i := 18) (by decide) [11, 12, 14, 18, 23] (by decide), fun _ a ha => ?_, (fun z => nomatch z)⟩
      exact ⟨.ref a, at1 a, cm 18, dd, _, _, rfl, rfl, T.xf 18 (by decide), T.nw 18 (by decide) _ (by decide), rfl, hx, rfl, .ref a, at1 a, cm 18, dd, _, _, rfl, rfl, T.xf 18 (by decide), T.nw 18 (by decide) _ (by decide), rfl, hx, rfl, by show _ ≤ sizeLine; rw [sizeLine_eq]; simp, hq⟩
    | 19, _ =>
      obtain ⟨y0, rfl⟩ := ws_1 hl
      refine ⟨true, T.any (i := 19) (by decide) [0, 1, 8, 19, 20, 22] (by decide), fun _ a ha => ?_, (fun z => nomatch z)⟩
      exact ⟨.ref a, at1 a, cm 19, dd, _, _, rfl, rfl, T.xf 19 (by decide), T.nw 19 (by decide) _ (by decide), rfl, hx, rfl, .ref a, at1 a, cm 19, dd, _, _, rfl, rfl, T.xf 19 (by decide), T.nw 19 (by decide) _ (by decide), rfl, hx, rfl, by show _ ≤ sizeLine; rw [sizeLine_eq]; simp, hq⟩
    | 20, _ =>
      obtain ⟨y0, rfl⟩ := ws_1 hl
      refine ⟨true, T.any (i := 20) (by decide) [0, 1, 8, 19, 20, 22] (by decide), fun _ a ha => ?_, (fun z => nomatch z)⟩
      exact ⟨.ref a, at1 a, cm 20, dd, _, _, rfl, rfl, T.xf 20 (by decide), T.nw 20 (by decide) _ (by decide), rfl, hx, rfl, .ref a, at1 a, cm 20, dd, _, _, rfl, rfl, T.xf 20 (by decide), T.nw 20 (by decide) _ (by decide), rfl, hx, rfl, by show _ ≤ sizeLine; rw [sizeLine_eq]; simp, hq⟩
    | 21, _ =>
      obtain rfl := ws_0 hl
      refine ⟨false, T.any (i := 21) (by decide) [0, 1, 8, 19, 20, 22] (by decide), (fun z => nomatch z), fun _ => ?_⟩
      refine ⟨false, T.any (i := 21) (by decide) [2] (by decide), (fun z => nomatch z), fun _ => ?_⟩
      refine ⟨false, T.any (i := 21) (by decide) [3, 4] (by decide), (fun z => nomatch z), fun _ => ?_⟩
      refine ⟨false, T.any (i := 21) (by decide) [9] (by decide), (fun z => nomatch z), fun _ => ?_⟩
      refine ⟨false, T.any (i := 21) (by decide) [11, 12, 14, 18, 23] (by decide), (fun z => nomatch z), fun _ => ?_⟩
      refine ⟨false, T.any (i := 21) (by decide) [13, 24] (by decide), (fun z => nomatch z), fun _ => ?_⟩
      refine ⟨false, T.any (i := 21) (by decide) [16] (by decide), (fun z => nomatch z), fun _ => ?_⟩
      refine ⟨false, T.any (i := 21) (by decide) [25] (by decide), (fun z => nomatch z), fun _ => ?_⟩
      refine ⟨true, T.any (i := 21) (by decide) [5, 6, 7, 10, 15, 17, 21] (by decide), fun _ a ha => ?_, (fun z => nomatch z)⟩
      exact ⟨.ref a, at1 a, cm 21, dd, _, _, rfl, rfl, T.xf 21 (by decide), T.nw 21 (by decide) _ (by decide), rfl, hx, rfl, by show _ ≤ sizeLine; rw [sizeLine_eq]; simp, hq⟩
    | 22, _ =>
      obtain ⟨y0, rfl⟩ := ws_1 hl
      refine ⟨true, T.any (i := 22) (by decide) [0, 1, 8, 19, 20, 22] (by decide), fun _ a ha => ?_, (fun z => nomatch z)⟩
      exact ⟨.ref a, at1 a, cm 22, dd, _, _, rfl, rfl, T.xf 22 (by decide), T.nw 22 (by decide) _ (by decide), rfl, hx, rfl, .ref a, at1 a, cm 22, dd, _, _, rfl, rfl, T.xf 22 (by decide), T.nw 22 (by decide) _ (by decide), rfl, hx, rfl, by show _ ≤ sizeLine; rw [sizeLine_eq]; simp, hq⟩
    | 23, _ =>
      obtain ⟨y0, rfl⟩ := ws_1 hl
      refine ⟨false, T.any (i := 23) (by decide) [0, 1, 8, 19, 20, 22] (by decide), (fun z => nomatch z), fun _ => ?_⟩
      refine ⟨false, T.any (i := 23) (by decide) [2] (by decide), (fun z => nomatch z), fun _ => ?_⟩
      refine ⟨false, T.any (i := 23) (by decide) [3, 4] (by decide), (fun z => nomatch z), fun _ => ?_⟩
      refine ⟨false, T.any (i := 23) (by decide) [9] (by decide), (fun z => nomatch z), fun _ => ?_⟩
      refine ⟨true, T.any (i := 23) (by decide) [11, 12, 14, 18, 23] (by decide), fun _ a ha => ?_, (fun z => nomatch z)⟩
      exact ⟨.ref a, at1 a, cm 23, dd, _, _, rfl, rfl, T.xf 23 (by decide), T.nw 23 (by decide) _ (by decide), rfl, hx, rfl, .ref a, at1 a, cm 23, dd, _, _, rfl, rfl, T.xf 23 (by decide), T.nw 23 (by decide) _ (by decide), rfl, hx, rfl, by show _ ≤ sizeLine; rw [sizeLine_eq]; simp, hq⟩
    | 24, _ =>
      obtain ⟨y0, rfl⟩ := ws_1 hl
      refine ⟨false, T.any (i := 24) (by decide) [0, 1, 8, 19, 20, 22] (by decide), (fun z => nomatch z), fun _ => ?_⟩
      refine ⟨false, T.any (i := 24) (by decide) [2] (by decide), (fun z => nomatch z), fun _ => ?_⟩
      refine ⟨false, T.any (i := 24) (by decide) [3, 4] (by decide), (fun z => nomatch z), fun _ => ?_⟩
      refine ⟨false, T.any (i := 24) (by decide) [9] (by decide), (fun z => nomatch z), fun _ => ?_⟩
      refine ⟨false, T.any (i := 24) (by decide) [11, 12, 14, 18, 23] (by decide), (fun z => nomatch z), fun _ => ?_⟩
      refine ⟨true, T.any (i := 24) (by decide) [13, 24] (by decide), fun _ a ha => ?_, (fun z => nomatch z)⟩
      exact ⟨.ref a, at1 a, cm 24, dd, _, _, rfl, rfl, T.xf 24 (by decide), T.nw 24 (by decide) _ (by decide), rfl, hx, rfl, .ref a, at1 a, cm 24, dd, _, _, rfl, rfl, T.xf 24 (by decide), T.nw 24 (by decide) _ (by decide), rfl, hx, rfl, by show _ ≤ sizeLine; rw [sizeLine_eq]; simp, hq⟩
    | 25, _ =>
      obtain ⟨y0, rfl⟩ := ws_1 hl
      refine ⟨false, T.any (i := 25) (by decide) [0, 1, 8, 19, 20, 22] (by decide), (fun z => nomatch z), fun _ => ?_⟩
      refine ⟨false, T.any (i := 25) (by decide) [2] (by decide), (fun z => nomatch z), fun _ => ?_⟩
      refine ⟨false, T.any (i := 25) (by decide) [3, 4] (by decide), (fun z => nomatch z), fun _ => ?_⟩
      refine ⟨false, T.any (i := 25) (by decide) [9] (by decide), (fun z => nomatch z), fun _ => ?_⟩
      refine ⟨false, T.any (i := 25) (by decide) [11, 12, 14, 18, 23] (by decide), (fun z => nomatch z), fun _ => ?_⟩
      refine ⟨false, T.any (i := 25) (by decide) [13, 24] (by decide), (fun z => nomatch z), fun _ => ?_⟩
      refine ⟨false, T.any (i := 25) (by decide) [16] (by decide), (fun z => nomatch z), fun _ => ?_⟩
      refine ⟨true, T.any (i := 25) (by decide) [25] (by decide), fun _ a ha => ?_, (fun z => nomatch z)⟩
      exact ⟨.ref a, at1 a, cm 25, dd, _, _, rfl, rfl, T.xf 25 (by decide), T.nw 25 (by decide) _ (by decide), rfl, hx, rfl, .ref a, at1 a, cm 25, dd, _, _, rfl, rfl, T.xf 25 (by decide), T.nw 25 (by decide) _ (by decide), rfl, hx, rfl, by show _ ≤ sizeLine; rw [sizeLine_eq]; simp, hq⟩
    | 26, _ =>
      obtain rfl := ws_0 hl
      refine ⟨false, T.any (i := 26) (by decide) [0, 1, 8, 19, 20, 22] (by decide), (fun z => nomatch z), fun _ => ?_⟩
      refine ⟨false, T.any (i := 26) (by decide) [2] (by decide), (fun z => nomatch z), fun _ => ?_⟩
      refine ⟨false, T.any (i := 26) (by decide) [3, 4] (by decide), (fun z => nomatch z), fun _ => ?_⟩
      refine ⟨false, T.any (i := 26) (by decide) [9] (by decide), (fun z => nomatch z), fun _ => ?_⟩
      refine ⟨false, T.any (i := 26) (by decide) [11, 12, 14, 18, 23] (by decide), (fun z => nomatch z), fun _ => ?_⟩
      refine ⟨false, T.any (i := 26) (by decide) [13, 24] (by decide), (fun z => nomatch z), fun _ => ?_⟩
      refine ⟨false, T.any (i := 26) (by decide) [16] (by decide), (fun z => nomatch z), fun _ => ?_⟩
      refine ⟨false, T.any (i := 26) (by decide) [25] (by decide), (fun z => nomatch z), fun _ => ?_⟩
      refine ⟨false, T.any (i := 26) (by decide) [5, 6, 7, 10, 15, 17, 21] (by decide), (fun z => nomatch z), fun _ => ?_⟩
      refine ⟨true, T.any (i := 26) (by decide) [26, 27] (by decide), fun _ a ha => ?_, (fun z => nomatch z)⟩
      exact ⟨.ref a, at1 a, cm 26, dd, _, _, rfl, rfl, T.xf 26 (by decide), T.nw 26 (by decide) _ (by decide), rfl, hx, rfl, by show _ ≤ sizeLine; rw [sizeLine_eq]; simp, hq⟩
    | 27, _ =>
      obtain rfl := ws_0 hl
      refine ⟨false, T.any (i := 27) (by decide) [0, 1, 8, 19, 20, 22] (by decide), (fun z => nomatch z), fun _ => ?_⟩
      refine ⟨false, T.any (i := 27) (by decide) [2] (by decide), (fun z => nomatch z), fun _ => ?_⟩
      refine ⟨false, T.any (i := 27) (by decide) [3, 4] (by decide), (fun z => nomatch z), fun _ => ?_⟩
      refine ⟨false, T.any (i := 27) (by decide) [9] (by decide), (fun z => nomatch z), fun _ => ?_⟩
      refine ⟨false, T.any (i := 27) (by decide) [11, 12, 14, 18, 23] (by decide), (fun z => nomatch z), fun _ => ?_⟩
      refine ⟨false, T.any (i := 27) (by decide) [13, 24] (by decide), (fun z => nomatch z), fun _ => ?_⟩
      refine ⟨false, T.any (i := 27) (by decide) [16] (by decide), (fun z => nomatch z), fun _ => ?_⟩
      refine ⟨false, T.any (i := 27) (by decide) [25] (by decide), (fun z => nomatch z), fun _ => ?_⟩
      refine ⟨false, T.any (i := 27) (by decide) [5, 6, 7, 10, 15, 17, 21] (by decide), (fun z => nomatch z), fun _ => ?_⟩
      refine ⟨true, T.any (i := 27) (by decide) [26, 27] (by decide), fun _ a ha => ?_, (fun z => nomatch z)⟩
      exact ⟨.ref a, at1 a, cm 27, dd, _, _, rfl, rfl, T.xf 27 (by decide), T.nw 27 (by decide) _ (by decide), rfl, hx, rfl, by show _ ≤ sizeLine; rw [sizeLine_eq]; simp, hq⟩
    | n + 28, hi => exact absurd hi (by omega)
/-! ### a lambda that is handed on: x(lambda: body, e), x hands it to the def that calls it -/
section
open LamX
variable {X : Cx} {pins : List (Addr × Obj)} {σ : L2.St} {H : Hp} {s : Shared}
/-- a(), in a def entered at s0 from the frames outer', which lie over those of the lambda's maker -/
theorem pe_act2 {CXg : CXT} {Eg : XK} {Ng : List Str} {qg : Str} {sg : Scope} {g f c' : Addr} {cdg pm ctv : Value} {params : Arguments} {body : Expr} {scope : Scope} {k i : Nat} {a : Str} {pn : List (Addr × Obj)} {xe : Value → Shared → Prop} {W : WX} {E : XK} {tb : TE} {p1 p2 : Pos}
    {A' : Around} {outer' : List Env} {s0 : Shared} {H0 : Hp} (I : Inv X pins σ H s) (L : LamS X.env.scope scope) (of0 : s0.heap.get? f = some (PySem.W.kla_obj "<lambda>" (X.env.qual ++ "<lambda>") params body scope (cloFrom X.env.cells scope.names []) pm c' ctv)) (hfn : H0 f = none) (hfr : f ∉ frs outer')
    (hun : ∀ (sZ : Shared) (HZ : Hp), Un (frs outer') [] H0 HZ s0.heap sZ.heap → HOk X.prog X.w HZ sZ.heap → AllBare sZ.gens → sZ.os = s0.os → Un (frs X.stack) [] H HZ s.heap sZ.heap)
    (hbind : bindArgs (PySem.W.kla_fn "<lambda>" (X.env.qual ++ "<lambda>") params body scope (cloFrom X.env.cells scope.names []) pm (.ref c') ctv) ⟨[], []⟩ = pure [])
    (tk : Takes ((cxOf CXg X.prog X.w X.K X.mg X.base Ng qg sg g cdg A' outer' s0 H0 Eg).tr pn xe) W) (hW : ∀ cls d σ' H', E cls d H' → W cls d σ' H') (hr : Room (k + 1) (A'.deeper (envOfC qg sg s0.heap.objs.size g cdg)))
    (hbody : ∀ (A : Around) (outer : List Env) (s : Shared) (H : Hp), Room k (A.deeper (lamEnv X scope s.heap.objs.size f c')) → PE (lamCx X A outer s H E scope f c') body tb)
    (hN : Ng[i]? = some a) (hv : Vis sg a) (hd : (a == ("__debug__" : Str)) = false := by decide) (hcd : (a == ("__classdict__" : Str)) = false := by decide) :
    PE ((cxOf CXg X.prog X.w X.K X.mg X.base Ng qg sg g cdg A' outer' s0 H0 Eg).tr pn xe) (.Call (.Name a p1) [] [] p2)
      (fun σZ HZ Q => σZ[i]? = some (some (.ref f)) ∧ HZ c' = some (CodeO c' (X.env.qual ++ "<lambda>")) ∧ tb σ HZ Q) := by
  refine ⟨fun pinsZ sZ σZ HZ Q IZ h => ?_⟩
  obtain ⟨hs, hc, ht⟩ := h
  refine wpAny_Call_Name_kw (thn ((pe_var (pos := p1) (i := i) hN hv hd hcd).run pinsZ sZ σZ HZ (fun v H1 => v = .ref f ∧ H1 = HZ) IZ ⟨.ref f, hs, rfl, rfl⟩) fun u s1 z => ?_)
  obtain ⟨v, H1, I1, r1, rfl, rfl⟩ := z
  obtain rfl : u = Value.ref f := r1
  have of1 := I1.base.keep f _ of0 hfn hfr (fun z => nomatch (show f ∈ ([] : List Addr) from z))
  refine PySem.W.callWith_F0 ⟨_, _, _, _, of1⟩ ?_
  have un : Un (frs X.stack) [] H H1 s.heap s1.heap := hun s1 H1 I1.base I1.hok I1.bare I1.os
  obtain ⟨⟨oc, vs, t, hoc, hdc, hvc⟩, _, _⟩ := I1.hok c' _ hc
  have hx : Passes (L2.CX X.prog X.w) ((cxOf CXg X.prog X.w X.K X.mg X.base Ng qg sg g cdg A' outer' s0 H0 Eg).tr pn xe) E := passes_call tk hW
  have rc : codeAny (model X.prog X.w) (A'.deeper (envOfC qg sg s0.heap.objs.size g cdg)) (.call (.ref f) ⟨[], []⟩) (CR (L2.CX X.prog X.w) (envOfC qg sg s0.heap.objs.size g cdg :: outer') X.prog X.w H1 s1 Q E) s1 := by
    refine PySem.W.kla_callFunE hr.depth of1 rfl L.co L.gen rfl ⟨c', oc, vs, t, rfl, hoc, hdc, hvc⟩ ?_
    rw [hbind]
    refine wpAny_pure (wpAny_newFunctionEnv (fun y hy => (L.own y hy).2) (fun y hy => absurd hy (by simp)) (fun h₁ hns hsb => ⟨I1.nolimit.fresh _ hsb, ?_⟩) L.kind)
    show codeAny _ _ (.expr body (lamEnv X scope s1.heap.objs.size f c')) _ _
    have kp : ∀ b o, s1.heap.get? b = some o → h₁.get? b = some o := fun b o e => hsb.extBut b o (Nat.ne_of_lt (Heap.lt_size e)) (Heap.get?_push_of_some _ e)
    have J := lam_start2 (tk := s1.toks + ([] : List (Str × Value)).length) (E := E) (f := f) (c' := c') I L I1.env0 hr.hd un hns kp
    refine PySem.W.kla_codeExpr (wpAny_mono ((hbody _ _ s1 H1 (hr.deeper _)).run [] _ _ H1 Q J ht) (fun v s' hq => ?_) fun e s' hq => hq)
    obtain ⟨w', H', J', rv, q⟩ := hq
    exact ⟨w', H', J'.os, J'.bare, J'.base, J'.hok, rv, q⟩
  refine wpAny_call (codeAny_mono rc fun r s' hq => ?_)
  cases r with
  | error e => exact hx pinsZ σZ H1 s1 e s' I1 hq
  | ok fl =>
    cases fl with
    | ret u => exact I1.after hq
    | next => exact False.elim hq
    | brk => exact False.elim hq
    | cont => exact False.elim hq
end
section
open LamX
variable {X : Cx} {pins : List (Addr × Obj)} {σ : L2.St} {H : Hp} {s : Shared}
theorem kla_notCell {x q : Str} {pa : Arguments} {b : Expr} {sc : Scope} {cl : List (Str × Addr)} {pm cv : Value} {c : Addr} : ∀ v, (PySem.W.kla_obj x q pa b sc cl pm c cv).data ≠ .cell v := fun v z => nomatch z
theorem visTried : Vis (defScope sTried) "_law_act" := .inl rfl
/-- _law_tried(a), in a def that got the lambda from its maker: Z is that def's context -/
theorem pe_hand {cm : Nat → Addr} {N1 : List Str} {x1 a1 : Str} {sg1 : Scope} {g1 gT f c' : Addr} {cd1 pm ctv : Value} {fdT : FuncData} {params : Arguments} {body : Expr} {scope : Scope} {k : Nat} {t : XK → TE} {p p' pos : Pos}
    (I : Inv X pins σ H s) (L : LamS X.env.scope scope) (hf : s.heap.get? f = some (PySem.W.kla_obj "<lambda>" (X.env.qual ++ "<lambda>") params body scope (cloFrom X.env.cells scope.names []) pm c' ctv)) (hfn : H f = none) (hfr : f ∉ frs X.stack)
    (hbind : ∀ (q : Str) (cl : List (Str × Addr)) (pm cv ctv : Value), bindArgs (PySem.W.kla_fn "<lambda>" q params body scope cl pm cv ctv) ⟨[], []⟩ = pure [])
    (hbody : ∀ (A : Around) (outer : List Env) (s : Shared) (H : Hp) (E : XK) (f c' : Addr), Room k (A.deeper (lamEnv X scope s.heap.objs.size f c')) → PE (lamCx X A outer s H E scope f c') body (t E))
    (T : RefsT X.K X.mg cm) (FT : Fun X.K "_law_tried" "_law_tried" sTried gT fdT) (mT : X.mg "_law_tried" = some (.ref gT)) (bT : L2.Binds X.K fdT ["_law_act"] []) (hr : Room (k + 2) (X.A.deeper (envOfC x1 sg1 s.heap.objs.size g1 cd1)))
    (hgT : sg1.names.lookup ("_law_tried" : Str) = some NameKind.globalImplicit) (hN : N1[0]? = some a1) (hv : Vis sg1 a1) (hd : (a1 == ("__debug__" : Str)) = false := by decide) (hcd : (a1 == ("__classdict__" : Str)) = false := by decide) :
    PE (cxOf C8.CX0 X.prog X.w X.K X.mg X.base N1 x1 sg1 g1 cd1 X.A X.stack s H C8.E0).nox (.Call (.Name "_law_tried" p) [.Name a1 p'] [] pos)
      (fun σ1 H1 Q => σ1[0]? = some (some (.ref f)) ∧ H1 c' = some (CodeO c' (X.env.qual ++ "<lambda>")) ∧ TTried cm (fun E H' Q' => t E σ H' Q') H1 Q) := by
  refine ⟨fun pinsZ sZ σZ HZ Q IZ h => ?_⟩
  obtain ⟨h1, h2, h3⟩ := h
  refine wpAny_Call_Name_kw (ld_glob IZ hgT mT ?_)
  refine PySem.W.callWith_K (h₀ := X.base) IZ.ok.mod.kin FT.kp (thn ((pa_cons (pe_var (pos := p') (i := 0) hN hv hd hcd) pa_nil).run pos pinsZ sZ σZ HZ (fun vs H1 => vs = [.ref f] ∧ H1 = HZ) IZ ⟨.ref f, h1, rfl, rfl⟩) fun us s1 z => ?_) (by rfl) (by rfl)
  obtain ⟨vs, H1, I1, r1, rfl, rfl⟩ := z
  refine ⟨I1.kIn, ?_⟩
  obtain ⟨oc, od, kV, doc, pmT, an, cdv, ct, osl, rfl, lk, hcg⟩ := FT.ex
  have of0 := I1.base.keep f _ hf hfn hfr (fun z => nomatch (show f ∈ ([] : List Addr) from z))
  have hfn0 : H1 f = none := I1.base.free f _ hf hfn (fun z => nomatch (show f ∈ ([] : List Addr) from z))
  have hfr0 : f ∉ frs (envOfC x1 sg1 s.heap.objs.size g1 cd1 :: X.stack) := fun z => by
    obtain ⟨e, he, q⟩ := List.mem_filterMap.mp z
    rcases List.mem_cons.mp he with e1 | e1
    · subst e1
      have q' : some s.heap.objs.size = some f := q
      have l := Heap.lt_size hf
      rw [← Option.some.inj q'] at l
      exact Nat.lt_irrefl _ l
    · exact hfr (List.mem_filterMap.mpr ⟨e, e1, q⟩)
  have hun : ∀ (sZ : Shared) (HZ : Hp), Un (frs (envOfC x1 sg1 s.heap.objs.size g1 cd1 :: X.stack)) [] H1 HZ s1.heap sZ.heap → HOk X.prog X.w HZ sZ.heap → AllBare sZ.gens → sZ.os = s1.os → Un (frs X.stack) [] H HZ s.heap sZ.heap :=
    fun sZ' HZ' u1 u2 u3 u4 => (I1.call' (ch := []) u4 u1 u2 u3 (fun b z => absurd z (by simp))).base
  have rc : codeAny (model X.prog X.w) (X.A.deeper (envOfC x1 sg1 s.heap.objs.size g1 cd1)) (.call (.ref gT) ⟨us, []⟩) (CR C8.CX0 (envOfC x1 sg1 s.heap.objs.size g1 cd1 :: X.stack) X.prog X.w H1 s1 Q C8.E0) s1 := by
    have bb : BindsTo s1 (PySem.W.fnOf "_law_tried" "_law_tried" (defArgs sTried) (defBody sTried) (defScope sTried) .none kV doc pmT an cdv ct) ⟨us, []⟩ ((["_law_act"] : List Str).zip us) := by
      have hl : (us ++ []).length = (["_law_act"] : List Str).length := by
        rw [List.append_nil, ← r1.length]
        rfl
      have z := bT s1 us I1.kIn hl
      rw [List.append_nil] at z
      exact z
    refine run_ofS (N := nTried) (ps := ["_law_act"]) (us := us) (vs := [.ref f]) (k := k + 1) lk hcg scTried hr I1.env0 bb r1 rfl fun hr' => ?_
    have act : ∀ (W : WX) (pn : List (Addr × Obj)) (xe : Value → Shared → Prop) (E : XK) (p1 p2 : Pos), Takes ((cxOf C8.CX0 X.prog X.w X.K X.mg X.base nTried "_law_tried" (defScope sTried) gT cdv (X.A.deeper (envOfC x1 sg1 s.heap.objs.size g1 cd1)) (envOfC x1 sg1 s.heap.objs.size g1 cd1 :: X.stack) s1 H1 C8.E0).tr pn xe) W → (∀ cls d σ' H', E cls d H' → W cls d σ' H') →
        PE ((cxOf C8.CX0 X.prog X.w X.K X.mg X.base nTried "_law_tried" (defScope sTried) gT cdv (X.A.deeper (envOfC x1 sg1 s.heap.objs.size g1 cd1)) (envOfC x1 sg1 s.heap.objs.size g1 cd1 :: X.stack) s1 H1 C8.E0).tr pn xe) (.Call (.Name "_law_act" p1) [] [] p2)
          (fun σZ HZ Q => σZ[0]? = some (some (.ref f)) ∧ HZ c' = some (CodeO c' (X.env.qual ++ "<lambda>")) ∧ t E σ HZ Q) := fun W pn xe E p1 p2 tk hW =>
      pe_act2 (i := 0) (A' := X.A.deeper (envOfC x1 sg1 s.heap.objs.size g1 cd1)) (outer' := envOfC x1 sg1 s.heap.objs.size g1 cd1 :: X.stack) (s0 := s1) (H0 := H1) (k := k) I L of0 hfn0 hfr0 hun (hbind _ _ _ _ _) tk hW hr' (fun A outer s H hr2 => hbody A outer s H E f c' hr2) rfl visTried
    obtain ⟨t', ht', hq'⟩ := tried_gives (X := cxOf C8.CX0 X.prog X.w X.K X.mg X.base N1 x1 sg1 g1 cd1 X.A X.stack s H C8.E0) (g := gT) (cdg := cdv) (q := X.env.qual ++ "<lambda>") T f c' s1 H1 Q (fun E H' Q' => t E σ H' Q') act h2 h3
    exact ⟨t', ht'.nox, hq'⟩
  refine wpAny_call (codeAny_mono rc fun r s' hq => ?_)
  cases r with
  | error e => exact (show False from hq).elim
  | ok fl =>
    cases fl with
    | ret u => exact I1.after hq
    | next => exact False.elim hq
    | brk => exact False.elim hq
    | cont => exact False.elim hq
end
/-! ### the 28 refusals by one Bool -/
theorem refsB_ok {K : PySem.W.Frag} {h : Heap} {mg : Str → Option Value} {fa : List He.Fa} {fn : List He.DefD} (X : K.In h) (G : h.Ns mainGlobals mg) (c : He.SaysD (rNms.map He.Fa.glo ++ fa) fn K) (hb : refsB K = true) : RefsT K mg (fun i => (rNms.map (He.ga K)).getD i 0) := by
  unfold refsB at hb
  rw [frL_eq] at hb
  have key : ∀ i, i < 28 → xfB K ((rNms.map (He.ga K)).getD i 0) = true ∧ ((("word" : Str) :: rFl i).all fun f => He.eqO (PySem.W.findIn K (.ref ((rNms.map (He.ga K)).getD i 0)) f) (some none)) = true ∧ ((List.range 28).all fun j => decide (PySem.W.exmOne K (.ref ((rNms.map (He.ga K)).getD i 0)) (.ref ((rNms.map (He.ga K)).getD j 0)) = some (decide (i = j)))) = true := fun i hi => by
    have z := List.all_eq_true.mp hb i (List.mem_range.mpr hi)
    rw [frN_eq] at z
    obtain ⟨z1, z2⟩ := Bool.and_eq_true_iff.mp z
    obtain ⟨z3, z4⟩ := Bool.and_eq_true_iff.mp z1
    exact ⟨z3, z4, z2⟩
  refine ⟨fun i hi => ?_, fun i hi => xfB_ok (key i hi).1, fun i hi f hf => He.eqO_ok (List.all_eq_true.mp (key i hi).2.1 f hf), fun i j hi hj => of_decide_eq_true (List.all_eq_true.mp (key i hi).2.2 j (List.mem_range.mpr hj))⟩
  have hl : i < rNms.length := hi
  have e1 : rNm i = rNms[i] := by
    unfold rNm
    rw [List.getD_eq_getElem?_getD, List.getElem?_eq_getElem hl]
    rfl
  have e2 : (rNms.map (He.ga K)).getD i 0 = He.ga K (rNm i) := by
    rw [e1, List.getD_eq_getElem?_getD, List.getElem?_map, List.getElem?_eq_getElem hl]
    rfl
  rw [e2]
  refine He.glo_ok X G (c.facts (f := .glo (rNm i)) (List.mem_append_left _ (List.mem_map.mpr ⟨rNm i, ?_, rfl⟩)))
  rw [e1]
  exact List.getElem_mem hl
/-! ### _law_is(lambda: body, e) -/
abbrev nIs : List Str := ["_law_act", "_law_due"]
theorem scIs : FnScope nIs ["_law_act", "_law_due"] (defScope sIs) := ⟨rfl, rfl, rfl, by decide +kernel, rfl, by decide +kernel, by decide +kernel⟩
theorem visIs : Vis (defScope sIs) "_law_act" := .inl rfl
/-- T: the tables of code objects; te: e's reading; t: the lambda's -/
def tIs (K : PySem.W.Frag) (T : List (Addr × Str)) (cm : Nat → Addr) (n : Nat) (te : TE) (t : XK → TE) : TE := fun σ H Q => LamX.Tabs T H ∧ ∀ H1, LamX.ExtN H H1 → LamX.Tabs T H1 → te σ H1 fun y H2 => LamX.ExtN H1 H2 ∧
  ∀ Q' : VK, (∀ v H3, spLike K n [v, y] H3 Q (fun _ _ _ => False) → Q' v H3) → TTried cm (fun E H' Q'' => t E σ H' Q'') H2 Q'
section
open LamX
variable {X : Cx}
theorem pe_is {T : List (Addr × Str)} {cm : Nat → Addr} {g gT gL c P : Addr} {fd fdT fdL : FuncData} {k n : Nat} {params : Arguments} {body e : Expr} {scope : Scope} {t : XK → TE} {te : TE} {p lpos pos : Pos}
    (FI : Fun X.K "_law_is" "_law_is" sIs g fd) (hm : X.mg "_law_is" = some (.ref g)) (hb : L2.Binds X.K fd ["_law_act", "_law_due"] []) (hg : Gl X "_law_is")
    (RT : RefsT X.K X.mg cm) (FT : Fun X.K "_law_tried" "_law_tried" sTried gT fdT) (mT : X.mg "_law_tried" = some (.ref gT)) (bT : L2.Binds X.K fdT ["_law_act"] [])
    (FL : Fun X.K "_law_like" "_law_like" sLike gL fdL) (mL : X.mg "_law_like" = some (.ref gL)) (bL : L2.Binds X.K fdL ["_law_one", "_law_due"] []) (GL : FnOk X.prog X.w X.K X.mg X.base CX0 (k + 2) gL fdL ["_law_one", "_law_due"] (spLike X.K n))
    (hs : X.stack = X.env :: X.outer) (tb : TabB X.base X.mg c P) (hcode : X.env.code = .ref c) (hmT : (P, X.env.qual ++ "<lambda>") ∈ T) (hu : ∀ p ∈ T, p.1 = P → p.2 = X.env.qual ++ "<lambda>") (hr : Room (k + 3) X.A) (L : LamS X.env.scope scope) (hdef : defaultsOf params X.env = ([], []))
    (hbind : ∀ (q : Str) (cl : List (Str × Addr)) (pm cv ctv : Value), bindArgs (PySem.W.kla_fn "<lambda>" q params body scope cl pm cv ctv) ⟨[], []⟩ = pure [])
    (hbody : ∀ (A : Around) (outer : List Env) (s : Shared) (H : Hp) (E : XK) (f c' : Addr), Room k (A.deeper (lamEnv X scope s.heap.objs.size f c')) → PE (lamCx X A outer s H E scope f c') body (t E))
    (he : PE X e te) (hst : starEach [e] X.env = (false, eval e X.env) :: starEach [] X.env := by rfl) :
    PE X (.Call (.Name "_law_is" p) [.Lambda params body scope lpos, e] [] pos) (tIs X.K T cm n te t) := by
  refine ⟨fun pins s σ H Q I h => ?_⟩
  obtain ⟨hT, h⟩ := h
  refine wpAny_Call_Name_kw (ld_glob I hg hm ?_)
  refine PySem.W.callWith_K (h₀ := X.base) I.ok.mod.kin FI.kp ?_ (by rfl) (by rw [hst]; rfl)
  show wpAny _ _ (spliced ((false, eval (.Lambda params body scope lpos) X.env) :: backTo pos (starEach [e] X.env))) _ _ s
  refine Calls.spliced_cons (lam_make2 I tb hcode hmT hu hT hdef (L.has I.ok) fun f c' pm' ctv H1 s' I1 eN T1 hf hfn hfr hco => ?_)
  have nL : f ≠ X.env.locals := fun z => by
    obtain ⟨m, ⟨ob, es, ep, ho, hd, _⟩, _⟩ := I1.loc
    rw [← z, hf] at ho
    have z2 := Option.some.inj ho
    rw [← z2] at hd
    cases hd
  have nF : f ∉ X.fs := fun z => hfr (by
    obtain ⟨en, e1, e2⟩ := List.mem_filterMap.mp z
    rw [hs]
    exact List.mem_filterMap.mpr ⟨en, List.mem_cons_of_mem _ e1, e2⟩)
  have J1 : Inv X ((f, PySem.W.kla_obj "<lambda>" (X.env.qual ++ "<lambda>") params body scope (cloFrom X.env.cells scope.names []) pm' c' ctv) :: pins) σ H1 s' := I1.pins_of fun r hr' => by
    rcases List.mem_cons.mp hr' with z | z
    · rw [z]
      exact ⟨hf, hfn, nL, nF, kla_notCell⟩
    · exact I1.pin r (List.mem_append_right _ z)
  rw [hst]
  refine Calls.spliced_cons (thn (he.run _ s' σ H1 _ J1 (h H1 eN T1)) fun u s2 z => ?_)
  obtain ⟨y, H2, J2, ry, eN2, q⟩ := z
  have hf2 := ClX.pin_at J2
  have hfn2 := ClX.pin_un J2
  have I2 := ClX.unpin J2
  have hco2 : H2 c' = some (CodeO c' (X.env.qual ++ "<lambda>")) := eN2 _ _ hco codeO_ne
  refine Calls.spliced_nil ⟨I2.kIn, ?_⟩
  obtain ⟨oc, od, kV, doc, pmT, an, cdv, ct, osl, rfl, lk, hcg⟩ := FI.ex
  have rc : codeAny (model X.prog X.w) X.A (.call (.ref g) ⟨[.ref f, u], []⟩) (CR C8.CX0 X.stack X.prog X.w H2 s2 Q C8.E0) s2 := by
    refine run_ofS (N := nIs) (ps := ["_law_act", "_law_due"]) (us := [.ref f, u]) (vs := [.ref f, y]) (k := k + 2) lk hcg scIs hr I2.env0 (hb s2 [.ref f, u] I2.kIn rfl) (.cons rfl (.cons ry .nil)) rfl fun hr' => ?_
    refine ⟨_, PSs.nox (pss_one (ps_ret (pe_call GL hr' (by rfl) mL FL.kp bL .nil pass0 (pa_cons (pe_hand (cm := cm) (N1 := nIs) (x1 := "_law_is") (a1 := "_law_act") (sg1 := defScope sIs) (g1 := g) (cd1 := cdv) (t := t) (k := k) I2 L hf2 hfn2 hfr hbind hbody RT FT mT bT hr' rfl rfl visIs) (pa_cons (pv 1) pa_nil))))), ?_⟩
    exact ⟨rfl, hco2, q _ fun v H3 z => ⟨y, rfl, z⟩⟩
  refine wpAny_call (codeAny_mono rc fun r s3 hq => ?_)
  cases r with
  | error e => exact (show False from hq).elim
  | ok fl =>
    cases fl with
    | ret u => exact I2.after hq
    | next => exact False.elim hq
    | brk => exact False.elim hq
    | cont => exact False.elim hq
end
/-! ### rows: the mathematics -/
def cyc (t : List Int) (z : Int) : Int := t.getD (z % (t.length : Int)).toNat 0
def isP (t : List Int) (q : Nat) : Prop := t.length % q = 0 ∧ (List.replicate (t.length / q) (t.take q)).flatten = t
structure IsPer (t : List Int) (p : Nat) : Prop where
  pos : 1 ≤ p
  le : p ≤ t.length
  is : isP t p
  min : ∀ q, 1 ≤ q → q ≤ t.length → isP t q → p ≤ q
theorem IsPer.det {t : List Int} {p q : Nat} (a : IsPer t p) (b : IsPer t q) : p = q :=
  Nat.le_antisymm (a.min q b.pos b.le b.is) (b.min p a.pos a.le a.is)
theorem rep_get (u : List Int) : ∀ (m i : Nat), i < m * u.length → (List.replicate m u).flatten[i]? = u[i % u.length]?
  | 0, i, h => by omega
  | m + 1, i, h => by
    rw [List.replicate_succ, List.flatten_cons]
    by_cases hi : i < u.length
    · rw [List.getElem?_append_left hi, Nat.mod_eq_of_lt hi]
    · rw [List.getElem?_append_right (by omega), rep_get u m (i - u.length) (by rw [Nat.succ_mul] at h; omega), ← Nat.mod_eq_sub_mod (by omega)]
theorem rep_len (u : List Int) (m : Nat) : (List.replicate m u).flatten.length = m * u.length := by
  induction m with
  | zero => simp
  | succ m ih => rw [List.replicate_succ, List.flatten_cons, List.length_append, ih, Nat.succ_mul, Nat.add_comm]
theorem mod_lt (z : Int) {n : Nat} (h : 0 < n) : (z % (n : Int)).toNat < n := by
  have h1 := Int.emod_nonneg z (b := (n : Int)) (by omega)
  have h2 := Int.emod_lt_of_pos z (b := (n : Int)) (by omega)
  omega
theorem cyc_get {t : List Int} (h : 0 < t.length) (z : Int) : t[(z % (t.length : Int)).toNat]? = some (cyc t z) := by
  unfold cyc
  rw [List.getD_eq_getElem?_getD, List.getElem?_eq_getElem (mod_lt z h)]
  rfl
theorem cyc_nat {t : List Int} {i : Nat} (h : i < t.length) : t[i]? = some (cyc t i) := by
  have := cyc_get (t := t) (by omega) (i : Int)
  rw [Int.emod_eq_of_lt (by omega) (by omega), Int.toNat_natCast] at this
  exact this
theorem cyc_add (t : List Int) (z : Int) : cyc t (z + t.length) = cyc t z := by
  unfold cyc
  rw [Int.add_emod_right]
theorem cyc_mod (t : List Int) (z : Int) : cyc t (z % t.length) = cyc t z := by
  unfold cyc
  rw [Int.emod_emod_of_dvd _ (Int.dvd_refl _)]
theorem isP_cyc {t : List Int} {q : Nat} (h1 : 1 ≤ q) (h2 : q ≤ t.length) (h : isP t q) (z : Int) : cyc (t.take q) z = cyc t z := by
  obtain ⟨hm, hf⟩ := h
  have hn : 0 < t.length := by omega
  have hl : (t.take q).length = q := by rw [List.length_take]; omega
  have hd : q * (t.length / q) = t.length := by
    have := Nat.div_add_mod t.length q
    omega
  have hi := mod_lt z hn
  have e1 := cyc_get hn z
  have e3 := rep_get (t.take q) (t.length / q) _ (show (z % (t.length : Int)).toNat < t.length / q * (t.take q).length by rw [hl, Nat.mul_comm, hd]; exact hi)
  rw [hf, e1, hl] at e3
  have e4 : (z % (t.length : Int)).toNat % q = (z % (q : Int)).toNat := by
    have g1 := Int.emod_nonneg z (b := (t.length : Int)) (by omega)
    have g2 : ((z % (t.length : Int)).toNat : Int) = z % (t.length : Int) := Int.toNat_of_nonneg g1
    have g3 : z % (t.length : Int) % (q : Int) = z % (q : Int) := Int.emod_emod_of_dvd z (by exact_mod_cast Nat.dvd_of_mod_eq_zero hm)
    have g4 : (((z % (t.length : Int)).toNat % q : Nat) : Int) = z % (q : Int) := by rw [Int.natCast_emod, g2, g3]
    omega
  rw [e4] at e3
  have e5 := cyc_get (t := t.take q) (by omega) z
  rw [hl] at e5
  rw [e5] at e3
  exact (Option.some.inj e3).symm
theorem cyc_isP {t : List Int} {q : Nat} (h1 : 1 ≤ q) (h2 : q ≤ t.length) (hm : t.length % q = 0) (h : ∀ z : Int, cyc t (z + q) = cyc t z) : isP t q := by
  refine ⟨hm, ?_⟩
  have hl : (t.take q).length = q := by rw [List.length_take]; omega
  have hd : t.length / q * q = t.length := by
    have := Nat.div_add_mod t.length q
    rw [Nat.mul_comm]
    omega
  have hk : ∀ (k : Nat) (z : Int), cyc t (z + (k : Int) * q) = cyc t z := by
    intro k
    induction k with
    | zero => intro z; simp
    | succ k ih =>
      intro z
      rw [show z + ((k + 1 : Nat) : Int) * q = (z + (k : Int) * q) + q by rw [Int.natCast_add, Int.add_mul]; omega, h, ih]
  apply List.ext_getElem?
  intro i
  by_cases hi : i < t.length
  · rw [rep_get _ _ _ (by rw [hl, hd]; exact hi), hl, cyc_nat hi, List.getElem?_take, if_pos (Nat.mod_lt _ (by omega)), cyc_nat (Nat.lt_of_le_of_lt (Nat.mod_le _ _) hi)]
    have := hk (i / q) ((i % q : Nat) : Int)
    have e : ((i % q : Nat) : Int) + ((i / q : Nat) : Int) * q = i := by
      have := Nat.mod_add_div i q
      have h2 : ((i % q + q * (i / q) : Nat) : Int) = i := by rw [this]
      rw [Int.natCast_add, Int.natCast_mul] at h2
      rw [Int.mul_comm]
      exact h2
    rw [e] at this
    rw [this]
  · rw [List.getElem?_eq_none (by rw [rep_len, hl, hd]; omega), List.getElem?_eq_none (by omega)]
/-- w turned by s -/
def rot (w : List Int) (s : Int) : List Int := (List.range w.length).map fun (k : Nat) => cyc w ((k : Int) - s)
theorem rot_len (w : List Int) (s : Int) : (rot w s).length = w.length := by
  unfold rot
  rw [List.length_map, List.length_range]
theorem rot_get {w : List Int} {s : Int} {k : Nat} (h : k < w.length) : (rot w s)[k]? = some (cyc w ((k : Int) - s)) := by
  unfold rot
  rw [List.getElem?_map, List.getElem?_range h]
  rfl
theorem cyc_rot {w : List Int} (h : 0 < w.length) (s z : Int) : cyc (rot w s) z = cyc w (z - s) := by
  have e1 := cyc_get (t := rot w s) (by rw [rot_len]; exact h) z
  rw [rot_len, rot_get (mod_lt z h)] at e1
  rw [← Option.some.inj e1, Int.toNat_of_nonneg (Int.emod_nonneg _ (by omega)), ← cyc_mod w (z % _ - s), ← cyc_mod w (z - s), Int.emod_sub_emod]
theorem rot_zero (w : List Int) : rot w 0 = w := by
  apply List.ext_getElem?
  intro i
  by_cases hi : i < w.length
  · rw [rot_get hi, cyc_nat hi, Int.sub_zero]
  · rw [List.getElem?_eq_none (by rw [rot_len]; omega), List.getElem?_eq_none (by omega)]
theorem rot_cut {w : List Int} (h : 0 < w.length) (s : Int) : w.drop ((-s) % (w.length : Int)).toNat ++ w.take ((-s) % (w.length : Int)).toNat = rot w s := by
  have hs := mod_lt (-s) h
  have hs0 := Int.emod_nonneg (-s) (b := (w.length : Int)) (by omega)
  have key : ∀ (k j : Nat), ((j : Int) = k + (-s) % (w.length : Int) ∨ (j : Int) = k + (-s) % (w.length : Int) - w.length) → cyc w j = cyc w ((k : Int) - s) := by
    intro k j hj
    have e1 : cyc w ((k : Int) + (-s) % (w.length : Int)) = cyc w ((k : Int) - s) := by
      rw [← cyc_mod w ((k : Int) + (-s) % _), Int.add_emod_emod, cyc_mod, Int.sub_eq_add_neg]
    rcases hj with hj | hj
    · rw [hj, e1]
    · rw [hj, ← e1, ← cyc_add w ((k : Int) + _ - _)]
      congr 1
      omega
  apply List.ext_getElem?
  intro i
  by_cases hi : i < w.length
  · rw [rot_get hi]
    by_cases h2 : i < w.length - ((-s) % (w.length : Int)).toNat
    · rw [List.getElem?_append_left (by rw [List.length_drop]; exact h2), List.getElem?_drop, cyc_nat (by omega)]
      congr 1
      exact key i _ (.inl (by omega))
    · rw [List.getElem?_append_right (by rw [List.length_drop]; omega), List.length_drop, List.getElem?_take, if_pos (by omega), cyc_nat (by omega)]
      congr 1
      exact key i _ (.inr (by omega))
  · rw [List.getElem?_eq_none (by rw [List.length_append, List.length_drop, List.length_take]; omega), List.getElem?_eq_none (by rw [rot_len]; omega)]
/-- s notes at the end of the lead are the round's -/
def Tail (xs w : List Int) (s : Nat) : Prop := s ≤ xs.length ∧ ∀ j : Nat, j < s → xs[xs.length - 1 - j]? = some (cyc w (-1 - (j : Int)))
structure IsSpare (xs w : List Int) (s : Nat) : Prop where
  tail : Tail xs w s
  max : s < xs.length → xs[xs.length - 1 - s]? ≠ some (cyc w (-1 - (s : Int)))
theorem IsSpare.det {xs w : List Int} {s r : Nat} (a : IsSpare xs w s) (b : IsSpare xs w r) : s = r := by
  rcases Nat.lt_trichotomy s r with h | h | h
  · exact absurd (b.tail.2 s h) (a.max (Nat.lt_of_lt_of_le h b.tail.1))
  · exact h
  · exact absurd (a.tail.2 r h) (b.max (Nat.lt_of_lt_of_le h a.tail.1))
/-- the least row -/
def LR (xs ts c d : List Int) : Prop := (ts = [] ∧ c = xs ∧ d = []) ∨ (ts ≠ [] ∧ ∃ p s, IsPer ts p ∧ IsSpare xs (ts.take p) s ∧ c = xs.take (xs.length - s) ∧ d = rot (ts.take p) s)
theorem LR.det {xs ts c d c' d' : List Int} (a : LR xs ts c d) (b : LR xs ts c' d') : c = c' ∧ d = d' := by
  rcases a with ⟨e, rfl, rfl⟩ | ⟨e, p, s, h1, h2, rfl, rfl⟩ <;> rcases b with ⟨e', rfl, rfl⟩ | ⟨e', p', s', h1', h2', rfl, rfl⟩
  · exact ⟨rfl, rfl⟩
  · exact absurd e e'
  · exact absurd e' e
  · have ep := h1.det h1'
    subst ep
    have es := h2.det h2'
    subst es
    exact ⟨rfl, rfl⟩
theorem LR.idem {xs ts c d : List Int} (a : LR xs ts c d) : LR c d c d := by
  rcases a with ⟨e, rfl, rfl⟩ | ⟨e, p, s, h1, h2, rfl, rfl⟩
  · exact .inl ⟨rfl, rfl, rfl⟩
  · have hp := h1.pos
    have hle := h1.le
    have hw : (ts.take p).length = p := by rw [List.length_take]; omega
    have hr : (rot (ts.take p) s).length = p := by rw [rot_len, hw]
    have hne : rot (ts.take p) s ≠ [] := fun z => by
      rw [z] at hr
      simp at hr
      omega
    have ht : (rot (ts.take p) s).take p = rot (ts.take p) s := List.take_of_length_le (by omega)
    refine .inr ⟨hne, p, 0, ⟨hp, by omega, ⟨by rw [hr, Nat.mod_self], ?_⟩, fun q q1 q2 q3 => ?_⟩, ⟨⟨Nat.zero_le _, fun j hj => by omega⟩, fun hs => ?_⟩, ?_, ?_⟩
    · rw [hr, Nat.div_self (by omega), ht]
      simp
    · have hq : q ≤ p := by omega
      have dq : p % q = 0 := by
        have := q3.1
        rw [hr] at this
        exact this
      refine h1.min q q1 (by omega) (cyc_isP q1 (by omega) ?_ fun z => ?_)
      · have := h1.is.1
        exact Nat.mod_eq_zero_of_dvd (Nat.dvd_trans (Nat.dvd_of_mod_eq_zero dq) (Nat.dvd_of_mod_eq_zero this))
      · have f1 : ∀ y : Int, cyc (rot (ts.take p) s) (y + q) = cyc (rot (ts.take p) s) y := fun y => by
          rw [← isP_cyc q1 q2 q3, ← isP_cyc q1 q2 q3 y]
          have := cyc_add ((rot (ts.take p) s).take q) y
          rw [List.length_take, hr, Nat.min_eq_left hq] at this
          exact this
        have f2 := f1 (z + s)
        rw [cyc_rot (by omega), cyc_rot (by omega), isP_cyc hp hle h1.is, isP_cyc hp hle h1.is] at f2
        rw [show z + (s : Int) + q - s = z + q by omega, show z + (s : Int) - s = z by omega] at f2
        exact f2
    · rw [List.length_take] at hs ⊢
      have hs' : s < xs.length := by omega
      have hm := h2.max hs'
      rw [ht, cyc_rot (by omega), List.getElem?_take, if_pos (by omega)]
      rw [show min (xs.length - s) xs.length - 1 - 0 = xs.length - 1 - s by omega]
      exact hm
    · rw [Nat.sub_zero, List.take_of_length_le (Nat.le_refl _)]
    · rw [ht]
      exact (rot_zero _).symm
/-- the note at a depth -/
def seenO (xs ts : List Int) (d : Nat) : Option Int := if d < xs.length then xs[d]? else if ts = [] then none else some (cyc ts ((d : Int) - xs.length))
theorem seen_tail {xs ts : List Int} {p s : Nat} (h : IsPer ts p) (t : Tail xs (ts.take p) s) (k : Nat) : seenO xs ts (xs.length - s + k) = some (cyc (ts.take p) ((k : Int) - s)) := by
  have hp := h.pos
  have hle := h.le
  have h1 := t.1
  unfold seenO
  by_cases hd : xs.length - s + k < xs.length
  · rw [if_pos hd]
    have := t.2 (s - k - 1) (by omega)
    rw [show xs.length - 1 - (s - k - 1) = xs.length - s + k by omega] at this
    rw [this]
    congr 2
    omega
  · rw [if_neg hd, if_neg (fun e => by rw [e] at hle; simp at hle; omega), isP_cyc hp hle h.is]
    congr 2
    omega
/-! ### repeats -/
instance isPdec (t : List Int) (q : Nat) : Decidable (isP t q) := inferInstanceAs (Decidable (_ ∧ _))
theorem scReps : FnScope ["turn", "size"] ["turn", "size"] (defScope sReps) := ⟨rfl, rfl, rfl, by decide +kernel, rfl, by decide +kernel, by decide +kernel⟩
def spReps (K : PySem.W.Frag) : Sp := fun vs H Q _ => ∃ (t : Addr) (ts : List Int) (q : Nat), vs = [.ref t, .int (q : Nat)] ∧ SqT K H t (ts.map V.int) ∧ 1 ≤ q ∧ q ≤ ts.length ∧ ts.length ≤ 1000 ∧ ∀ H', Same H H' → Q (.bl (decide (isP ts q))) H'
section
variable {P : Program} {w : World} {K : PySem.W.Frag} {mg : Str → Option Value} {base : Heap}
theorem ok_reps {f : Addr} {fd : FuncData} {k : Nat} (F : Fun K "repeats" "repeats" sReps f fd) (ml : mg "len" = none) : FnOk P w K mg base CX0 (k + 1) f fd ["turn", "size"] (spReps K) := by
  refine F.ok scReps (fun vs H Q E h => ?_) (fun cdv A outer s H vs Q E hr h => ?_)
  · obtain ⟨t, ts, q, rfl, _⟩ := h
    rfl
  · obtain ⟨t, ts, m, rfl, hT, h1, h2, h3, q⟩ := h
    refine ⟨_, pss_one (ps_ret (pe_and (pe_cmpR op_eq (pe_op op_mod (pe_callB call_lenQ (by rfl) ml PySem.boot_len (pa_cons (pv 0) pa_nil)) (pv 1)) pe_int (nomark _))
      (pe_one (pe_cmpR (op_eqD hr.units) (pe_op op_repS (pe_slice sl_tupS (pv 0) po_none (po_some (pv 1))) (pe_op op_fdivW (pe_callB call_lenQ (by rfl) ml PySem.boot_len (pa_cons (pv 0) pa_nil)) (pv 1))) (pv 0) (nomark _))))), ?_⟩
    refine ⟨.ref t, rfl, t, _, rfl, .inr hT, .int m, rfl, _, _, rfl, rfl, by omega, rfl, _, rfl, ite2 (fun e => ?_) (fun e => ?_)⟩
    · have e1 : (((ts.map V.int).length : Nat) : Int) % (m : Int) = 0 := V.int.inj (of_decide_eq_true e)
      rw [List.length_map] at e1
      have e2 : ts.length % m = 0 := by omega
      have hk : 1 ≤ ts.length / m := (Nat.le_div_iff_mul_le (by omega)).mpr (by omega)
      have hk2 : ts.length / m ≤ ts.length := Nat.div_le_self _ _
      refine ⟨.ref t, rfl, .int m, rfl, m, rfl, t, _, rfl, hT, fun p H1 s1 hp => ?_⟩
      rw [cutV_to, ← List.map_take] at hp
      refine ⟨.ref t, rfl, t, _, rfl, .inr (Same.tup s1 hT), .int m, rfl, _, _, rfl, rfl, wide_div (b := 200) (by omega) ?_ (by decide) (by decide), ?_⟩
      · rw [Int.natAbs_natCast]
        exact Nat.lt_of_le_of_lt (show m ≤ 1000 by omega) (by decide)
      have ek : (((ts.map V.int).length : Nat) : Int) / (m : Int) = ((ts.length / m : Nat) : Int) := by
        rw [List.length_map]
        exact (Int.natCast_ediv _ _).symm
      refine ⟨p, (((ts.map V.int).length : Nat) : Int) / (m : Int), _, rfl, rfl, hp, ?_, by rw [ek]; omega, by rw [ek]; omega, ?_, fun p2 H2 s2 hp2 => ?_⟩
      · intro z
        have := congrArg List.length z
        rw [List.length_map, List.length_take, List.length_nil] at this
        omega
      · rw [List.length_map, List.length_take]
        omega
      · rw [ek, Int.toNat_natCast, flat_map] at hp2
        refine ⟨.ref t, rfl, _, _, dpT hp2, dpT (Same.tup s2 (Same.tup s1 hT)), shT _, shT _, ?_⟩
        have ed : decide ((List.replicate (ts.length / m) (ts.take m)).flatten = ts) = decide (isP ts m) := decide_eq_decide.mpr ⟨fun z => ⟨e2, z⟩, fun z => z.2⟩
        rw [eqvT, ed]
        exact q _ (s1.trans s2)
    · have e2 : ¬ isP ts m := fun z => e (by
        rw [decide_eq_true_eq]
        have := z.1
        rw [List.length_map]
        show V.int ((ts.length : Int) % (m : Int)) = V.int 0
        rw [show (ts.length : Int) % (m : Int) = ((ts.length % m : Nat) : Int) from (Int.natCast_emod _ _).symm, this]
        rfl)
      have := q H (Same.refl H)
      rw [decide_eq_false e2] at this
      exact this
end
/-! ### shortest_round -/
theorem scShort : FnScope ["turn", "sizes", "size"] ["turn"] (defScope sShort) := ⟨rfl, rfl, rfl, by decide +kernel, rfl, by decide +kernel, by decide +kernel⟩
def spShort (K : PySem.W.Frag) : Sp := fun vs H Q _ => ∃ (t : Addr) (ts : List Int), vs = [.ref t] ∧ SqT K H t (ts.map V.int) ∧ ts ≠ [] ∧ ts.length ≤ 1000 ∧ ∀ H' p m, Same H H' → IsPer ts m → SqT K H' p ((ts.take m).map V.int) → Q (.ref p) H'
/-- 1 .. i, such as are good -/
def good (c : Nat → Bool) (i : Nat) : List Nat := ((List.range i).map (· + 1)).filter c
theorem good_succ (c : Nat → Bool) (i : Nat) : good c (i + 1) = good c i ++ (if c (i + 1) = true then [i + 1] else []) := by
  unfold good
  rw [List.range_succ, List.map_append, List.filter_append]
  congr 1
  simp only [List.map_cons, List.map_nil, List.filter_cons, List.filter_nil]
theorem good_len (c : Nat → Bool) (i : Nat) : (good c i).length ≤ i := by
  have h := List.length_filter_le c ((List.range i).map (· + 1))
  rw [List.length_map, List.length_range] at h
  exact h
theorem good_mem {c : Nat → Bool} {i q : Nat} : q ∈ good c i ↔ 1 ≤ q ∧ q ≤ i ∧ c q = true := by
  unfold good
  rw [List.mem_filter, List.mem_map]
  constructor
  · rintro ⟨⟨a, h, rfl⟩, h2⟩
    rw [List.mem_range] at h
    exact ⟨by omega, by omega, h2⟩
  · rintro ⟨h1, h2, h3⟩
    exact ⟨⟨q - 1, by rw [List.mem_range]; omega, by omega⟩, h3⟩
theorem isP_self {t : List Int} (h : t ≠ []) : isP t t.length := by
  have : 0 < t.length := List.length_pos_iff.mpr h
  refine ⟨Nat.mod_self _, ?_⟩
  rw [Nat.div_self this, List.take_length]
  simp
section
variable {P : Program} {w : World} {K : PySem.W.Frag} {mg : Str → Option Value} {base : Heap}
theorem ok_short {f fR : Addr} {fd fdR : FuncData} {k : Nat} (F : Fun K "shortest_round" "shortest_round" sShort f fd) (ml : mg "len" = none) (mr : mg "range" = none) (mm : mg "min" = none)
    (FR : Fun K "repeats" "repeats" sReps fR fdR) (bR : Binds K fdR ["turn", "size"] []) (gR : mg "repeats" = some (.ref fR)) : FnOk P w K mg base CX0 (k + 2) f fd ["turn"] (spShort K) := by
  have GR : FnOk P w K mg base CX0 (k + 1) fR fdR ["turn", "size"] (spReps K) := ok_reps FR ml
  refine F.ok scShort (fun vs H Q E h => ?_) (fun cdv A outer s H vs Q E hr h => ?_)
  · obtain ⟨t, ts, rfl, _⟩ := h
    rfl
  · obtain ⟨t, ts, rfl, hT, hne, h3, q⟩ := h
    refine ⟨_, pss_cons (ps_setLc (i := 1) (own := [("size", 2)]) (g := gName 2) rfl scShort.nd rfl rfl (sw_true rfl rfl rfl (by decide +kernel)) (pi_range2 (by rfl) mr (pa_cons pe_int (pa_cons (pe_op op_add (pe_callB call_lenQ (by rfl) ml PySem.boot_len (pa_cons (pv 0) pa_nil)) pe_int) pa_nil)))
        (blkOk_by (own := [("size", 2)]) (N := ["turn", "sizes", "size"]) (sc := defScope sShort) (by decide +kernel)) (fun _ _ _ _ _ => pg_name (i := 2) scShort.nd rfl (Or.inl rfl))
        (fun _ _ _ _ _ => pts_one (pt_val (pe_call GR hr (by rfl) gR FR.kp bR .nil pass0 (pa_cons (pv 0) (pa_cons (pv 2) pa_nil)))))
        (fun _ _ _ _ _ => pv 2))
      (pss_one (ps_ret (pe_slice sl_tupS (pv 0) po_none (po_some (pe_callB (cr_min rfl) (by rfl) mm (by decide +kernel) (pa_cons (pv 1) pa_nil)))))), ?_⟩
    have hlen : 0 < ts.length := List.length_pos_iff.mpr hne
    refine ⟨.ref t, rfl, t, _, rfl, .inr hT, _, _, rfl, rfl, 1, _, rfl, ⟨by decide, by decide, by omega, by rw [List.length_map]; omega⟩, fun D nD => ?_⟩
    have en : ((((ts.map V.int).length : Nat) : Int) + 1 - 1).toNat = ts.length := by rw [List.length_map]; omega
    rw [en]
    refine lc_range (lo := 1) (n := ts.length) (fun i H' => Same H H' ∧ H' D = some (.lst ((nI (good (fun q => decide (isP ts q)) i)).map V.int))) ⟨same_upd nD, upd_same⟩ (fun i H' hi hP => ?_) (fun H' hP => ?_)
    · obtain ⟨sm, hD⟩ := hP
      have e1 : (1 : Int) + (i : Int) = ((i + 1 : Nat) : Int) := by omega
      refine ⟨rfl, ?_⟩
      rw [e1]
      refine ⟨.ref t, rfl, _, rfl, t, ts, i + 1, rfl, Same.tup sm hT, by omega, by omega, h3, fun H2 s2 => ⟨_, rfl, ite2 (fun e => ?_) (fun e => ?_)⟩⟩
      · refine ⟨_, rfl, _, s2 _ _ hD, ?_, Same.offUpd (sm.trans s2) nD, ?_⟩
        · have := good_len (fun q => decide (isP ts q)) i
          unfold nI
          rw [List.length_map, List.length_map]
          exact small1000 (by omega)
        · rw [upd_same, good_succ, if_pos e]
          unfold nI
          rw [List.map_append, List.map_append]
          rfl
      · refine ⟨sm.trans s2, ?_⟩
        rw [good_succ, if_neg e, List.append_nil]
        exact s2 _ _ hD
    · obtain ⟨sm, hD⟩ := hP
      refine ⟨.ref t, rfl, .ref D, rfl, D, _, rfl, .inl (.inl hD), ?_, fun m hm hle => ?_⟩
      · have : ts.length ∈ good (fun q => decide (isP ts q)) ts.length := good_mem.mpr ⟨hlen, Nat.le_refl _, decide_eq_true (isP_self hne)⟩
        unfold nI
        rw [List.length_map]
        exact List.length_pos_of_mem this
      · obtain ⟨n, hn, rfl⟩ := List.mem_map.mp hm
        obtain ⟨n1, n2, n3⟩ := good_mem.mp hn
        have hper : IsPer ts n := ⟨n1, n2, of_decide_eq_true n3, fun q q1 q2 q3 => by
          have := hle (q : Int) (List.mem_map.mpr ⟨q, good_mem.mpr ⟨q1, q2, decide_eq_true q3⟩, rfl⟩)
          omega⟩
        refine ⟨(n : Int), rfl, t, _, rfl, Same.tup sm hT, fun p H2 s2 hp => ?_⟩
        rw [cutV_to, ← List.map_take] at hp
        exact q _ _ n (sm.trans s2) hper hp
end
/-! ### spare_notes -/
theorem scSpare : FnScope ["lead", "turn", "spare"] ["lead", "turn"] (defScope sSpare) := ⟨rfl, rfl, rfl, by decide +kernel, rfl, by decide +kernel, by decide +kernel⟩
def spSpare (K : PySem.W.Frag) : Sp := fun vs H Q _ => ∃ (l t : Addr) (xs us : List Int), vs = [.ref l, .ref t] ∧ (SqL K H l (xs.map V.int) ∨ SqT K H l (xs.map V.int)) ∧ SqT K H t (us.map V.int) ∧ us ≠ [] ∧ ∀ n, IsSpare xs us n → Q (.int (n : Nat)) H
theorem atI_neg {α : Type} {xs : List α} {j : Nat} {v : α} (h : j < xs.length) (e : xs[xs.length - 1 - j]? = some v) : atI xs (-1 - (j : Int)) = some v := by
  unfold atI ixN
  rw [if_neg (by omega), if_pos (by omega)]
  show xs[(-1 - (j : Int) + (xs.length : Int)).toNat]? = some v
  rw [show (-1 - (j : Int) + (xs.length : Int)).toNat = xs.length - 1 - j by omega]
  exact e
section
variable {P : Program} {w : World} {K : PySem.W.Frag} {mg : Str → Option Value} {base : Heap}
theorem ok_spare {f : Addr} {fd : FuncData} {k : Nat} (F : Fun K "spare_notes" "spare_notes" sSpare f fd) (ml : mg "len" = none) : FnOk P w K mg base CX0 (k + 1) f fd ["lead", "turn"] (spSpare K) := by
  refine F.ok scSpare (fun vs H Q E h => ?_) (fun cdv A outer s H vs Q E hr h => ?_)
  · obtain ⟨l, t, xs, us, rfl, _⟩ := h
    rfl
  · obtain ⟨l, t, xs, us, rfl, hL, hT, hne, q⟩ := h
    refine ⟨_, pss_cons (ps_set (i := 2) scSpare.nd rfl (.inl rfl) pe_int)
      (pss_cons (ps_while PassesOwn.never (PW.pt (pw_and (pt_cmpR op_lt (pv 2) (pe_callB call_lenQ (by rfl) ml PySem.boot_len (pa_cons (pv 0) pa_nil)) (nomark _))
          (pw_and1 (pt_cmpR op_eq (pe_ix ix_seq (pv 0) (pe_op op_sub (pe_un un_neg pe_int) (pv 2)) (fun _ _ => rfl)) (pe_ix ix_tup (pv 1) (pe_op op_mod (pe_op op_sub (pe_un un_neg pe_int) (pv 2)) (pe_callB call_lenQ (by rfl) ml PySem.boot_len (pa_cons (pv 1) pa_nil))) (fun _ _ => rfl)) (nomark _)))))
        (pss_one (ps_aug (i := 2) scSpare.nd rfl (.inl rfl) pe_int ip_add)))
      (pss_one (ps_ret (pv 2)))), ?_⟩
    have hlu : 0 < us.length := List.length_pos_iff.mpr hne
    refine ⟨fun m σ H' => ∃ n : Nat, σ = [some (.ref l), some (.ref t), some (.int (n : Nat))] ∧ H = H' ∧ Tail xs us n ∧ m = xs.length - n, ⟨xs.length, 0, rfl, rfl, ⟨Nat.zero_le _, fun j hj => by omega⟩, by omega⟩, ?_⟩
    rintro m σ H' ⟨n, rfl, rfl, hTl, rfl⟩
    refine ⟨.int n, rfl, .ref l, rfl, l, _, rfl, hL, _, _, rfl, rfl, _, rfl, ite2 (fun e => ?_) (fun e => ?_)⟩
    · have h1 := of_decide_eq_true e
      rw [List.length_map] at h1
      have hn : n < xs.length := by omega
      have hx : xs.length - 1 - n < xs.length := by omega
      have g1 : (xs.map V.int)[(xs.map V.int).length - 1 - n]? = some (.int xs[xs.length - 1 - n]) := by
        rw [List.length_map, List.getElem?_map, List.getElem?_eq_getElem hx]
        rfl
      have g2 : atI (us.map V.int) ((-1 - (n : Int)) % (((us.map V.int).length : Nat) : Int)) = some (.int (cyc us (-1 - (n : Int)))) := by
        have a1 := cyc_get hlu (-1 - (n : Int))
        have a2 := Int.toNat_of_nonneg (Int.emod_nonneg (-1 - (n : Int)) (b := (us.length : Int)) (by omega))
        rw [List.length_map, ← a2]
        refine atI_nat ?_
        rw [List.getElem?_map, a1]
        rfl
      have g3 := atI_neg (xs := xs.map V.int) (j := n) (by rw [List.length_map]; exact hn) g1
      have hread : ∀ Q : VK, Q (.int xs[xs.length - 1 - n]) H → rIx K (.ref l) (.int (-1 - (n : Int))) H Q := fun Q z => by
        rcases hL with hL | hL
        · exact .inl ⟨l, _, _, _, rfl, rfl, hL, g3, z⟩
        · exact .inr (.inl ⟨l, _, _, _, rfl, rfl, hL, g3, z⟩)
      refine ⟨.ref l, rfl, 1, rfl, .int n, rfl, _, _, rfl, rfl, hread _ ?_⟩
      refine ⟨.ref t, rfl, 1, rfl, .int n, rfl, _, _, rfl, rfl, .ref t, rfl, t, _, rfl, .inr hT, _, _, rfl, rfl, ?_, t, _, _, _, rfl, rfl, hT, g2, rfl, _, rfl, ite2 (fun e2 => ?_) (fun e2 => ?_)⟩
      · show (0 : Int) < (((us.map V.int).length : Nat) : Int)
        rw [List.length_map]
        omega
      · have ev : xs[xs.length - 1 - n] = cyc us (-1 - (n : Int)) := V.int.inj (of_decide_eq_true e2)
        refine ⟨fun σ' H' => σ' = [some (.ref l), some (.ref t), some (.int ((n + 1 : Nat) : Int))] ∧ H = H', ?_, .int n, rfl, _, _, rfl, rfl, rfl, rfl⟩
        rintro σ' H' ⟨rfl, rfl⟩
        refine ⟨xs.length - (n + 1), by omega, n + 1, rfl, rfl, ⟨by omega, fun j hj => ?_⟩, rfl⟩
        by_cases hj2 : j < n
        · exact hTl.2 j hj2
        · obtain rfl : j = n := by omega
          rw [List.getElem?_eq_getElem hx, ev]
      · refine ⟨.int n, rfl, q n ⟨hTl, fun _ z => e2 ?_⟩⟩
        rw [List.getElem?_eq_getElem hx] at z
        rw [Option.some.inj z]
        exact decide_eq_true rfl
    · refine ⟨.int n, rfl, q n ⟨hTl, fun z => absurd ?_ e⟩⟩
      rw [List.length_map]
      exact decide_eq_true (by omega)
end
/-! ### least_row -/
def RowAt (K : PySem.W.Frag) (H : Hp) (p : Addr) (c d : List Int) : Prop := ∃ a b, SqT K H p [.ref a, .ref b] ∧ SqT K H a (c.map V.int) ∧ SqT K H b (d.map V.int)
theorem RowAt.same {K : PySem.W.Frag} {H H' : Hp} {p : Addr} {c d : List Int} (h : RowAt K H p c d) (e : Same H H') : RowAt K H' p c d := by
  obtain ⟨a, b, h1, h2, h3⟩ := h
  exact ⟨a, b, Same.tup e h1, Same.tup e h2, Same.tup e h3⟩
theorem scLR : FnScope ["lead", "turn", "least", "spare", "start"] ["lead", "turn"] (defScope sLR) := ⟨rfl, rfl, rfl, by decide +kernel, rfl, by decide +kernel, by decide +kernel⟩
def spLR (K : PySem.W.Frag) : Sp := fun vs H Q _ => ∃ (l t : Addr) (xs ts : List Int), vs = [.ref l, .ref t] ∧ (SqL K H l (xs.map V.int) ∨ SqT K H l (xs.map V.int)) ∧ (SqL K H t (ts.map V.int) ∨ SqT K H t (ts.map V.int)) ∧ xs.length ≤ 1000 ∧ ts.length ≤ 1000 ∧
  ∀ H' p c d, Same H H' → LR xs ts c d → RowAt K H' p c d → Q (.ref p) H'
section
variable {P : Program} {w : World} {K : PySem.W.Frag} {mg : Str → Option Value} {base : Heap}
theorem ok_LR {f fS fP : Addr} {fd fdS fdP : FuncData} {k : Nat} (F : Fun K "least_row" "least_row" sLR f fd) (ml : mg "len" = none) (mt : mg "tuple" = none)
    (FS : Fun K "shortest_round" "shortest_round" sShort fS fdS) (bS : Binds K fdS ["turn"] []) (gS : mg "shortest_round" = some (.ref fS))
    (FP : Fun K "spare_notes" "spare_notes" sSpare fP fdP) (bP : Binds K fdP ["lead", "turn"] []) (gP : mg "spare_notes" = some (.ref fP))
    (GS : FnOk P w K mg base CX0 (k + 2) fS fdS ["turn"] (spShort K)) : FnOk P w K mg base CX0 (k + 3) f fd ["lead", "turn"] (spLR K) := by
  have GP : FnOk P w K mg base CX0 (k + 2) fP fdP ["lead", "turn"] (spSpare K) := ok_spare FP ml
  refine F.ok scLR (fun vs H Q E h => ?_) (fun cdv A outer s H vs Q E hr h => ?_)
  · obtain ⟨l, t, xs, ts, rfl, _⟩ := h
    rfl
  · obtain ⟨l, t, xs, ts, rfl, hL, hT, h1, h2, q⟩ := h
    refine ⟨_, pss_cons (ps_if (pt_cmpR op_eq (pe_callB call_lenQ (by rfl) ml PySem.boot_len (pa_cons (pv 1) pa_nil)) pe_int (nomark _))
        (pss_one (ps_ret (pe_tup (pa_cons (pe_callTy call_tupS (by rfl) mt (by decide +kernel) (pa_cons (pv 0) pa_nil)) (pa_cons (pe_tup pa_nil) pa_nil))))) pss_nil)
      (pss_cons (ps_set (i := 2) scLR.nd rfl (.inl rfl) (pe_call GS hr (by rfl) gS FS.kp bS .nil pass0 (pa_cons (pe_callTy call_tupS (by rfl) mt (by decide +kernel) (pa_cons (pv 1) pa_nil)) pa_nil)))
      (pss_cons (ps_set (i := 3) scLR.nd rfl (.inl rfl) (pe_call GP hr (by rfl) gP FP.kp bP .nil pass0 (pa_cons (pv 0) (pa_cons (pv 2) pa_nil))))
      (pss_cons (ps_set (i := 4) scLR.nd rfl (.inl rfl) (pe_op op_mod (pe_un un_neg (pv 3)) (pe_callB call_lenQ (by rfl) ml PySem.boot_len (pa_cons (pv 2) pa_nil))))
      (pss_one (ps_ret (pe_tup (pa_cons (pe_callTy call_tupS (by rfl) mt (by decide +kernel) (pa_cons (pe_slice sl_seqS (pv 0) po_none (po_some (pe_op op_sub (pe_callB call_lenQ (by rfl) ml PySem.boot_len (pa_cons (pv 0) pa_nil)) (pv 3)))) pa_nil))
        (pa_cons (pe_op op_catS (pe_slice sl_tupS (pv 2) (po_some (pv 4)) po_none) (pe_slice sl_tupS (pv 2) po_none (po_some (pv 4)))) pa_nil)))))))), ?_⟩
    refine ⟨.ref t, rfl, t, _, rfl, hT, rfl, _, rfl, ite2 (fun e => ?_) (fun e => ?_)⟩
    · have e1 : (((ts.map V.int).length : Nat) : Int) = 0 := V.int.inj (of_decide_eq_true e)
      rw [List.length_map] at e1
      have e2 : ts = [] := List.eq_nil_of_length_eq_zero (by omega)
      subst e2
      refine ⟨.ref l, rfl, l, _, rfl, hL, fun a H1 s1 ha => ?_⟩
      refine ⟨Nat.zero_le _, fun b nb => ?_⟩
      refine ⟨(show (2 : Nat) ≤ sizeLine by decide), fun p np => ?_⟩
      have s2 := same_upd (o := .tup []) nb
      have s3 := same_upd (o := .tup [.ref a, .ref b]) np
      exact q _ p xs [] ((s1.trans s2).trans s3) (.inl ⟨rfl, rfl, rfl⟩) ⟨a, b, SqT.of upd_same, Same.tup (s2.trans s3) ha, Same.tup s3 (SqT.of upd_same)⟩
    · have hne : ts ≠ [] := fun z => e (by rw [z]; rfl)
      refine ⟨.ref t, rfl, t, _, rfl, hT, fun t2 H1 s1 ht2 => ?_⟩
      refine ⟨t2, ts, rfl, ht2, hne, h2, fun H2 p2 m s2 hper hp2 => ?_⟩
      have hp := hper.pos
      have hle := hper.le
      have hw : (ts.take m).length = m := by rw [List.length_take]; omega
      have hwne : ts.take m ≠ [] := fun z => by rw [z] at hw; simp at hw; omega
      refine ⟨.ref l, rfl, .ref p2, rfl, l, p2, xs, ts.take m, rfl, same_any (s1.trans s2) hL, hp2, hwne, fun n hsp => ?_⟩
      have hn := hsp.tail.1
      refine ⟨.int n, rfl, _, rfl, .ref p2, rfl, p2, _, rfl, .inr hp2, _, _, rfl, rfl, ?_, ?_⟩
      · show (0 : Int) < ((((ts.take m).map V.int).length : Nat) : Int)
        rw [List.length_map]
        omega
      obtain ⟨st, est⟩ : ∃ st : Nat, (-(n : Int)) % ((((ts.take m).map V.int).length : Nat) : Int) = (st : Int) ∧ st = ((-(n : Int)) % ((ts.take m).length : Int)).toNat := ⟨_, by rw [List.length_map]; exact (Int.toNat_of_nonneg (Int.emod_nonneg _ (by omega))).symm, rfl⟩
      have el : (((xs.map V.int).length : Nat) : Int) - (n : Int) = ((xs.length - n : Nat) : Int) := by rw [List.length_map]; omega
      refine ⟨.ref l, rfl, .ref l, rfl, l, _, rfl, same_any (s1.trans s2) hL, .int n, rfl, _, _, rfl, rfl, _, rfl, l, _, rfl, same_any (s1.trans s2) hL, fun c1 H3 s3 hc1 => ?_⟩
      rw [el, cutV_to, ← List.map_take] at hc1
      refine ⟨c1, _, rfl, hc1, fun c2 H4 s4 hc2 => ?_⟩
      refine ⟨.ref p2, rfl, _, rfl, _, rfl, p2, _, rfl, Same.tup (s3.trans s4) hp2, fun d1 H5 s5 hd1 => ?_⟩
      refine ⟨.ref p2, rfl, _, rfl, _, rfl, p2, _, rfl, Same.tup ((s3.trans s4).trans s5) hp2, fun d2 H6 s6 hd2 => ?_⟩
      rw [est.1, cutV_from, ← List.map_drop] at hd1
      rw [est.1, cutV_to, ← List.map_take] at hd2
      refine ⟨d1, d2, _, _, rfl, rfl, Same.tup s6 hd1, hd2, ?_, fun d3 H7 s7 hd3 => ?_⟩
      · simp only [List.length_map, List.length_drop, List.length_take]
        exact Nat.le_of_lt (small1000 (by omega))
      · rw [← List.map_append, est.2, rot_cut (by omega)] at hd3
        refine ⟨(show (2 : Nat) ≤ sizeLine by decide), fun p np => ?_⟩
        have s8 := same_upd (o := .tup [.ref c2, .ref d3]) np
        exact q _ p _ _ (((((((s1.trans s2).trans s3).trans s4).trans s5).trans s6).trans s7).trans s8) (.inr ⟨hne, m, n, hper, hsp, rfl, rfl⟩) ⟨c2, d3, SqT.of upd_same, Same.tup (((s5.trans s6).trans s7).trans s8) hc2, Same.tup s8 hd3⟩
end
/-! ### _law_seen -/
def seenV (xs ts : List Int) (z : Int) : V := if 0 ≤ z ∧ z < (xs.length : Int) then .int (xs.getD z.toNat 0) else if z < 0 ∨ ts = [] then .non else .int (cyc ts (z - xs.length))
theorem seenV_of {xs ts : List Int} {d : Nat} {v : Int} (h : seenO xs ts d = some v) : seenV xs ts (d : Int) = .int v := by
  unfold seenO at h
  unfold seenV
  by_cases hd : d < xs.length
  · rw [if_pos hd] at h
    rw [if_pos ⟨by omega, by omega⟩, Int.toNat_natCast, List.getD_eq_getElem?_getD, h]
    rfl
  · rw [if_neg hd] at h
    by_cases ht : ts = []
    · rw [if_pos ht] at h
      cases h
    · rw [if_neg ht] at h
      rw [if_neg (by omega), if_neg (by intro z; rcases z with z | z; exact absurd z (by omega); exact ht z), Option.some.inj h]
/-! ### rows that tell the same notes have the same least row -/
theorem cyc_mul (t : List Int) (z m : Int) : cyc t (z + m * t.length) = cyc t z := by
  rw [← cyc_mod, Int.add_mul_emod_self_right, cyc_mod]
theorem per_mul {t : List Int} {q : Nat} (h : ∀ z : Int, cyc t (z + q) = cyc t z) (k : Nat) (z : Int) : cyc t (z + (k * q : Nat)) = cyc t z := by
  induction k with
  | zero => simp
  | succ k ih =>
    rw [show z + ((k + 1) * q : Nat) = (z + (k * q : Nat)) + (q : Int) by rw [Nat.succ_mul]; omega, h, ih]
theorem per_min {t : List Int} {p : Nat} (hp : IsPer t p) : ∀ q : Nat, 1 ≤ q → (∀ z : Int, cyc t (z + q) = cyc t z) → p ≤ q := by
  intro q
  induction q using Nat.strongRecOn with
  | _ q ih =>
    intro h1 h
    by_cases hq : t.length < q
    · exact Nat.le_trans hp.le (Nat.le_of_lt hq)
    by_cases hm : t.length % q = 0
    · exact hp.min q h1 (by omega) (cyc_isP h1 (by omega) hm h)
    · have hr := Nat.mod_lt t.length (show 0 < q by omega)
      refine Nat.le_trans (ih (t.length % q) hr (by omega) fun z => ?_) (Nat.le_of_lt hr)
      have e := Nat.div_add_mod t.length q
      have a := per_mul h (t.length / q) (z + (t.length % q : Nat))
      rw [← a, show z + ((t.length % q : Nat) : Int) + ((t.length / q * q : Nat) : Int) = z + (t.length : Int) by rw [Nat.mul_comm (t.length / q) q]; omega, cyc_add]
theorem per_far {t : List Int} {q M l : Nat} (ht : 0 < t.length) (h : ∀ n : Nat, M ≤ n → cyc t ((n : Int) - l + q) = cyc t ((n : Int) - l)) (z : Int) : cyc t (z + q) = cyc t z := by
  have hb : (0 : Int) ≤ (z.natAbs + M + l : Nat) * ((t.length : Int) - 1) := Int.mul_nonneg (by omega) (by omega)
  have hc : ((z.natAbs + M + l : Nat) : Int) * (t.length : Int) = (z.natAbs + M + l : Nat) * ((t.length : Int) - 1) + (z.natAbs + M + l : Nat) := by rw [Int.mul_sub]; omega
  obtain ⟨n, hn⟩ := Int.eq_ofNat_of_zero_le (show (0 : Int) ≤ z + ((z.natAbs + M + l : Nat) : Int) * (t.length : Int) + l by omega)
  have a := h n (by omega)
  rw [show (n : Int) - l = z + ((z.natAbs + M + l : Nat) : Int) * (t.length : Int) by omega, show z + ((z.natAbs + M + l : Nat) : Int) * (t.length : Int) + (q : Int) = (z + q) + ((z.natAbs + M + l : Nat) : Int) * (t.length : Int) by omega, cyc_mul, cyc_mul] at a
  exact a
theorem seen_far {xs ts : List Int} (h : ts ≠ []) {n : Nat} (hn : xs.length ≤ n) : seenO xs ts n = some (cyc ts ((n : Int) - xs.length)) := by
  unfold seenO
  rw [if_neg (by omega), if_neg h]
theorem seen_some {xs ts : List Int} (h : ts ≠ []) (n : Nat) : seenO xs ts n ≠ none := by
  unfold seenO
  by_cases hn : n < xs.length
  · rw [if_pos hn, List.getElem?_eq_getElem hn]
    simp
  · rw [if_neg hn, if_neg h]
    simp
theorem seen_nil (xs : List Int) (n : Nat) : seenO xs [] n = xs[n]? := by
  unfold seenO
  by_cases hn : n < xs.length
  · rw [if_pos hn]
  · rw [if_neg hn, if_pos rfl, List.getElem?_eq_none (by omega)]
/-- what the least row is, told by the notes alone -/
theorem LR.told {xs ts c d : List Int} (ht : ts ≠ []) (a : LR xs ts c d) : ∃ p N : Nat, 1 ≤ p ∧ c.length = N ∧ d.length = p ∧ (∀ i, i < N → c[i]? = seenO xs ts i) ∧ (∀ k, k < p → d[k]? = seenO xs ts (N + k)) ∧
    (∀ n, N ≤ n → seenO xs ts (n + p) = seenO xs ts n) ∧ (∀ q M : Nat, 1 ≤ q → (∀ n, M ≤ n → seenO xs ts (n + q) = seenO xs ts n) → p ≤ q) ∧ ∀ M : Nat, (∀ n, M ≤ n → seenO xs ts (n + p) = seenO xs ts n) → N ≤ M := by
  rcases a with ⟨e, _⟩ | ⟨_, p, s, h1, h2, rfl, rfl⟩
  · exact absurd e ht
  have hp := h1.pos
  have hle := h1.le
  have hw : (ts.take p).length = p := by rw [List.length_take]; omega
  have ts' := h2.tail.1
  have far : ∀ k : Nat, seenO xs ts (xs.length - s + k) = some (cyc (ts.take p) ((k : Int) - s)) := seen_tail h1 h2.tail
  refine ⟨p, xs.length - s, hp, by rw [List.length_take]; omega, by rw [rot_len, hw], fun i hi => ?_, fun k hk => ?_, fun n hn => ?_, fun q M q1 h => ?_, fun M h => ?_⟩
  · rw [List.getElem?_take, if_pos hi]
    unfold seenO
    rw [if_pos (by omega)]
  · rw [far, rot_get (by omega)]
  · obtain ⟨k, rfl⟩ : ∃ k, n = xs.length - s + k := ⟨n - (xs.length - s), by omega⟩
    rw [Nat.add_assoc, far, far, show ((k + p : Nat) : Int) - s = ((k : Int) - s) + ((ts.take p).length : Int) by rw [hw]; omega, cyc_add]
  · refine per_min h1 q q1 (per_far (M := M + xs.length) (l := xs.length) (by omega) fun n hn => ?_)
    have z := h n (by omega)
    rw [seen_far ht (by omega), seen_far ht (by omega)] at z
    have z2 := Option.some.inj z
    rw [show ((n + q : Nat) : Int) - xs.length = (n : Int) - xs.length + q by omega] at z2
    exact z2
  · by_cases hM : xs.length - s ≤ M
    · exact hM
    exfalso
    have z := h (xs.length - s - 1) (by omega)
    rw [show xs.length - s - 1 + p = xs.length - s + (p - 1) by omega, far] at z
    refine h2.max (by omega) ?_
    have e1 : seenO xs ts (xs.length - s - 1) = xs[xs.length - 1 - s]? := by
      unfold seenO
      rw [if_pos (by omega), show xs.length - s - 1 = xs.length - 1 - s by omega]
    rw [← e1, ← z]
    congr 1
    rw [show ((p - 1 : Nat) : Int) - s = (-1 - (s : Int)) + ((ts.take p).length : Int) by rw [hw]; omega, cyc_add]
theorem LR.same {xs ts c d xs' ts' c' d' : List Int} (a : LR xs ts c d) (b : LR xs' ts' c' d') (h : ∀ n, seenO xs ts n = seenO xs' ts' n) : c = c' ∧ d = d' := by
  by_cases e : ts = []
  · by_cases e' : ts' = []
    · subst e e'
      rcases a with ⟨_, rfl, rfl⟩ | ⟨z, _⟩
      · rcases b with ⟨_, rfl, rfl⟩ | ⟨z, _⟩
        · refine ⟨List.ext_getElem? fun i => ?_, rfl⟩
          have z := h i
          rw [seen_nil, seen_nil] at z
          exact z
        · exact absurd rfl z
      · exact absurd rfl z
    · exfalso
      subst e
      refine seen_some (xs := xs') e' xs.length ?_
      rw [← h, seen_nil, List.getElem?_eq_none (Nat.le_refl _)]
  · by_cases e' : ts' = []
    · exfalso
      subst e'
      refine seen_some (xs := xs) e xs'.length ?_
      rw [h, seen_nil, List.getElem?_eq_none (Nat.le_refl _)]
    · obtain ⟨p, N, p1, l1, l2, g1, g2, g3, g4, g5⟩ := a.told e
      obtain ⟨p', N', p1', l1', l2', g1', g2', g3', g4', g5'⟩ := b.told e'
      have ep : p = p' := Nat.le_antisymm (g4 p' N' p1' fun n hn => by rw [h, h]; exact g3' n hn) (g4' p N p1 fun n hn => by rw [← h, ← h]; exact g3 n hn)
      subst ep
      have eN : N = N' := Nat.le_antisymm (g5 N' fun n hn => by rw [h, h]; exact g3' n hn) (g5' N fun n hn => by rw [← h, ← h]; exact g3 n hn)
      subst eN
      refine ⟨List.ext_getElem? fun i => ?_, List.ext_getElem? fun i => ?_⟩
      · by_cases hi : i < N
        · rw [g1 i hi, g1' i hi, h]
        · rw [List.getElem?_eq_none (by omega), List.getElem?_eq_none (by omega)]
      · by_cases hi : i < p
        · rw [g2 i hi, g2' i hi, h]
        · rw [List.getElem?_eq_none (by omega), List.getElem?_eq_none (by omega)]
/-- the least row tells the same notes -/
theorem LR.seen {xs ts c d : List Int} (a : LR xs ts c d) (n : Nat) : seenO c d n = seenO xs ts n := by
  rcases a with ⟨rfl, rfl, rfl⟩ | ⟨ht, p, s, h1, h2, rfl, rfl⟩
  · rfl
  have hp := h1.pos
  have hle := h1.le
  have hw : (ts.take p).length = p := by rw [List.length_take]; omega
  have hs := h2.tail.1
  have hd : rot (ts.take p) s ≠ [] := fun z => by
    have := congrArg List.length z
    rw [rot_len, hw] at this
    simp at this
    omega
  by_cases hn : n < xs.length - s
  · unfold seenO
    rw [if_pos (by rw [List.length_take]; omega), if_pos (by omega), List.getElem?_take, if_pos hn]
  · obtain ⟨k, rfl⟩ : ∃ k, n = xs.length - s + k := ⟨n - (xs.length - s), by omega⟩
    rw [seen_tail h1 h2.tail, seen_far hd (by rw [List.length_take]; omega), cyc_rot (by omega)]
    congr 2
    rw [List.length_take]
    omega
/-- behind n notes -/
theorem seen_drop {xs ts : List Int} {n : Nat} (h : n ≤ xs.length) (m : Nat) : seenO (xs.drop n) ts m = seenO xs ts (n + m) := by
  unfold seenO
  by_cases hm : n + m < xs.length
  · rw [if_pos (by rw [List.length_drop]; omega), if_pos hm, List.getElem?_drop]
  · rw [if_neg (by rw [List.length_drop]; omega), if_neg hm]
    by_cases e : ts = []
    · rw [if_pos e, if_pos e]
    · rw [if_neg e, if_neg e]
      congr 2
      rw [List.length_drop]
      omega
theorem rot_ne {ts : List Int} (h : ts ≠ []) (z : Int) : rot ts z ≠ [] := fun e => by
  have := congrArg List.length e
  rw [rot_len] at this
  exact h (List.eq_nil_of_length_eq_zero this)
theorem seen_rot {xs ts : List Int} {n : Nat} (ht : ts ≠ []) (h : xs.length < n) (m : Nat) : seenO [] (rot ts ((xs.length : Int) - n)) m = seenO xs ts (n + m) := by
  rw [seen_far (rot_ne ht _) (Nat.zero_le _), seen_far ht (by omega), cyc_rot (List.length_pos_iff.mpr ht)]
  congr 2
  simp
  omega
/-! ### figures on the heap -/
def All2 {α : Type} (R : V → α → Prop) : List V → List α → Prop
  | [], [] => True
  | v :: vs, a :: as => R v a ∧ All2 R vs as
  | _, _ => False
theorem All2.len {α : Type} {R : V → α → Prop} : ∀ {xs : List V} {as : List α}, All2 R xs as → xs.length = as.length
  | [], [], _ => rfl
  | _ :: _, _ :: _, h => congrArg Nat.succ (All2.len h.2)
  | [], _ :: _, h => h.elim
  | _ :: _, [], h => h.elim
theorem All2.get {α : Type} {R : V → α → Prop} : ∀ {xs : List V} {as : List α} {i : Nat} {x : V}, All2 R xs as → xs[i]? = some x → ∃ a, as[i]? = some a ∧ R x a
  | [], [], i, x, _, e => by simp at e
  | v :: vs, a :: as, 0, x, h, e => ⟨a, rfl, by rw [← Option.some.inj e]; exact h.1⟩
  | v :: vs, a :: as, i + 1, x, h, e => All2.get (xs := vs) (as := as) (i := i) h.2 e
  | [], _ :: _, _, _, h, _ => h.elim
  | _ :: _, [], _, _, h, _ => h.elim
theorem All2.at {α : Type} {R : V → α → Prop} : ∀ {xs : List V} {as : List α} {i : Nat} {a : α}, All2 R xs as → as[i]? = some a → ∃ x, xs[i]? = some x ∧ R x a
  | [], [], i, x, _, e => by simp at e
  | v :: vs, a :: as, 0, x, h, e => ⟨v, rfl, by rw [← Option.some.inj e]; exact h.1⟩
  | v :: vs, a :: as, i + 1, x, h, e => All2.at (xs := vs) (as := as) (i := i) h.2 e
  | [], _ :: _, _, _, h, _ => h.elim
  | _ :: _, [], _, _, h, _ => h.elim
theorem All2.mono {α : Type} {R S : V → α → Prop} (f : ∀ x a, R x a → S x a) : ∀ {xs : List V} {as : List α}, All2 R xs as → All2 S xs as
  | [], [], _ => True.intro
  | _ :: _, _ :: _, h => ⟨f _ _ h.1, All2.mono f h.2⟩
  | [], _ :: _, h => h.elim
  | _ :: _, [], h => h.elim
theorem All2.snoc {α : Type} {R : V → α → Prop} {x : V} {a : α} (r : R x a) : ∀ {xs : List V} {as : List α}, All2 R xs as → All2 R (xs ++ [x]) (as ++ [a])
  | [], [], _ => ⟨r, True.intro⟩
  | _ :: _, _ :: _, h => ⟨h.1, All2.snoc r h.2⟩
  | [], _ :: _, h => h.elim
  | _ :: _, [], h => h.elim
abbrev Tri := Int × Int × Int
def triV (t : Tri) : List V := [.int t.1, .int t.2.1, .int t.2.2]
def TriAt (K : PySem.W.Frag) (H : Hp) (v : V) (t : Tri) : Prop := ∃ a, v = .ref a ∧ SqT K H a (triV t)
def FigT (K : PySem.W.Frag) (H : Hp) (v : V) (f : List Tri) : Prop := ∃ a xs, v = .ref a ∧ SqT K H a xs ∧ All2 (TriAt K H) xs f
/-- tuples stay -/
def TS (K : PySem.W.Frag) (H H' : Hp) : Prop := ∀ a xs, SqT K H a xs → SqT K H' a xs
theorem TS.refl {K : PySem.W.Frag} {H : Hp} : TS K H H := fun _ _ h => h
theorem TS.trans {K : PySem.W.Frag} {H H1 H2 : Hp} (x : TS K H H1) (y : TS K H1 H2) : TS K H H2 := fun a xs h => y a xs (x a xs h)
theorem TS.of {K : PySem.W.Frag} {H H' : Hp} (e : Same H H') : TS K H H' := fun a xs h => Same.tup e h
theorem TS.but {K : PySem.W.Frag} {H H' : Hp} {b : Addr} {ys : List V} (e : Off b H H') (hb : H b = some (.lst ys)) : TS K H H' := fun a xs h => by
  rcases h with (h | ⟨o, h⟩) | h
  · exact .inl (.inl (e _ _ (fun z => by rw [z, hb] at h; cases h) h))
  · exact .inl (.inr ⟨o, e _ _ (fun z => by rw [z, hb] at h; cases h) h⟩)
  · exact .inr h
theorem TS.bag {K : PySem.W.Frag} {H H' : Hp} {b c : Addr} (e : Off b H H') (h : Bag H b c) : TS K H H' := by
  obtain ⟨cells, a, r, s, h1, _⟩ := h.ex
  exact TS.but e h1
theorem TS.upd {K : PySem.W.Frag} {H : Hp} {D : Addr} {ys : List V} {o : HO} (hD : H D = some (.lst ys)) : TS K H (upd H D o) := TS.but Off.upd hD
theorem TriAt.ts {K : PySem.W.Frag} {H H' : Hp} (e : TS K H H') {v : V} {t : Tri} (h : TriAt K H v t) : TriAt K H' v t := by
  obtain ⟨a, h1, h2⟩ := h
  exact ⟨a, h1, e _ _ h2⟩
theorem FigT.ts {K : PySem.W.Frag} {H H' : Hp} (e : TS K H H') {v : V} {f : List Tri} (h : FigT K H v f) : FigT K H' v f := by
  obtain ⟨a, xs, h1, h2, h3⟩ := h
  exact ⟨a, xs, h1, e _ _ h2, h3.mono fun _ _ => TriAt.ts e⟩
theorem Off.new {b D : Addr} {H H' : Hp} {o : HO} (e : Off b H H') (n : H D = none) : Off b H (L2.upd H' D o) := fun a x h q => by
  rw [upd_ne (ne_of_none q n)]
  exact e a x h q
/-- what a book asks of a figure -/
structure GoodT (cs : List Int) (t : Tri) : Prop where
  p0 : 0 ≤ t.1
  p1 : t.1 < cs.length
  n0 : 0 ≤ t.2.1
  n1 : t.2.1 < cs.getD t.1.toNat 0
  d0 : 1 ≤ t.2.2
  d1 : t.2.2 ≤ 3
structure GoodF (cs : List Int) (f : List Tri) : Prop where
  ne : f ≠ []
  all : ∀ t ∈ f, GoodT cs t
  up : (f.map (·.1)).Pairwise (· < ·)
theorem rise_len : ∀ {l : List Int} {lo hi : Int}, l.Pairwise (· < ·) → (∀ x ∈ l, lo ≤ x ∧ x < hi) → lo ≤ hi → (l.length : Int) ≤ hi - lo
  | [], lo, hi, _, _, h => by
    show (0 : Int) ≤ _
    omega
  | x :: l, lo, hi, p, a, h => by
    have hx := a x List.mem_cons_self
    have p2 := List.pairwise_cons.mp p
    have := rise_len (l := l) (lo := x + 1) (hi := hi) p2.2 (fun y hy => ⟨by have := p2.1 y hy; omega, (a y (List.mem_cons_of_mem _ hy)).2⟩) (by omega)
    rw [List.length_cons]
    omega
theorem GoodF.len {cs : List Int} {f : List Tri} (h : GoodF cs f) : f.length ≤ cs.length := by
  have := rise_len (lo := 0) (hi := cs.length) h.up (fun x hx => by
    obtain ⟨t, ht, rfl⟩ := List.mem_map.mp hx
    exact ⟨(h.all t ht).p0, (h.all t ht).p1⟩) (by omega)
  rw [List.length_map] at this
  omega
theorem tri_data {K : PySem.W.Frag} {H : Hp} : ∀ {xs : List V} {fg : List Tri}, All2 (TriAt K H) xs fg → ∃ ds : List PyData, DpAll K H xs ds ∧ SeqAt.shaped (.list ds) = true ∧ PyData.eqv (.list ds) (.list []) = decide (fg = []) := by
  intro xs fg h
  refine ⟨fg.map fun t => .tuple [.int t.1, .int t.2.1, .int t.2.2], ?_, ?_, ?_⟩
  · induction fg generalizing xs with
    | nil =>
      cases xs with
      | nil => exact .nil
      | cons _ _ => exact h.elim
    | cons t r ih =>
      cases xs with
      | nil => exact h.elim
      | cons x l =>
        obtain ⟨a, e, ha⟩ := h.1
        subst e
        exact .cons (.tup ha (.cons (.int _) (.cons (.int _) (.cons (.int _) .nil)))) (ih h.2)
  · have h1 : ∀ l : List Tri, PyData.canLayAll0 (l.map fun t => .tuple [.int t.1, .int t.2.1, .int t.2.2]) = true := fun l => by
      induction l with
      | nil => rfl
      | cons t r ih => simp [PyData.canLayAll0, PyData.canLay0, ih]
    have h2 : ∀ l : List Tri, PyData.depthAll (l.map fun t => .tuple [.int t.1, .int t.2.1, .int t.2.2]) ≤ 1 := fun l => by
      induction l with
      | nil => simp [PyData.depthAll]
      | cons t r ih =>
        simp only [List.map_cons, PyData.depthAll, PyData.depth]
        omega
    have h3 := h1 fg
    have h4 := h2 fg
    have h5 : PyData.depth (.list (fg.map fun t => .tuple [.int t.1, .int t.2.1, .int t.2.2])) ≤ 64 := by
      simp only [PyData.depth]
      omega
    show (PyData.canLay0 _ && decide (PyData.depth _ ≤ 64)) = true
    rw [Bool.and_eq_true]
    exact ⟨by simp only [PyData.canLay0]; exact h3, decide_eq_true h5⟩
  · cases fg with
    | nil => simp [PyData.eqv, PyData.eqvAll]
    | cons _ _ => simp [PyData.eqv, PyData.eqvAll]
/-! ### who bars whom: the mathematics -/
/-- the note that a figure wants on a pad (of two the later) -/
def noteOf (f : List Tri) (p : Int) : Option Int := f.foldl (fun acc t => if p = t.1 then some t.2.1 else acc) none
theorem noteOf_go (p : Int) : ∀ (f : List Tri) (acc : Option Int), f.foldl (fun acc t => if p = t.1 then some t.2.1 else acc) acc = (noteOf f p).or acc
  | [], acc => by simp [noteOf]
  | t :: r, acc => by
    unfold noteOf
    rw [List.foldl_cons, List.foldl_cons, noteOf_go p r, noteOf_go p r (if p = t.1 then some t.2.1 else none)]
    by_cases h : p = t.1
    · rw [if_pos h, if_pos h]
      cases noteOf r p <;> rfl
    · rw [if_neg h, if_neg h]
      cases noteOf r p <;> rfl
theorem noteOf_cons (t : Tri) (r : List Tri) (p : Int) : noteOf (t :: r) p = (noteOf r p).or (if p = t.1 then some t.2.1 else none) := by
  show List.foldl _ _ (t :: r) = _
  rw [List.foldl_cons, noteOf_go]
theorem noteOf_snoc (f : List Tri) (t : Tri) (p : Int) : noteOf (f ++ [t]) p = if p = t.1 then some t.2.1 else noteOf f p := by
  unfold noteOf
  rw [List.foldl_append]
  rfl
theorem noteOf_some {f : List Tri} {p n : Int} (h : noteOf f p = some n) : ∃ t ∈ f, t.1 = p ∧ t.2.1 = n := by
  induction f with
  | nil => cases h
  | cons t r ih =>
    rw [noteOf_cons] at h
    cases e : noteOf r p with
    | some m =>
      rw [e] at h
      have : m = n := Option.some.inj h
      subst this
      obtain ⟨u, hu, h1, h2⟩ := ih e
      exact ⟨u, List.mem_cons_of_mem _ hu, h1, h2⟩
    | none =>
      rw [e] at h
      by_cases hp : p = t.1
      · rw [if_pos hp] at h
        exact ⟨t, List.mem_cons_self, hp.symm, Option.some.inj h⟩
      · rw [if_neg hp] at h
        cases h
theorem noteOf_none {f : List Tri} {p : Int} (h : noteOf f p = none) : ∀ t ∈ f, t.1 ≠ p := by
  induction f with
  | nil => intro t ht; cases ht
  | cons t r ih =>
    rw [noteOf_cons] at h
    cases e : noteOf r p with
    | some m => rw [e] at h; cases h
    | none =>
      rw [e] at h
      by_cases hp : p = t.1
      · rw [if_pos hp] at h
        cases h
      · intro u hu
        rcases List.mem_cons.mp hu with rfl | hu
        · exact fun z => hp z.symm
        · exact ih e u hu
theorem up_inj {f : List Tri} (h : (f.map (·.1)).Pairwise (· < ·)) {t u : Tri} (ht : t ∈ f) (hu : u ∈ f) (e : t.1 = u.1) : t = u := by
  induction f with
  | nil => cases ht
  | cons x r ih =>
    rw [List.map_cons, List.pairwise_cons] at h
    rcases List.mem_cons.mp ht with h1 | h1 <;> rcases List.mem_cons.mp hu with h2 | h2
    · rw [h1, h2]
    · have := h.1 u.1 (List.mem_map.mpr ⟨u, h2, rfl⟩)
      rw [h1] at e
      omega
    · have := h.1 t.1 (List.mem_map.mpr ⟨t, h1, rfl⟩)
      rw [h2] at e
      omega
    · exact ih h.2 h1 h2
def meetB (f g : List Tri) : Bool := f.any fun t => g.any fun u => decide (u.1 = t.1)
def barB (f g : List Tri) : Bool := g.any fun u => !decide ((noteOf f u.1).getD u.2.1 = u.2.1)
theorem meetB_iff {f g : List Tri} : meetB f g = true ↔ ∃ t ∈ f, ∃ u ∈ g, u.1 = t.1 := by
  unfold meetB
  simp only [List.any_eq_true, decide_eq_true_eq]
theorem meetB_comm (f g : List Tri) : meetB f g = meetB g f := by
  rw [Bool.eq_iff_iff, meetB_iff, meetB_iff]
  constructor
  · rintro ⟨t, ht, u, hu, e⟩
    exact ⟨u, hu, t, ht, e.symm⟩
  · rintro ⟨t, ht, u, hu, e⟩
    exact ⟨u, hu, t, ht, e.symm⟩
theorem barB_iff {f g : List Tri} (hf : (f.map (·.1)).Pairwise (· < ·)) : barB f g = true ↔ ∃ t ∈ f, ∃ u ∈ g, u.1 = t.1 ∧ u.2.1 ≠ t.2.1 := by
  unfold barB
  rw [List.any_eq_true]
  constructor
  · rintro ⟨u, hu, h⟩
    cases e : noteOf f u.1 with
    | none => rw [e] at h; simp at h
    | some n =>
      rw [e] at h
      obtain ⟨t, ht, h1, h2⟩ := noteOf_some e
      refine ⟨t, ht, u, hu, h1.symm, fun z => ?_⟩
      simp only [Option.getD_some, Bool.not_eq_true', decide_eq_false_iff_not] at h
      exact h (by rw [← h2, z])
  · rintro ⟨t, ht, u, hu, h1, h2⟩
    refine ⟨u, hu, ?_⟩
    cases e : noteOf f u.1 with
    | none => exact absurd h1.symm (noteOf_none e t ht)
    | some n =>
      obtain ⟨t', ht', h1', h2'⟩ := noteOf_some e
      have := up_inj hf ht ht' (by rw [h1', h1])
      subst this
      simp only [Option.getD_some, Bool.not_eq_true', decide_eq_false_iff_not]
      rw [← h2']
      exact fun z => h2 z.symm
theorem barB_comm {f g : List Tri} (hf : (f.map (·.1)).Pairwise (· < ·)) (hg : (g.map (·.1)).Pairwise (· < ·)) : barB f g = barB g f := by
  rw [Bool.eq_iff_iff, barB_iff hf, barB_iff hg]
  constructor
  · rintro ⟨t, ht, u, hu, e, n⟩
    exact ⟨u, hu, t, ht, e.symm, fun z => n z.symm⟩
  · rintro ⟨t, ht, u, hu, e, n⟩
    exact ⟨u, hu, t, ht, e.symm, fun z => n z.symm⟩
/-- the others' triples on the first one's pads -/
def commonOf (f g : List Tri) : List Tri := g.filter fun u => (noteOf f u.1).isSome
theorem commonOf_nil {f g : List Tri} : commonOf f g = [] ↔ meetB f g = false := by
  rw [← Bool.not_eq_true, meetB_iff]
  unfold commonOf
  rw [List.filter_eq_nil_iff]
  constructor
  · rintro h ⟨t, ht, u, hu, e⟩
    refine h u hu ?_
    cases e2 : noteOf f u.1 with
    | none => exact absurd e.symm (noteOf_none e2 t ht)
    | some n => rfl
  · intro h u hu e
    cases e2 : noteOf f u.1 with
    | none => rw [e2] at e; cases e
    | some n =>
      obtain ⟨t, ht, h1, _⟩ := noteOf_some e2
      exact h ⟨t, ht, u, hu, h1.symm⟩
theorem common_bar (f g : List Tri) : ((commonOf f g).any fun u => !decide ((noteOf f u.1).getD u.2.1 = u.2.1)) = barB f g := by
  unfold commonOf barB
  rw [List.any_filter]
  congr 1
  funext u
  cases noteOf f u.1 with
  | none => simp
  | some n => simp
/-- two figures of a book: apart, or barring one another -/
def okB (f g : List Tri) : Bool := !meetB f g || barB f g
/-- the figures of a book -/
structure GoodB (cs : List Int) (fs : List (List Tri)) : Prop where
  all : ∀ f ∈ fs, GoodF cs f
  two : fs.Pairwise fun g f => okB f g = true
theorem GoodB.pair {cs : List Int} {fs : List (List Tri)} (h : GoodB cs fs) {i j : Nat} {f g : List Tri} (hij : i < j) (hf : fs[i]? = some f) (hg : fs[j]? = some g) : meetB f g = true → barB f g = true := by
  intro hm
  obtain ⟨hi, rfl⟩ := List.getElem?_eq_some_iff.mp hf
  obtain ⟨hj, rfl⟩ := List.getElem?_eq_some_iff.mp hg
  have h2 := List.pairwise_iff_getElem.mp h.two i j hi hj hij
  unfold okB at h2
  rw [meetB_comm, hm] at h2
  rw [barB_comm (h.all _ (List.getElem_mem hi)).up (h.all _ (List.getElem_mem hj)).up]
  exact h2
/-- a figure's pads and notes as a dict -/
def kvsOf (f : List Tri) : List (Key × V) := f.map fun t => (Sum.inl t.1, V.int t.2.1)
theorem val_merge (p : Int) : ∀ (f : List Tri) (acc : List (Key × V)), valV (mergeK acc (kvsOf f)) (Sum.inl p) = ((noteOf f p).map V.int).or (valV acc (Sum.inl p))
  | [], acc => rfl
  | t :: r, acc => by
    have e : mergeK acc (kvsOf (t :: r)) = mergeK (putK acc (Sum.inl t.1) (.int t.2.1)) (kvsOf r) := rfl
    rw [e, val_merge p r, valV_put, noteOf_cons]
    by_cases h : p = t.1
    · rw [if_pos h, if_pos (by rw [h])]
      cases noteOf r p <;> rfl
    · rw [if_neg h, if_neg (fun z => h (Sum.inl.inj z))]
      cases noteOf r p <;> simp
theorem val_fig (f : List Tri) (p : Int) : valV (mergeK [] (kvsOf f)) (Sum.inl p) = (noteOf f p).map V.int := by
  rw [val_merge]
  cases noteOf f p <;> rfl
theorem merge_snoc (f : List Tri) (t : Tri) : mergeK [] (kvsOf (f ++ [t])) = putK (mergeK [] (kvsOf f)) (Sum.inl t.1) (.int t.2.1) := by
  unfold mergeK kvsOf
  rw [List.map_append, List.foldl_append]
  rfl
theorem putK_len' (c : List (Key × V)) (k : Key) (x : V) : (putK c k x).length ≤ c.length + 1 := by
  unfold putK
  split
  · rw [List.length_map]
    omega
  · rw [List.length_append]
    exact Nat.le_refl _
theorem merge_len (f : List Tri) : (mergeK [] (kvsOf f)).length ≤ f.length := by
  have h : ∀ (f : List Tri) (acc : List (Key × V)), (mergeK acc (kvsOf f)).length ≤ acc.length + f.length := fun f => by
    induction f with
    | nil => intro acc; exact Nat.le_refl _
    | cons t r ih =>
      intro acc
      have e : mergeK acc (kvsOf (t :: r)) = mergeK (putK acc (Sum.inl t.1) (.int t.2.1)) (kvsOf r) := rfl
      have h1 := ih (putK acc (Sum.inl t.1) (.int t.2.1))
      have h2 := putK_len' acc (Sum.inl t.1) (.int t.2.1)
      rw [e, List.length_cons]
      omega
  have := h f []
  rw [List.length_nil, Nat.zero_add] at this
  exact this
/-! ### what the law of figures leaves for others -/
theorem cs_at {cs : List Int} {i : Nat} (h : i < cs.length) : atI (cs.map V.int) (i : Int) = some (.int (cs.getD i 0)) := by
  refine atI_nat ?_
  rw [List.getElem?_map, List.getElem?_eq_getElem h, List.getD_eq_getElem?_getD, List.getElem?_eq_getElem h]
  rfl
theorem cs_in {cs : List Int} {i : Nat} (h : i < cs.length) (a : ∀ x ∈ cs, (1 : Int) ≤ x ∧ x ≤ 4) : 1 ≤ cs.getD i 0 ∧ cs.getD i 0 ≤ 4 := by
  rw [List.getD_eq_getElem?_getD, List.getElem?_eq_getElem h]
  exact a _ (List.getElem_mem h)
abbrev g3 (K : PySem.W.Frag) (i j k : Nat) : TG := gTup K 3 (gCons (gName i) (gCons (gName j) (gCons (gName k) gNil)))
abbrev g2 (K : PySem.W.Frag) (i j : Nat) : TG := gTup K 2 (gCons (gName i) (gCons (gName j) gNil))
def pairV (t : Tri) : List V := [.int t.1, .int t.2.1]
def PairAt (K : PySem.W.Frag) (H : Hp) (v : V) (t : Tri) : Prop := ∃ a, v = .ref a ∧ SqT K H a (pairV t)
theorem PairAt.ts {K : PySem.W.Frag} {H H' : Hp} (e : TS K H H') {v : V} {t : Tri} (h : PairAt K H v t) : PairAt K H' v t := by
  obtain ⟨a, h1, h2⟩ := h
  exact ⟨a, h1, e _ _ h2⟩
theorem pair_paired {K : PySem.W.Frag} {H : Hp} : ∀ {xs : List V} {f : List Tri}, All2 (PairAt K H) xs f → ∃ ps : List Addr, xs = ps.map V.ref ∧ Paired (fun p kv => SqT K H p [kV kv.1, kv.2]) ps (kvsOf f)
  | [], [], _ => ⟨[], rfl, .nil⟩
  | x :: xs, t :: f, h => by
    obtain ⟨a, rfl, ha⟩ := h.1
    obtain ⟨ps, e, hp⟩ := pair_paired h.2
    exact ⟨a :: ps, by rw [e]; rfl, .cons ha hp⟩
  | [], _ :: _, h => h.elim
  | _ :: _, [], h => h.elim
theorem pair_data {K : PySem.W.Frag} {H : Hp} : ∀ {xs : List V} {fg : List Tri}, All2 (PairAt K H) xs fg → ∃ ds : List PyData, DpAll K H xs ds ∧ SeqAt.shaped (.list ds) = true ∧ PyData.eqv (.list ds) (.list []) = decide (fg = []) := by
  intro xs fg h
  refine ⟨fg.map fun t => .tuple [.int t.1, .int t.2.1], ?_, ?_, ?_⟩
  · induction fg generalizing xs with
    | nil =>
      cases xs with
      | nil => exact .nil
      | cons _ _ => exact h.elim
    | cons t r ih =>
      cases xs with
      | nil => exact h.elim
      | cons x l =>
        obtain ⟨a, e, ha⟩ := h.1
        subst e
        exact .cons (.tup ha (.cons (.int _) (.cons (.int _) .nil))) (ih h.2)
  · have h1 : ∀ l : List Tri, PyData.canLayAll0 (l.map fun t => .tuple [.int t.1, .int t.2.1]) = true := fun l => by
      induction l with
      | nil => rfl
      | cons t r ih => simp [PyData.canLayAll0, PyData.canLay0, ih]
    have h2 : ∀ l : List Tri, PyData.depthAll (l.map fun t => .tuple [.int t.1, .int t.2.1]) ≤ 1 := fun l => by
      induction l with
      | nil => simp [PyData.depthAll]
      | cons t r ih =>
        simp only [List.map_cons, PyData.depthAll, PyData.depth]
        omega
    have h3 := h1 fg
    have h4 := h2 fg
    have h5 : PyData.depth (.list (fg.map fun t => .tuple [.int t.1, .int t.2.1])) ≤ 64 := by
      simp only [PyData.depth]
      omega
    show (PyData.canLay0 _ && decide (PyData.depth _ ≤ 64)) = true
    rw [Bool.and_eq_true]
    exact ⟨by simp only [PyData.canLay0]; exact h3, decide_eq_true h5⟩
  · cases fg with
    | nil => simp [PyData.eqv, PyData.eqvAll]
    | cons _ _ => simp [PyData.eqv, PyData.eqvAll]
theorem take_snoc {α : Type} {l : List α} {i : Nat} {a : α} (h : l[i]? = some a) : l.take (i + 1) = l.take i ++ [a] := by
  rw [List.take_add_one, h]
  rfl
/-! ### sets of pads as numbers: the mathematics -/
theorem pow_dvd_sum (p : Nat) : ∀ (l : List Nat), (∀ x ∈ l, p < x) → 2 ^ (p + 1) ∣ (l.map (2 ^ ·)).sum
  | [], _ => ⟨0, rfl⟩
  | x :: l, h => by
    rw [List.map_cons, List.sum_cons]
    exact Nat.dvd_add (Nat.pow_dvd_pow 2 (h x List.mem_cons_self)) (pow_dvd_sum p l fun y hy => h y (List.mem_cons_of_mem _ hy))
theorem sum_bits : ∀ {l : List Nat}, l.Pairwise (· < ·) → ∀ i, (l.map (2 ^ ·)).sum.testBit i = decide (i ∈ l)
  | [], _, i => by simp
  | p :: l, h, i => by
    have h2 := List.pairwise_cons.mp h
    obtain ⟨m, hm⟩ := pow_dvd_sum p l h2.1
    have ih := sum_bits h2.2 i
    have e : ((p :: l).map (2 ^ ·)).sum = 2 ^ (p + 1) * m ||| 2 ^ p := by
      rw [List.map_cons, List.sum_cons, hm, Nat.add_comm]
      exact Nat.two_pow_add_eq_or_of_lt (Nat.pow_lt_pow_right (by decide) (Nat.lt_succ_self p)) m
    rw [e, Nat.testBit_or, ← hm, ih, Nat.testBit_two_pow]
    by_cases z : p = i
    · subst z; simp
    · simp [z, Ne.symm z]
theorem and_bits {a b : List Nat} (ha : a.Pairwise (· < ·)) (hb : b.Pairwise (· < ·)) : ((a.map (2 ^ ·)).sum &&& (b.map (2 ^ ·)).sum) ≠ 0 ↔ ∃ i, i ∈ a ∧ i ∈ b := by
  constructor
  · intro h
    obtain ⟨i, hi⟩ := Nat.exists_testBit_of_ne_zero h
    rw [Nat.testBit_and, sum_bits ha, sum_bits hb, Bool.and_eq_true, decide_eq_true_eq, decide_eq_true_eq] at hi
    exact ⟨i, hi⟩
  · rintro ⟨i, h1, h2⟩ z
    have := congrArg (fun x => Nat.testBit x i) z
    simp only [Nat.testBit_and, sum_bits ha, sum_bits hb, Nat.zero_testBit, h1, h2] at this
    simp at this
/-- the set of a figure's pads as a number -/
def maskN (f : List Tri) : Nat := (f.map fun t => 2 ^ t.1.toNat).sum
/-- pads that rise, none below nought -/
structure PadsUp (f : List Tri) : Prop where
  up : (f.map (·.1)).Pairwise (· < ·)
  lo : ∀ t ∈ f, 0 ≤ t.1
  hi : ∀ t ∈ f, t.1 ≤ 1000
theorem GoodF.padsUp {cs : List Int} {f : List Tri} (h : GoodF cs f) (h6 : cs.length ≤ 6) : PadsUp f := ⟨h.up, fun t ht => (h.all t ht).p0, fun t ht => by have := (h.all t ht).p1; omega⟩
theorem pads_nat {f : List Tri} (h : PadsUp f) : (f.map fun t => t.1.toNat).Pairwise (· < ·) := by
  have h1 := h.up
  have h2 := h.lo
  clear h
  induction f with
  | nil => exact List.Pairwise.nil
  | cons t r ih =>
    rw [List.map_cons, List.pairwise_cons] at h1 ⊢
    refine ⟨fun x hx => ?_, ih h1.2 fun u hu => h2 u (List.mem_cons_of_mem _ hu)⟩
    obtain ⟨u, hu, rfl⟩ := List.mem_map.mp hx
    have a1 := h1.1 u.1 (List.mem_map.mpr ⟨u, hu, rfl⟩)
    have a2 := h2 t List.mem_cons_self
    have a3 := h2 u (List.mem_cons_of_mem _ hu)
    omega
theorem mask_bits {f g : List Tri} (hf : PadsUp f) (hg : PadsUp g) : (maskN f &&& maskN g) ≠ 0 ↔ meetB f g = true := by
  have e : ∀ f : List Tri, maskN f = ((f.map fun t => t.1.toNat).map (2 ^ ·)).sum := fun f => by
    unfold maskN
    rw [List.map_map]
    rfl
  rw [e f, e g, and_bits (pads_nat hf) (pads_nat hg), meetB_iff]
  constructor
  · rintro ⟨i, h1, h2⟩
    obtain ⟨t, ht, e1⟩ := List.mem_map.mp h1
    obtain ⟨u, hu, e2⟩ := List.mem_map.mp h2
    have a2 := hf.lo t ht
    have a3 := hg.lo u hu
    exact ⟨t, ht, u, hu, by omega⟩
  · rintro ⟨t, ht, u, hu, e1⟩
    exact ⟨t.1.toNat, List.mem_map.mpr ⟨t, ht, rfl⟩, List.mem_map.mpr ⟨u, hu, by rw [e1]⟩⟩
/-- as the program asks: one & other != 0 -/
theorem mask_test {f g : List Tri} (hf : PadsUp f) (hg : PadsUp g) : (!decide (V.int (Builtin.bitAnd (maskN f : Nat) (maskN g : Nat)) = V.int 0)) = meetB f g := by
  rw [bitAnd_pp (by omega) (by omega), Int.toNat_natCast, Int.toNat_natCast]
  have := mask_bits hf hg
  cases e : meetB f g with
  | true =>
    rw [e] at this
    have h := this.mpr rfl
    rw [decide_eq_false (fun z => h (by have := V.int.inj z; omega))]
    rfl
  | false =>
    rw [e] at this
    have h : (maskN f &&& maskN g) = 0 := Classical.byContradiction fun z => by cases this.mp z
    rw [h]
    rfl
/-! ### pads_of, mask_of, bar -/
def spPads (K : PySem.W.Frag) : Sp := fun vs H Q _ => ∃ (v : V) (f : List Tri), vs = [v] ∧ FigT K H v f ∧ f.length ≤ 100 ∧ ∀ (H' : Hp) (p : Addr), Same H H' → H p = none → H' p = some (.lst ((f.map (·.1)).map V.int)) → Q (.ref p) H'
abbrev nPadsOf : List Str := ["figure", "pad", "note", "depth"]
theorem scPadsOf : FnScope nPadsOf ["figure"] (defScope sPadsOf) := ⟨rfl, rfl, rfl, by decide +kernel, rfl, by decide +kernel, by decide +kernel⟩
section
variable {P : Program} {w : World} {K : PySem.W.Frag} {mg : Str → Option Value} {base : Heap}
theorem ok_padsof {f : Addr} {fd : FuncData} {k : Nat} (F : Fun K "pads_of" "pads_of" sPadsOf f fd) : FnOk P w K mg base CX0 (k + 1) f fd ["figure"] (spPads K) := by
  refine F.ok scPadsOf (fun vs H Q E h => ?_) (fun cdv A outer s H vs Q E hr h => ?_)
  · obtain ⟨v, f, rfl, _⟩ := h
    rfl
  · obtain ⟨v, f, rfl, hV, hfl, q⟩ := h
    obtain ⟨a, xs, rfl, ha, hxs⟩ := hV
    refine ⟨_, pss_one (ps_ret (pe_lc (own := [("pad", 1), ("note", 2), ("depth", 3)]) (g := g3 K 1 2 3) (tt := tYes) rfl scPadsOf.nd (pi_tup (pv 0))
        (blkOk_by (own := [("pad", 1), ("note", 2), ("depth", 3)]) (N := nPadsOf) (sc := defScope sPadsOf) (by decide +kernel))
        (fun _ _ _ _ _ => pg_tup rfl (pgs_cons (pg_name (i := 1) scPadsOf.nd rfl (.inl rfl)) (pgs_cons (pg_name (i := 2) scPadsOf.nd rfl (.inl rfl)) (pgs_cons (pg_name (i := 3) scPadsOf.nd rfl (.inl rfl)) pgs_nil)))) (fun _ _ _ _ _ => pts_nil)
        (fun _ _ _ _ _ => pv 1))), ?_⟩
    refine ⟨.ref a, rfl, a, rfl, ⟨_, ha⟩, fun D nD => ?_⟩
    refine lc_tup (K := K) (a := a) (xs := xs) (fun i H' => Same H H' ∧ H' D = some (.lst (((f.take i).map (·.1)).map V.int))) ⟨same_upd nD, upd_same⟩ (fun i H' _ hP => Same.tup hP.1 ha) (fun i x H' hx hP => ?_) (fun H1 hP => ?_)
    · obtain ⟨sm, hD⟩ := hP
      obtain ⟨t, ht, tp, rfl, htp⟩ := hxs.get hx
      refine ⟨tp, triV t, rfl, Same.tup sm htp, rfl, _, _, rfl, _, _, rfl, _, _, rfl, rfl, rfl, yesT ⟨_, rfl, _, hD, ?_, Same.offUpd sm nD, ?_⟩⟩
      · rw [List.length_map, List.length_map, List.length_take]
        exact small1000 (by omega)
      · rw [upd_same, take_snoc ht, List.map_append, List.map_append]
        rfl
    · obtain ⟨sm, hD⟩ := hP
      rw [hxs.len, List.take_length] at hD
      exact q H1 D sm nD hD
end
theorem inV_ints (p : Int) (qs : List Int) : inV (.int p) (qs.map V.int) = qs.any fun r => decide (r = p) := by
  unfold inV
  rw [List.any_map]
  congr 1
theorem flat_ints (qs : List Int) : (qs.map V.int).all flatV = true := by
  rw [List.all_map, List.all_eq_true]
  intro x _
  rfl
/-! ### mask_of -/
def spMask (K : PySem.W.Frag) : Sp := fun vs H Q _ => ∃ (v : V) (f : List Tri), vs = [v] ∧ FigT K H v f ∧ f.length ≤ 100 ∧ PadsUp f ∧ ∀ H' : Hp, Same H H' → Q (.int (maskN f : Nat)) H'
abbrev nMask : List Str := ["figure", "pad", "note", "depth"]
theorem scMask : FnScope nMask ["figure"] (defScope sMask) := ⟨rfl, rfl, rfl, by decide +kernel, rfl, by decide +kernel, by decide +kernel⟩
def masksI (f : List Tri) : List Int := f.map fun t => 1 * 2 ^ t.1.toNat
theorem masksI_sum (f : List Tri) : (masksI f).sum = (maskN f : Nat) := by
  unfold masksI maskN
  induction f with
  | nil => rfl
  | cons t r ih =>
    rw [List.map_cons, List.sum_cons, List.map_cons, List.sum_cons, ih]
    push_cast
    omega
section
variable {P : Program} {w : World} {K : PySem.W.Frag} {mg : Str → Option Value} {base : Heap}
theorem ok_mask {f : Addr} {fd : FuncData} {k : Nat} (F : Fun K "mask_of" "mask_of" sMask f fd) (ms : mg "sum" = none) : FnOk P w K mg base CX0 (k + 1) f fd ["figure"] (spMask K) := by
  refine F.ok scMask (fun vs H Q E h => ?_) (fun cdv A outer s H vs Q E hr h => ?_)
  · obtain ⟨v, f, rfl, _⟩ := h
    rfl
  · obtain ⟨v, f, rfl, hV, hfl, hU, q⟩ := h
    obtain ⟨a, xs, rfl, ha, hxs⟩ := hV
    refine ⟨_, pss_one (ps_ret (pe_callB (cr_sum rfl) (by rfl) ms (by decide +kernel) (pa_cons (pe_lc (own := [("pad", 1), ("note", 2), ("depth", 3)]) (g := g3 K 1 2 3) (tt := tYes) rfl scMask.nd (pi_tup (pv 0))
        (blkOk_by (own := [("pad", 1), ("note", 2), ("depth", 3)]) (N := nMask) (sc := defScope sMask) (by decide +kernel))
        (fun _ _ _ _ _ => pg_tup rfl (pgs_cons (pg_name (i := 1) scMask.nd rfl (.inl rfl)) (pgs_cons (pg_name (i := 2) scMask.nd rfl (.inl rfl)) (pgs_cons (pg_name (i := 3) scMask.nd rfl (.inl rfl)) pgs_nil)))) (fun _ _ _ _ _ => pts_nil)
        (fun _ _ _ _ _ => pe_op op_shl pe_int (pv 1))) pa_nil))), ?_⟩
    refine ⟨.ref a, rfl, a, rfl, ⟨_, ha⟩, fun D nD => ?_⟩
    refine lc_tup (K := K) (a := a) (xs := xs) (fun i H' => Same H H' ∧ H' D = some (.lst ((masksI (f.take i)).map V.int))) ⟨same_upd nD, upd_same⟩ (fun i H' _ hP => Same.tup hP.1 ha) (fun i x H' hx hP => ?_) (fun H1 hP => ?_)
    · obtain ⟨sm, hD⟩ := hP
      obtain ⟨t, ht, tp, rfl, htp⟩ := hxs.get hx
      have m := List.mem_of_getElem? ht
      have b1 := hU.lo t m
      have b2 := hU.hi t m
      refine ⟨tp, triV t, rfl, Same.tup sm htp, rfl, _, _, rfl, _, _, rfl, _, _, rfl, rfl, rfl, yesT ⟨_, rfl, 1, t.1, rfl, rfl, ⟨b1, by omega, by decide⟩, _, hD, ?_, Same.offUpd sm nD, ?_⟩⟩
      · unfold masksI
        rw [List.length_map, List.length_map, List.length_take]
        exact small1000 (by omega)
      · unfold masksI
        rw [upd_same, take_snoc ht, List.map_append, List.map_append]
        rfl
    · obtain ⟨sm, hD⟩ := hP
      rw [hxs.len, List.take_length] at hD
      refine ⟨D, _, rfl, SqL.of hD, ?_⟩
      rw [masksI_sum]
      exact q H1 sm
end
def spBar (K : PySem.W.Frag) : Sp := fun vs H Q _ => ∃ (v u : V) (f g : List Tri), vs = [v, u] ∧ FigT K H v f ∧ FigT K H u g ∧ f.length ≤ 100 ∧ g.length ≤ 100 ∧ ∀ H', Same H H' → Q (.bl (barB f g)) H'
abbrev nBar : List Str := ["one", "other", "wanted", "pad", "note", "depth"]
theorem scBar : FnScope nBar ["one", "other"] (defScope sBar) := ⟨rfl, rfl, rfl, by decide +kernel, rfl, by decide +kernel, by decide +kernel⟩
section
variable {P : Program} {w : World} {K : PySem.W.Frag} {mg : Str → Option Value} {base : Heap}
theorem ok_bar {f : Addr} {fd : FuncData} {k : Nat} (F : Fun K "bar" "bar" sBar f fd) (ma : mg "any" = none) : FnOk P w K mg base CX0 (k + 1) f fd ["one", "other"] (spBar K) := by
  refine F.ok scBar (fun vs H Q E h => ?_) (fun cdv A outer s H vs Q E hr h => ?_)
  · obtain ⟨v, u, f, g, rfl, _⟩ := h
    rfl
  · obtain ⟨v, u, f, g, rfl, hV, hU, hfl, hgl, q⟩ := h
    obtain ⟨a, xs, rfl, ha, hxs⟩ := hV
    obtain ⟨b, ys, rfl, hb, hys⟩ := hU
    refine ⟨_, pss_cons (ps_set (i := 2) scBar.nd rfl (.inr rfl) (pe_dc (own := [("pad", 3), ("note", 4), ("depth", 5)]) (g := g3 K 3 4 5) (tt := tYes) rfl scBar.nd (pi_tup (pv 0))
        (blkOk_by (own := [("pad", 3), ("note", 4), ("depth", 5)]) (N := nBar) (sc := defScope sBar) (by decide +kernel))
        (fun _ _ _ _ _ => pg_tup rfl (pgs_cons (pg_name (i := 3) scBar.nd rfl (.inl rfl)) (pgs_cons (pg_name (i := 4) scBar.nd rfl (.inl rfl)) (pgs_cons (pg_name (i := 5) scBar.nd rfl (.inl rfl)) pgs_nil)))) (fun _ _ _ _ _ => pts_nil)
        (fun _ _ _ _ _ => pv 3) (fun _ _ _ _ _ => pv 4)))
      (pss_one (ps_ret (pe_callB (cr_any rfl) (by rfl) ma (by decide +kernel) (pa_cons (pe_lc (own := [("pad", 3), ("note", 4), ("depth", 5)]) (g := g3 K 3 4 5) (tt := tYes) rfl scBar.nd (pi_tup (pv 1))
        (blkOk_by (own := [("pad", 3), ("note", 4), ("depth", 5)]) (N := nBar) (sc := defScope sBar) (by decide +kernel))
        (fun _ _ _ _ _ => pg_tup rfl (pgs_cons (pg_name (i := 3) scBar.nd rfl (.inl rfl)) (pgs_cons (pg_name (i := 4) scBar.nd rfl (.inl rfl)) (pgs_cons (pg_name (i := 5) scBar.nd rfl (.inl rfl)) pgs_nil)))) (fun _ _ _ _ _ => pts_nil)
        (fun _ _ _ _ _ => pe_cmpR op_ne (pe_dget2 (hu_of hr) (pv 2) (pv 3) (pv 4) ⟨rfl, rfl, rfl, rfl⟩) (pv 4) (nomark _))) pa_nil)))), ?_⟩
    refine ⟨.ref a, rfl, a, rfl, ⟨_, ha⟩, fun D nD => ?_⟩
    refine dc_tup (K := K) (a := a) (xs := xs) (fun i H' => Same H H' ∧ H' D = some (.dK (mergeK [] (kvsOf (f.take i))))) ⟨same_upd nD, upd_same⟩ (fun i H' _ hP => Same.tup hP.1 ha) (fun i x H' hx hP => ?_) (fun H1 hP => ?_)
    · obtain ⟨sm, hD⟩ := hP
      obtain ⟨t, ht, tp, rfl, htp⟩ := hxs.get hx
      refine ⟨tp, triV t, rfl, Same.tup sm htp, rfl, _, _, rfl, _, _, rfl, _, _, rfl, rfl, rfl, yesT ⟨_, rfl, _, rfl, _, Sum.inl t.1, rfl, hD, ?_, Same.offUpd sm nD, ?_⟩⟩
      · have := merge_len (f.take i)
        rw [List.length_take] at this
        exact small1000 (by omega)
      · rw [upd_same, take_snoc ht, merge_snoc]
    · obtain ⟨s1, hD⟩ := hP
      rw [hxs.len, List.take_length] at hD
      refine ⟨.ref b, rfl, b, rfl, ⟨_, Same.tup s1 hb⟩, fun D2 nD2 => ?_⟩
      refine lc_tup (K := K) (a := b) (xs := ys) (fun i H' => Same H1 H' ∧ H' D2 = some (.lst (((g.take i).map fun u => !decide ((noteOf f u.1).getD u.2.1 = u.2.1)).map V.bl))) ⟨same_upd nD2, upd_same⟩ (fun i H' _ hP => Same.tup (s1.trans hP.1) hb) (fun i x H' hx hP => ?_) (fun H2 hP => ?_)
      · obtain ⟨sm, hD2⟩ := hP
        obtain ⟨t, ht, tp, rfl, htp⟩ := hys.get hx
        refine ⟨tp, triV t, rfl, Same.tup (s1.trans sm) htp, rfl, _, _, rfl, _, _, rfl, _, _, rfl, rfl, rfl, yesT ?_⟩
        refine ⟨_, rfl, D, rfl, .inl ⟨_, .inl (sm _ _ hD)⟩, _, rfl, _, rfl, _, DGet.k (k := Sum.inl t.1) (sm _ _ hD), _, rfl, ?_⟩
        rw [val_fig]
        have ev : (((noteOf f t.1).map V.int).getD (V.int t.2.1)) = V.int ((noteOf f t.1).getD t.2.1) := by
          cases noteOf f t.1 <;> rfl
        rw [ev]
        refine ⟨rfl, _, hD2, ?_, Same.offUpd sm nD2, ?_⟩
        · rw [List.length_map, List.length_map, List.length_take]
          exact small1000 (by omega)
        · rw [upd_same, take_snoc ht, List.map_append, List.map_append]
          have : (!decide (V.int ((noteOf f t.1).getD t.2.1) = V.int t.2.1)) = (!decide ((noteOf f t.1).getD t.2.1 = t.2.1)) := by
            congr 1
            rw [decide_eq_decide]
            exact ⟨fun z => V.int.inj z, fun z => by rw [z]⟩
          rw [this]
          rfl
      · obtain ⟨sm, hD2⟩ := hP
        rw [hys.len, List.take_length] at hD2
        refine ⟨D2, _, rfl, SqL.of hD2, ?_⟩
        have := q _ (s1.trans sm)
        unfold barB at this
        rw [List.any_map]
        exact this
end
/-! ### is_triple, is_figure -/
def spIsTri (K : PySem.W.Frag) : Sp := fun vs H Q _ => ∃ (a : Addr) (cs : List Int) (v : V) (t : Tri), vs = [.ref a, v] ∧ (SqL K H a (cs.map V.int) ∨ SqT K H a (cs.map V.int)) ∧ TriAt K H v t ∧ GoodT cs t ∧ ∀ H', Same H H' → Q (.bl true) H'
abbrev nIsTri : List Str := ["colours", "triple", "pad", "note", "depth"]
theorem scIsTri : FnScope nIsTri ["colours", "triple"] (defScope sIsTri) := ⟨rfl, rfl, rfl, by decide +kernel, rfl, by decide +kernel, by decide +kernel⟩
section
variable {P : Program} {w : World} {K : PySem.W.Frag} {mg : Str → Option Value} {base : Heap}
theorem ok_istri {f : Addr} {fd : FuncData} {k : Nat} {tkD : Tok} (F : Fun K "is_triple" "is_triple" sIsTri f fd) (ml : mg "len" = none) (mD : mg "MOST_DEPTH" = some (.int 3 tkD)) : FnOk P w K mg base CX0 (k + 1) f fd ["colours", "triple"] (spIsTri K) := by
  refine F.ok scIsTri (fun vs H Q E h => ?_) (fun cdv A outer s H vs Q E hr h => ?_)
  · obtain ⟨a, cs, v, t, rfl, _⟩ := h
    rfl
  · obtain ⟨a, cs, v, t, rfl, ha, ⟨tp, rfl, htp⟩, hG, q⟩ := h
    refine ⟨_, pss_cons (ps_if (pt_cmpR op_ne (pe_callB call_lenQ (by rfl) ml PySem.boot_len (pa_cons (pv 1) pa_nil)) pe_int (nomark _)) (pss_one (ps_ret pe_bl)) pss_nil)
      (pss_cons (ps_asg (pv 1) (pg_tup rfl (pgs_cons (pg_name (i := 2) scIsTri.nd rfl (.inl rfl)) (pgs_cons (pg_name (i := 3) scIsTri.nd rfl (.inl rfl)) (pgs_cons (pg_name (i := 4) scIsTri.nd rfl (.inl rfl)) pgs_nil)))))
      (pss_one (ps_ret (pe_and (pe_chain op_le op_lt pe_int (pv 2) (pe_callB call_lenQ (by rfl) ml PySem.boot_len (pa_cons (pv 0) pa_nil)))
        (pe_and (pe_chain op_le op_lt pe_int (pv 3) (pe_ix ix_seq (pv 0) (pv 2) (fun _ _ => rfl))) (pe_one (pe_chain op_le op_le pe_int (pv 4) (pe_glob (v := .int 3) (by rfl) mD ⟨_, rfl⟩)))))))), ?_⟩
    refine ⟨.ref tp, rfl, tp, _, rfl, .inr htp, rfl, _, rfl, iteNS rfl ?_⟩
    refine ⟨.ref tp, rfl, tp, _, rfl, htp, rfl, _, _, rfl, _, _, rfl, _, _, rfl, rfl, ?_⟩
    have d1 : decide ((0 : Int) ≤ t.1) = true := decide_eq_true hG.p0
    have d2 : decide (t.1 < (((cs.map V.int).length : Nat) : Int)) = true := decide_eq_true (by rw [List.length_map]; exact hG.p1)
    have d3 : decide ((0 : Int) ≤ t.2.1) = true := decide_eq_true hG.n0
    have d4 : decide (t.2.1 < cs.getD t.1.toNat 0) = true := decide_eq_true hG.n1
    have d5 : decide ((1 : Int) ≤ t.2.2) = true := decide_eq_true hG.d0
    have d6 : decide (t.2.2 ≤ (3 : Int)) = true := decide_eq_true hG.d1
    have hp0 := hG.p0
    have hp1 := hG.p1
    have e0 : ((t.1.toNat : Nat) : Int) = t.1 := Int.toNat_of_nonneg hp0
    have hi : t.1.toNat < cs.length := by omega
    have hread : ∀ Q : VK, Q (.int (cs.getD t.1.toNat 0)) H → rIx K (.ref a) (.int t.1) H Q := fun Q z => by
      have g := cs_at hi
      rw [e0] at g
      rcases ha with ha | ha
      · exact .inl ⟨a, _, _, _, rfl, rfl, ha, g, z⟩
      · exact .inr (.inl ⟨a, _, _, _, rfl, rfl, ha, g, z⟩)
    refine ⟨.int t.1, rfl, 0, t.1, rfl, rfl, _, rfl, ?_⟩
    rw [d1]
    refine iteT ⟨.ref a, rfl, a, _, rfl, ha, t.1, _, rfl, rfl, _, rfl, ?_⟩
    rw [d2]
    refine iteT ⟨.int t.2.1, rfl, 0, t.2.1, rfl, rfl, _, rfl, ?_⟩
    rw [d3]
    refine iteT ⟨.ref a, rfl, .int t.1, rfl, hread _ ⟨t.2.1, _, rfl, rfl, _, rfl, ?_⟩⟩
    rw [d4]
    refine iteT ⟨.int t.2.2, rfl, 1, t.2.2, rfl, rfl, _, rfl, ?_⟩
    rw [d5]
    refine iteT ⟨t.2.2, 3, rfl, rfl, ?_⟩
    show Q (V.bl (decide (t.2.2 ≤ (3 : Int)))) H
    rw [d6]
    exact q _ (Same.refl _)
end
def spIsFig (K : PySem.W.Frag) : Sp := fun vs H Q _ => ∃ (a : Addr) (cs : List Int) (v : V) (f : List Tri), vs = [.ref a, v] ∧ (SqL K H a (cs.map V.int) ∨ SqT K H a (cs.map V.int)) ∧ FigT K H v f ∧ GoodF cs f ∧ f.length ≤ 100 ∧ ∀ H', Same H H' → Q (.bl true) H'
abbrev nIsFig : List Str := ["colours", "figure", "pads", "triple", "pad", "later"]
theorem scIsFig : FnScope nIsFig ["colours", "figure"] (defScope sIsFig) := ⟨rfl, rfl, rfl, by decide +kernel, rfl, by decide +kernel, by decide +kernel⟩
section
variable {P : Program} {w : World} {K : PySem.W.Frag} {mg : Str → Option Value} {base : Heap}
theorem ok_isfig {f fT fP : Addr} {fd fdT fdP : FuncData} {k : Nat} {tkD : Tok} (F : Fun K "is_figure" "is_figure" sIsFig f fd) (ml : mg "len" = none) (ma : mg "all" = none) (mz : mg "zip" = none) (mD : mg "MOST_DEPTH" = some (.int 3 tkD))
    (FT : Fun K "is_triple" "is_triple" sIsTri fT fdT) (bT : Binds K fdT ["colours", "triple"] []) (gT : mg "is_triple" = some (.ref fT))
    (FP : Fun K "pads_of" "pads_of" sPadsOf fP fdP) (bP : Binds K fdP ["figure"] []) (gP : mg "pads_of" = some (.ref fP)) : FnOk P w K mg base CX0 (k + 2) f fd ["colours", "figure"] (spIsFig K) := by
  have GT : FnOk P w K mg base CX0 (k + 1) fT fdT ["colours", "triple"] (spIsTri K) := ok_istri FT ml mD
  have GP : FnOk P w K mg base CX0 (k + 1) fP fdP ["figure"] (spPads K) := ok_padsof FP
  refine F.ok scIsFig (fun vs H Q E h => ?_) (fun cdv A outer s H vs Q E hr h => ?_)
  · obtain ⟨a, cs, v, f, rfl, _⟩ := h
    rfl
  · obtain ⟨a, cs, v, f, rfl, ha, hV, hG, hfl, q⟩ := h
    obtain ⟨b, xs, rfl, hb, hxs⟩ := id hV
    refine ⟨_, pss_cons (ps_if (PW.pt (pw_or (pt_cmpR op_eq (pe_callB call_lenQ (by rfl) ml PySem.boot_len (pa_cons (pv 1) pa_nil)) pe_int (nomark _))
        (pw_or1 (pt_not (pt_val (pe_callB (cr_all rfl) (by rfl) ma (by decide +kernel) (pa_cons (pe_lc (own := [("triple", 3)]) (g := gName 3) (tt := tYes) rfl scIsFig.nd (pi_tup (pv 1))
          (blkOk_by (own := [("triple", 3)]) (N := nIsFig) (sc := defScope sIsFig) (by decide +kernel)) (fun _ _ _ _ _ => pg_name (i := 3) scIsFig.nd rfl (.inl rfl)) (fun _ _ _ _ _ => pts_nil)
          (fun _ _ _ _ _ => pe_call GT hr (by rfl) gT FT.kp bT .nil pass0 (pa_cons (pv 0) (pa_cons (pv 3) pa_nil)))) pa_nil))))))) (pss_one (ps_ret pe_bl)) pss_nil)
      (pss_cons (ps_set (i := 2) scIsFig.nd rfl (.inl rfl) (pe_call GP hr (by rfl) gP FP.kp bP .nil pass0 (pa_cons (pv 1) pa_nil)))
      (pss_one (ps_ret (pe_callB (cr_all rfl) (by rfl) ma (by decide +kernel) (pa_cons (pe_lc (own := [("pad", 4), ("later", 5)]) (g := g2 K 4 5) (tt := tYes) rfl scIsFig.nd (pi_zip (by rfl) mz (pa_cons (pv 2) (pa_cons (pe_slice sl_list (pv 2) (po_some pe_int) po_none) pa_nil)))
        (blkOk_by (own := [("pad", 4), ("later", 5)]) (N := nIsFig) (sc := defScope sIsFig) (by decide +kernel))
        (fun _ _ _ _ _ => pg_tup rfl (pgs_cons (pg_name (i := 4) scIsFig.nd rfl (.inl rfl)) (pgs_cons (pg_name (i := 5) scIsFig.nd rfl (.inl rfl)) pgs_nil))) (fun _ _ _ _ _ => pts_nil)
        (fun _ _ _ _ _ => pe_cmpR op_lt (pv 4) (pv 5) (nomark _))) pa_nil))))), ?_⟩
    have hlen : 0 < f.length := List.length_pos_iff.mpr hG.ne
    have hxl := hxs.len
    refine ⟨.ref b, rfl, b, _, rfl, .inr hb, rfl, _, rfl, ?_⟩
    rw [decide_eq_false (fun z => by have := V.int.inj z; omega)]
    refine iteF ?_
    refine ⟨.ref b, rfl, b, rfl, ⟨_, hb⟩, fun D nD => ?_⟩
    refine lc_tup (K := K) (a := b) (xs := xs) (fun i H' => Same H H' ∧ H' D = some (.lst ((List.replicate i true).map V.bl))) ⟨same_upd nD, upd_same⟩ (fun i H' _ hP => Same.tup hP.1 hb) (fun i x H' hx hP => ?_) (fun H1 hP => ?_)
    · obtain ⟨sm, hD⟩ := hP
      obtain ⟨t, ht, htp⟩ := hxs.get hx
      have hi : i < xs.length := (List.getElem?_eq_some_iff.mp hx).1
      refine ⟨rfl, yesT ⟨.ref a, rfl, x, rfl, a, cs, x, t, rfl, same_any sm ha, htp.ts (TS.of sm), hG.all t (List.mem_of_getElem? ht), fun H2 s2 => ⟨_, s2 _ _ hD, ?_, Same.offUpd (sm.trans s2) nD, ?_⟩⟩⟩
      · rw [List.length_map, List.length_replicate]
        exact small1000 (by omega)
      · rw [upd_same, List.replicate_succ', List.map_append]
        rfl
    · obtain ⟨s1, hD⟩ := hP
      refine ⟨D, _, rfl, SqL.of hD, ?_⟩
      rw [show (List.replicate xs.length true).all id = true by simp]
      refine ⟨_, rfl, iteF ?_⟩
      refine ⟨_, rfl, _, f, rfl, hV.ts (TS.of s1), hfl, fun H2 p s2 _ hp => ?_⟩
      refine ⟨.ref p, rfl, .ref p, rfl, 1, rfl, p, _, rfl, SqL.of hp, fun p2 np2 => ?_⟩
      rw [show (some (1 : Int)) = some ((1 : Nat) : Int) from rfl, cutV_from]
      have s3 := same_upd (o := .lst (((f.map (·.1)).map V.int).drop 1)) np2
      refine ⟨p, p2, _, _, rfl, SqL.of (s3 _ _ hp), SqL.of upd_same, fun D2 nD2 => ?_⟩
      have hp3 := s3 _ _ hp
      have hp23 : (upd H2 p2 (.lst (((f.map (·.1)).map V.int).drop 1))) p2 = some (.lst (((f.map (·.1)).map V.int).drop 1)) := upd_same
      have s123 := (s1.trans s2).trans s3
      generalize upd H2 p2 (.lst (((f.map (·.1)).map V.int).drop 1)) = H3 at hp3 hp23 s123 nD2 ⊢
      refine lc_it (walk_zip (K := K) (a := p) (b := p2) (xs := (f.map (·.1)).map V.int) (ys := ((f.map (·.1)).map V.int).drop 1) rfl) (fun i H' => Same H3 H' ∧ H' D2 = some (.lst ((List.replicate i true).map V.bl))) ⟨same_upd nD2, upd_same⟩ (fun i H' _ hP => ⟨SqL.of (hP.1 _ _ hp3), SqL.of (hP.1 _ _ hp23)⟩) (fun i v H' H'' hi hP hY => ?_) (fun H4 hP => ?_)
      · obtain ⟨sm, hD2⟩ := hP
        obtain ⟨T, x, y, rfl, nT, rfl, hx, hy⟩ := hY
        have u1 := same_upd (o := .tup [x, y]) nT
        rw [List.length_drop, List.length_map, List.length_map] at hi
        have h1 : i < (f.map (·.1)).length := by rw [List.length_map]; omega
        have h2 : i + 1 < (f.map (·.1)).length := by rw [List.length_map]; omega
        have ex : x = .int (f.map (·.1))[i] := by
          have hx : ((f.map (·.1)).map V.int)[i]? = some x := hx
          rw [List.getElem?_map, List.getElem?_eq_getElem h1] at hx
          exact (Option.some.inj hx).symm
        have ey : y = .int (f.map (·.1))[i + 1] := by
          have hy : (((f.map (·.1)).map V.int).drop 1)[i]? = some y := hy
          rw [List.getElem?_drop, Nat.add_comm 1 i, List.getElem?_map, List.getElem?_eq_getElem h2] at hy
          exact (Option.some.inj hy).symm
        have hlt := List.pairwise_iff_getElem.mp hG.up i (i + 1) h1 h2 (Nat.lt_succ_self i)
        have hD2' := u1 _ _ hD2
        refine ⟨T, [x, y], rfl, SqT.of upd_same, rfl, x, _, rfl, y, _, rfl, rfl, rfl, yesT ⟨x, rfl, y, rfl, _, _, ex, ey, ?_⟩⟩
        refine ⟨_, hD2', ?_, Same.offUpd (sm.trans u1) nD2, ?_⟩
        · rw [List.length_map, List.length_replicate]
          exact small1000 (by omega)
        · rw [upd_same, List.replicate_succ', List.map_append]
          show some (HO.lst (_ ++ [V.bl (decide ((f.map (·.1))[i] < (f.map (·.1))[i + 1]))])) = _
          rw [decide_eq_true hlt]
          rfl
      · obtain ⟨sm, hD2⟩ := hP
        refine ⟨D2, _, rfl, SqL.of hD2, ?_⟩
        have e : (List.replicate (min ((f.map (·.1)).map V.int).length (((f.map (·.1)).map V.int).drop 1).length) true).all id = true := by simp
        rw [e]
        exact q _ (s123.trans sm)
end
/-! ### check_colours, check_figures, check_meetings, copy_of_figure -/
def GoodC (cs : List Int) : Prop := 1 ≤ cs.length ∧ cs.length ≤ 6 ∧ ∀ x ∈ cs, (1 : Int) ≤ x ∧ x ≤ 4
def spCCol (K : PySem.W.Frag) : Sp := fun vs H Q _ => ∃ (a : Addr) (cs : List Int), vs = [.ref a] ∧ SqL K H a (cs.map V.int) ∧ GoodC cs ∧ ∀ H', Same H H' → Q .non H'
abbrev nCCol : List Str := ["colours", "at", "many"]
theorem scCCol : FnScope nCCol ["colours"] (defScope sCCol) := ⟨rfl, rfl, rfl, by decide +kernel, rfl, by decide +kernel, by decide +kernel⟩
section
variable {P : Program} {w : World} {K : PySem.W.Frag} {mg : Str → Option Value} {base : Heap}
theorem ok_ccol {f : Addr} {fd : FuncData} {k : Nat} {tkP tkC : Tok} (F : Fun K "check_colours" "check_colours" sCCol f fd) (ml : mg "len" = none) (me : mg "enumerate" = none) (mP : mg "MOST_PADS" = some (.int 6 tkP)) (mC : mg "MOST_COLOURS" = some (.int 4 tkC)) : FnOk P w K mg base CX0 (k + 1) f fd ["colours"] (spCCol K) := by
  refine F.ok scCCol (fun vs H Q E h => ?_) (fun cdv A outer s H vs Q E hr h => ?_)
  · obtain ⟨a, cs, rfl, _⟩ := h
    rfl
  · obtain ⟨a, cs, rfl, ha, hG, q⟩ := h
    refine ⟨_, pss_cons (ps_if (pt_not (pt_chain op_le op_le pe_int (pe_callB call_lenQ (by rfl) ml PySem.boot_len (pa_cons (pv 0) pa_nil)) (pe_glob (v := .int 6) (by rfl) mP ⟨_, rfl⟩))) (pss_one ps_never) pss_nil)
      (pss_one (ps_for PassesOwn.never rfl (pi_enum (by rfl) me (pa_cons (pv 0) pa_nil)) (pg_tup rfl (pgs_cons (pg_name (i := 1) scCCol.nd rfl (.inl rfl)) (pgs_cons (pg_name (i := 2) scCCol.nd rfl (.inl rfl)) pgs_nil)))
        (pss_one (ps_if (pt_not (pt_chain op_le op_le pe_int (pv 2) (pe_glob (v := .int 4) (by rfl) mC ⟨_, rfl⟩))) (pss_one ps_never) pss_nil)))), ?_⟩
    obtain ⟨h1, h6, hc⟩ := hG
    have d1 : decide ((1 : Int) ≤ (((cs.map V.int).length : Nat) : Int)) = true := decide_eq_true (by rw [List.length_map]; omega)
    have d2 : (((cs.map V.int).length : Nat) : Int) ≤ (6 : Int) := by rw [List.length_map]; omega
    refine ⟨.ref a, rfl, a, _, rfl, .inl ha, 1, _, rfl, rfl, _, rfl, ?_⟩
    rw [d1]
    refine iteT ⟨_, 6, rfl, rfl, _, rfl, iteNS d2 ?_⟩
    refine ⟨.ref a, rfl, a, _, rfl, ha, ?_⟩
    refine for_it (walk_enum (K := K) (a := a) (xs := cs.map V.int)) (fun i σ H' => ∃ (y1 y2 : Option V), σ = [some (.ref a), y1, y2] ∧ Same H H') ⟨none, none, rfl, Same.refl H⟩ (fun i σ H' _ hP => ?_) (fun i v σ H' H'' hi hP hY => ?_) (fun σ H' hP => ?_)
    · obtain ⟨_, _, _, sm⟩ := hP
      exact sm.seq ha
    · obtain ⟨y1, y2, rfl, sm⟩ := hP
      obtain ⟨T, x, y, rfl, nT, rfl, hx, hy⟩ := hY
      have u1 := same_upd (o := .tup [x, y]) nT
      rw [List.length_map] at hi
      have ey : y = .int cs[i] := by
        have hy : (cs.map V.int)[i]? = some y := hy
        rw [List.getElem?_map, List.getElem?_eq_getElem hi] at hy
        exact (Option.some.inj hy).symm
      subst ey
      have hci := hc _ (List.getElem_mem hi)
      refine ⟨T, _, rfl, SqT.of upd_same, rfl, x, _, rfl, _, _, rfl, rfl, ?_⟩
      refine ⟨_, rfl, 1, cs[i], rfl, rfl, _, rfl, ?_⟩
      rw [decide_eq_true hci.1]
      exact iteT ⟨cs[i], 4, rfl, rfl, _, rfl, iteNS hci.2 ⟨_, _, rfl, sm.trans u1⟩⟩
    · obtain ⟨y1, y2, rfl, sm⟩ := hP
      exact q _ sm
end
def spCFig (K : PySem.W.Frag) : Sp := fun vs H Q _ => ∃ (a b : Addr) (cs : List Int) (xs : List V) (fs : List (List Tri)), vs = [.ref a, .ref b] ∧ (SqL K H a (cs.map V.int) ∨ SqT K H a (cs.map V.int)) ∧ SqL K H b xs ∧ All2 (FigT K H) xs fs ∧ GoodB cs fs ∧ cs.length ≤ 6 ∧ ∀ H', Same H H' → Q .non H'
abbrev nCFig : List Str := ["colours", "figures", "at", "figure"]
theorem scCFig : FnScope nCFig ["colours", "figures"] (defScope sCFig) := ⟨rfl, rfl, rfl, by decide +kernel, rfl, by decide +kernel, by decide +kernel⟩
section
variable {P : Program} {w : World} {K : PySem.W.Frag} {mg : Str → Option Value} {base : Heap}
theorem ok_cfig {f fI : Addr} {fd fdI : FuncData} {k : Nat} (F : Fun K "check_figures" "check_figures" sCFig f fd) (me : mg "enumerate" = none)
    (FI : Fun K "is_figure" "is_figure" sIsFig fI fdI) (bI : Binds K fdI ["colours", "figure"] []) (gI : mg "is_figure" = some (.ref fI)) (GI : FnOk P w K mg base CX0 k fI fdI ["colours", "figure"] (spIsFig K)) : FnOk P w K mg base CX0 (k + 1) f fd ["colours", "figures"] (spCFig K) := by
  refine F.ok scCFig (fun vs H Q E h => ?_) (fun cdv A outer s H vs Q E hr h => ?_)
  · obtain ⟨a, b, cs, xs, fs, rfl, _⟩ := h
    rfl
  · obtain ⟨a, b, cs, xs, fs, rfl, ha, hb, hA, hG, h6, q⟩ := h
    refine ⟨_, pss_one (ps_for PassesOwn.never rfl (pi_enum (by rfl) me (pa_cons (pv 1) pa_nil)) (pg_tup rfl (pgs_cons (pg_name (i := 2) scCFig.nd rfl (.inl rfl)) (pgs_cons (pg_name (i := 3) scCFig.nd rfl (.inl rfl)) pgs_nil)))
        (pss_one (ps_if (pt_not (pt_val (pe_call GI hr (by rfl) gI FI.kp bI .nil pass0 (pa_cons (pv 0) (pa_cons (pv 3) pa_nil))))) (pss_one ps_never) pss_nil))), ?_⟩
    refine ⟨.ref b, rfl, b, _, rfl, hb, ?_⟩
    refine for_it (walk_enum (K := K) (a := b) (xs := xs)) (fun i σ H' => ∃ (y1 y2 : Option V), σ = [some (.ref a), some (.ref b), y1, y2] ∧ Same H H') ⟨none, none, rfl, Same.refl H⟩ (fun i σ H' _ hP => ?_) (fun i v σ H' H'' hi hP hY => ?_) (fun σ H' hP => ?_)
    · obtain ⟨_, _, _, sm⟩ := hP
      exact sm.seq hb
    · obtain ⟨y1, y2, rfl, sm⟩ := hP
      obtain ⟨T, x, y, rfl, nT, rfl, hx, hy⟩ := hY
      have u1 := same_upd (o := .tup [x, y]) nT
      have s1 := sm.trans u1
      obtain ⟨g, hg, hgT⟩ := hA.get hy
      have hgG := hG.all g (List.mem_of_getElem? hg)
      have hgl := hgG.len
      refine ⟨T, _, rfl, SqT.of upd_same, rfl, x, _, rfl, y, _, rfl, rfl, ?_⟩
      refine ⟨_, rfl, y, rfl, a, cs, y, g, rfl, same_any s1 ha, hgT.ts (TS.of s1), hgG, by omega, fun H2 s2 => ⟨_, rfl, iteF ⟨_, _, rfl, s1.trans s2⟩⟩⟩
    · obtain ⟨y1, y2, rfl, sm⟩ := hP
      exact q _ sm
end
def spCMeet (K : PySem.W.Frag) : Sp := fun vs H Q _ => ∃ (b : Addr) (cs : List Int) (xs : List V) (fs : List (List Tri)), vs = [.ref b] ∧ SqL K H b xs ∧ All2 (FigT K H) xs fs ∧ GoodB cs fs ∧ cs.length ≤ 6 ∧ fs.length ≤ 100 ∧ ∀ H', Same H H' → Q .non H'
abbrev nCMeet : List Str := ["figures", "masks", "one", "figure", "other"]
theorem scCMeet : FnScope nCMeet ["figures"] (defScope sCMeet) := ⟨rfl, rfl, rfl, by decide +kernel, rfl, by decide +kernel, by decide +kernel⟩
section
variable {P : Program} {w : World} {K : PySem.W.Frag} {mg : Str → Option Value} {base : Heap}
theorem ok_cmeet {f fM fB : Addr} {fd fdM fdB : FuncData} {k : Nat} (F : Fun K "check_meetings" "check_meetings" sCMeet f fd) (me : mg "enumerate" = none) (mr : mg "range" = none) (ml : mg "len" = none)
    (FM : Fun K "mask_of" "mask_of" sMask fM fdM) (bM : Binds K fdM ["figure"] []) (gM : mg "mask_of" = some (.ref fM)) (GM : FnOk P w K mg base CX0 k fM fdM ["figure"] (spMask K))
    (FB : Fun K "bar" "bar" sBar fB fdB) (bB : Binds K fdB ["one", "other"] []) (gB : mg "bar" = some (.ref fB)) (GB : FnOk P w K mg base CX0 k fB fdB ["one", "other"] (spBar K)) : FnOk P w K mg base CX0 (k + 1) f fd ["figures"] (spCMeet K) := by
  refine F.ok scCMeet (fun vs H Q E h => ?_) (fun cdv A outer s H vs Q E hr h => ?_)
  · obtain ⟨b, cs, xs, fs, rfl, _⟩ := h
    rfl
  · obtain ⟨b, cs, xs, fs, rfl, hb, hA, hG, h6, hfl, q⟩ := h
    refine ⟨_, pss_cons (ps_setLc (i := 1) (own := [("figure", 3)]) (g := gName 3) (tt := tYes) rfl scCMeet.nd rfl rfl (sw_true rfl rfl rfl (by decide +kernel)) (pi_list (pv 0)) (blkOk_by (own := [("figure", 3)]) (N := nCMeet) (sc := defScope sCMeet) (by decide +kernel)) (fun _ _ _ _ _ => pg_name (i := 3) scCMeet.nd rfl (.inl rfl)) (fun _ _ _ _ _ => pts_nil) (fun _ _ _ _ _ => pe_call GM hr (by rfl) gM FM.kp bM .nil pass0 (pa_cons (pv 3) pa_nil)))
      (pss_one (ps_for PassesOwn.never rfl (pi_enum (by rfl) me (pa_cons (pv 0) pa_nil)) (pg_tup (by rfl) (pgs_cons (pg_name (i := 2) scCMeet.nd rfl (.inl rfl)) (pgs_cons (pg_name (i := 3) scCMeet.nd rfl (.inl rfl)) pgs_nil))) (pss_one (ps_for PassesOwn.never rfl (pi_range2 (by rfl) mr (pa_cons (pe_op op_add (pv 2) pe_int) (pa_cons (pe_callB call_lenQ (by rfl) ml PySem.boot_len (pa_cons (pv 0) pa_nil)) pa_nil))) (pg_name (i := 4) scCMeet.nd rfl (.inl rfl)) (pss_one (ps_if (PW.pt (pw_and (pt_cmpR op_ne (pe_op op_and (pe_ix ix_list (pv 1) (pv 2) (fun _ _ => rfl)) (pe_ix ix_list (pv 1) (pv 4) (fun _ _ => rfl))) pe_int (nomark _)) (pw_and1 (pt_not (pt_val (pe_call GB hr (by rfl) gB FB.kp bB .nil pass0 (pa_cons (pv 3) (pa_cons (pe_ix ix_list (pv 0) (pv 4) (fun _ _ => rfl)) pa_nil)))))))) (pss_one ps_never) pss_nil)))))), ?_⟩
    have hxl := hA.len
    refine ⟨.ref b, rfl, b, rfl, ⟨_, hb⟩, fun D nD => ?_⟩
    refine lc_list (K := K) (a := b) (xs := xs) (fun i H' => Same H H' ∧ H' D = some (.lst ((fs.take i).map fun f => V.int (maskN f : Nat)))) ⟨same_upd nD, upd_same⟩ (fun i H' _ hP => hP.1.seq hb) (fun i x H' hx hP => ?_) (fun H0 hP => ?_)
    · obtain ⟨sm, hD⟩ := hP
      obtain ⟨g, hg, hgT⟩ := hA.get hx
      have hgG := hG.all g (List.mem_of_getElem? hg)
      have hgl := hgG.len
      refine ⟨rfl, yesT ⟨x, rfl, x, g, rfl, hgT.ts (TS.of sm), by omega, hgG.padsUp h6, fun H2 s2 => ⟨_, s2 _ _ hD, ?_, Same.offUpd (sm.trans s2) nD, ?_⟩⟩⟩
      · rw [List.length_map, List.length_take]
        exact small1000 (by omega)
      · rw [upd_same, take_snoc hg, List.map_append]
        rfl
    obtain ⟨s0, hD⟩ := hP
    rw [hxl, List.take_length] at hD
    have hmk : ∀ (i : Nat) (f : List Tri), fs[i]? = some f → atI (fs.map fun f => V.int (maskN f : Nat)) (i : Int) = some (.int (maskN f : Nat)) := fun i f e => atI_nat (by rw [List.getElem?_map, e]; rfl)
    refine ⟨.ref b, rfl, b, _, rfl, s0.seq hb, ?_⟩
    refine for_it (walk_enum (K := K) (a := b) (xs := xs)) (fun i σ H' => ∃ (y1 y2 y3 : Option V), σ = [some (.ref b), some (.ref D), y1, y2, y3] ∧ Same H0 H') ⟨none, none, none, rfl, Same.refl H0⟩ (fun i σ H' _ hP => ?_) (fun i v σ H' H'' hi hP hY => ?_) (fun σ H' hP => ?_)
    · obtain ⟨_, _, _, _, sm⟩ := hP
      exact (s0.trans sm).seq hb
    · obtain ⟨y1, y2, y3, rfl, sm⟩ := hP
      obtain ⟨T, x, y, rfl, nT, rfl, hx, hy⟩ := hY
      have u1 := same_upd (o := .tup [x, y]) nT
      have s1 := sm.trans u1
      have ex : x = .int (i : Nat) := (Option.some.inj hx).symm
      subst ex
      obtain ⟨g, hg, hgT⟩ := hA.get hy
      have hgG := hG.all g (List.mem_of_getElem? hg)
      have hgl := hgG.len
      refine ⟨T, _, rfl, SqT.of upd_same, rfl, _, _, rfl, y, _, rfl, rfl, ?_⟩
      generalize upd H' T (.tup [.int (i : Nat), y]) = H1 at s1 ⊢
      refine ⟨_, rfl, _, _, rfl, rfl, .ref b, rfl, b, _, rfl, .inl ((s0.trans s1).seq hb), (i : Int) + 1, ((xs.length : Nat) : Int), rfl, ⟨by omega, by omega, by omega, by omega⟩, ?_⟩
      refine for_range (lo := (i : Int) + 1) (n := (((xs.length : Nat) : Int) - ((i : Int) + 1)).toNat) (fun j σ H' => ∃ (y3 : Option V), σ = [some (.ref b), some (.ref D), some (.int (i : Nat)), some y, y3] ∧ Same H0 H') ⟨_, rfl, s1⟩ ?_ ?_
      · rintro j σ H2 hj ⟨y3, rfl, sm2⟩
        have hj2 : i + 1 + j < xs.length := by omega
        have ej : (i : Int) + 1 + (j : Int) = ((i + 1 + j : Nat) : Int) := by omega
        obtain ⟨g2, hg2, hgT2⟩ := hA.get (List.getElem?_eq_getElem hj2)
        have hgG2 := hG.all g2 (List.mem_of_getElem? hg2)
        have hgl2 := hgG2.len
        have hix : atI xs ((i : Int) + 1 + (j : Int)) = some xs[i + 1 + j] := by
          rw [ej]
          exact atI_nat (List.getElem?_eq_getElem hj2)
        have hm2 := hmk _ _ hg2
        rw [← ej] at hm2
        have hD2 := sm2 _ _ hD
        refine ⟨.ref D, rfl, .int (i : Nat), rfl, D, _, _, _, rfl, rfl, SqL.of hD2, hmk _ _ hg, .ref D, rfl, .int ((i : Int) + 1 + (j : Int)), rfl, D, _, _, _, rfl, rfl, SqL.of hD2, hm2, _, _, rfl, rfl, rfl, _, rfl, ?_⟩
        rw [mask_test (hgG.padsUp h6) (hgG2.padsUp h6)]
        have s02 := s0.trans sm2
        refine ite2 (fun e => ?_) (fun e => ?_)
        · refine ⟨y, rfl, .ref b, rfl, .int ((i : Int) + 1 + (j : Int)), rfl, b, xs, _, _, rfl, rfl, s02.seq hb, hix, y, _, g, g2, rfl, hgT.ts (TS.of s02), hgT2.ts (TS.of s02), by omega, by omega, fun H4 s4 => ⟨_, rfl, ?_⟩⟩
          rw [hG.pair (by omega) hg hg2 e]
          exact iteF ⟨_, rfl, sm2.trans s4⟩
        · exact iteF ⟨_, rfl, sm2⟩
      · rintro σ H2 ⟨y3, rfl, sm2⟩
        exact ⟨_, _, _, rfl, sm2⟩
    · obtain ⟨y1, y2, y3, rfl, sm⟩ := hP
      exact q _ (s0.trans sm)
end
def spCopyF (K : PySem.W.Frag) : Sp := fun vs H Q _ => ∃ (v : V) (f : List Tri), vs = [v] ∧ FigT K H v f ∧ f.length ≤ 100 ∧ ∀ H' u, Same H H' → FigT K H' u f → Q u H'
abbrev nCopyF : List Str := ["figure", "triple"]
theorem scCopyF : FnScope nCopyF ["figure"] (defScope sCopyF) := ⟨rfl, rfl, rfl, by decide +kernel, rfl, by decide +kernel, by decide +kernel⟩
section
variable {P : Program} {w : World} {K : PySem.W.Frag} {mg : Str → Option Value} {base : Heap}
theorem ok_copyf {f : Addr} {fd : FuncData} {k : Nat} (F : Fun K "copy_of_figure" "copy_of_figure" sCopyF f fd) (mt : mg "tuple" = none) : FnOk P w K mg base CX0 (k + 1) f fd ["figure"] (spCopyF K) := by
  refine F.ok scCopyF (fun vs H Q E h => ?_) (fun cdv A outer s H vs Q E hr h => ?_)
  · obtain ⟨v, f, rfl, _⟩ := h
    rfl
  · obtain ⟨v, f, rfl, hV, hfl, q⟩ := h
    obtain ⟨a, xs, rfl, ha, hxs⟩ := hV
    refine ⟨_, pss_one (ps_ret (pe_callTy call_tupS (by rfl) mt (by decide +kernel) (pa_cons (pe_lc (own := [("triple", 1)]) (g := gName 1) (tt := tYes) rfl scCopyF.nd (pi_tup (pv 0))
        (blkOk_by (own := [("triple", 1)]) (N := nCopyF) (sc := defScope sCopyF) (by decide +kernel)) (fun _ _ _ _ _ => pg_name (i := 1) scCopyF.nd rfl (.inl rfl)) (fun _ _ _ _ _ => pts_nil)
        (fun _ _ _ _ _ => pe_callTy (r := rTupS K) call_tupS (by rfl) mt (by decide +kernel) (pa_cons (pv 1) pa_nil))) pa_nil))), ?_⟩
    refine ⟨.ref a, rfl, a, rfl, ⟨_, ha⟩, fun D nD => ?_⟩
    refine lc_tup (K := K) (a := a) (xs := xs) (fun i H' => Same H H' ∧ ∃ zs, H' D = some (.lst zs) ∧ All2 (TriAt K H') zs (f.take i)) ⟨same_upd nD, [], upd_same, True.intro⟩ (fun i H' _ hP => Same.tup hP.1 ha) (fun i x H' hx hP => ?_) (fun H1 hP => ?_)
    · obtain ⟨sm, zs, hD, hz⟩ := hP
      obtain ⟨t, ht, tp, rfl, htp⟩ := hxs.get hx
      refine ⟨rfl, yesT ⟨.ref tp, rfl, tp, _, rfl, .inr (Same.tup sm htp), fun l H2 s2 hl => ?_⟩⟩
      have hD2 := s2 _ _ hD
      refine ⟨_, hD2, ?_, Same.offUpd (sm.trans s2) nD, zs ++ [.ref l], upd_same, ?_⟩
      · rw [hz.len, List.length_take]
        exact small1000 (by omega)
      · rw [take_snoc ht]
        exact All2.snoc ⟨l, rfl, TS.upd hD2 _ _ hl⟩ (hz.mono fun _ _ => TriAt.ts ((TS.of s2).trans (TS.upd hD2)))
    · obtain ⟨sm, zs, hD, hz⟩ := hP
      rw [hxs.len, List.take_length] at hz
      refine ⟨D, _, rfl, .inl (SqL.of hD), fun l H2 s2 hl => ?_⟩
      exact q _ _ (sm.trans s2) ⟨l, zs, rfl, hl, hz.mono fun _ _ => TriAt.ts (TS.of s2)⟩
end
/-! ### Book.__init__ -/
def bkF (a b : Addr) : List (Str × V) := [("palette", .ref a), ("shapes", .ref b)]
def BookAt (K : PySem.W.Frag) (C : Addr) (H : Hp) (p : Addr) (cs : List Int) (fs : List (List Tri)) : Prop :=
  ∃ (dx a b : Addr) (xs : List V), H p = some (.ins C dx (bkF a b)) ∧ SqT K H a (cs.map V.int) ∧ SqT K H b xs ∧ All2 (FigT K H) xs fs
theorem BookAt.same {K : PySem.W.Frag} {C : Addr} {H H' : Hp} {p : Addr} {cs : List Int} {fs : List (List Tri)} (h : BookAt K C H p cs fs) (e : Same H H') : BookAt K C H' p cs fs := by
  obtain ⟨dx, a, b, xs, h1, h2, h3, h4⟩ := h
  exact ⟨dx, a, b, xs, e _ _ h1, Same.tup e h2, Same.tup e h3, h4.mono fun _ _ => FigT.ts (TS.of e)⟩
structure BkTxt (K : PySem.W.Frag) (mg : Str → Option Value) (C : Addr) : Prop where
  cl : Cls K C
  nP : NoAttr K C "palette"
  nS : NoAttr K C "shapes"
  mgC : mg "Book" = some (.ref C)
def spInit (K : PySem.W.Frag) (C : Addr) : Sp := fun vs H Q _ => ∃ (p dx a b : Addr) (cs : List Int) (xs : List V) (fs : List (List Tri)), vs = [.ref p, .ref a, .ref b] ∧ H p = some (.ins C dx []) ∧ SqL K H a (cs.map V.int) ∧ SqL K H b xs ∧ All2 (FigT K H) xs fs ∧ GoodC cs ∧ GoodB cs fs ∧ fs.length ≤ 12 ∧
  ∀ H', Off p H H' → BookAt K C H' p cs fs → Q .non H'
abbrev nInit : List Str := ["self", "colours", "figures", "figure"]
theorem scInit : FnScope nInit ["self", "colours", "figures"] (defScope sInit) := ⟨rfl, rfl, rfl, by decide +kernel, rfl, by decide +kernel, by decide +kernel⟩
theorem TS.ins {K : PySem.W.Frag} {H H' : Hp} {p C dx : Addr} {fs : List (Str × V)} (e : Off p H H') (h : H p = some (.ins C dx fs)) : TS K H H' := fun a xs q => by
  rcases q with (q | ⟨o, q⟩) | q
  · exact .inl (.inl (e _ _ (fun z => by rw [z, h] at q; cases q) q))
  · exact .inl (.inr ⟨o, e _ _ (fun z => by rw [z, h] at q; cases q) q⟩)
  · exact .inr q
theorem seqL_off {K : PySem.W.Frag} {H H' : Hp} {p C dx b : Addr} {fs : List (Str × V)} {xs : List V} (e : Off p H H') (h : H p = some (.ins C dx fs)) (q : SqL K H b xs) : SqL K H' b xs := by
  rcases q with (q | ⟨o, q⟩) | q
  · exact .inl (.inl (e _ _ (fun z => by rw [z, h] at q; cases q) q))
  · exact .inl (.inr ⟨o, e _ _ (fun z => by rw [z, h] at q; cases q) q⟩)
  · exact .inr q
section
variable {P : Program} {w : World} {K : PySem.W.Frag} {mg : Str → Option Value} {base : Heap}
theorem ok_init {f C f1 f2 f3 f4 : Addr} {fd fd1 fd2 fd3 fd4 : FuncData} {k : Nat} {tkF : Tok} {kws : List (Str × V)} (F : FunD K "__init__" "Book.__init__" (defArgs sInit) (defBody sInit) (defScope sInit) [] kws f fd) (T : BkTxt K mg C)
    (ml : mg "len" = none) (mt : mg "tuple" = none) (mF : mg "MOST_FIGURES" = some (.int 12 tkF))
    (F1 : Fun K "check_colours" "check_colours" sCCol f1 fd1) (b1 : Binds K fd1 ["colours"] []) (g1 : mg "check_colours" = some (.ref f1)) (G1 : FnOk P w K mg base CX0 k f1 fd1 ["colours"] (spCCol K))
    (F2 : Fun K "check_figures" "check_figures" sCFig f2 fd2) (b2 : Binds K fd2 ["colours", "figures"] []) (g2 : mg "check_figures" = some (.ref f2)) (G2 : FnOk P w K mg base CX0 k f2 fd2 ["colours", "figures"] (spCFig K))
    (F3 : Fun K "check_meetings" "check_meetings" sCMeet f3 fd3) (b3 : Binds K fd3 ["figures"] []) (g3 : mg "check_meetings" = some (.ref f3)) (G3 : FnOk P w K mg base CX0 k f3 fd3 ["figures"] (spCMeet K))
    (F4 : Fun K "copy_of_figure" "copy_of_figure" sCopyF f4 fd4) (b4 : Binds K fd4 ["figure"] []) (g4 : mg "copy_of_figure" = some (.ref f4)) (G4 : FnOk P w K mg base CX0 k f4 fd4 ["figure"] (spCopyF K)) :
    FnOk P w K mg base CX0 (k + 1) f fd ["self", "colours", "figures"] (spInit K C) := by
  refine F.ok (CX := CX0) scInit (fun vs H Q E h => ?_) (fun cdv A outer s H vs Q E hr h => ?_)
  · obtain ⟨p, dx, a, b, cs, xs, fs, rfl, _⟩ := h
    rfl
  · obtain ⟨p, dx, a, b, cs, xs, fs, rfl, hp, ha, hb, hA, hC, hG, h12, q⟩ := h
    refine ⟨_, PSs.nox (pss_cons (ps_expr (pe_call G1 hr (by rfl) g1 F1.kp b1 .nil pass0 (pa_cons (pv 1) pa_nil)))
      (pss_cons (ps_if (pt_cmpR op_gt (pe_callB call_lenQ (by rfl) ml PySem.boot_len (pa_cons (pv 2) pa_nil)) (pe_glob (v := .int 12) (by rfl) mF ⟨_, rfl⟩) (nomark _)) (pss_one ps_never) pss_nil)
      (pss_cons (ps_expr (pe_call G2 hr (by rfl) g2 F2.kp b2 .nil pass0 (pa_cons (pv 1) (pa_cons (pv 2) pa_nil))))
      (pss_cons (ps_expr (pe_call G3 hr (by rfl) g3 F3.kp b3 .nil pass0 (pa_cons (pv 2) pa_nil)))
      (pss_cons (ps_fld (pv 0) (pe_callTy call_tupS (by rfl) mt (by decide +kernel) (pa_cons (pv 1) pa_nil)) rfl)
      (pss_one (ps_fld (pv 0) (pe_callTy call_tupS (by rfl) mt (by decide +kernel) (pa_cons (pe_lc (own := [("figure", 3)]) (g := gName 3) (tt := tYes) rfl scInit.nd (pi_list (pv 2))
        (blkOk_by (own := [("figure", 3)]) (N := nInit) (sc := defScope sInit) (by decide +kernel)) (fun _ _ _ _ _ => pg_name (i := 3) scInit.nd rfl (.inl rfl)) (fun _ _ _ _ _ => pts_nil)
        (fun _ _ _ _ _ => pe_call G4 hr (by rfl) g4 F4.kp b4 .nil pass0 (pa_cons (pv 3) pa_nil))) pa_nil)) rfl))))))), ?_⟩
    have hxl := hA.len
    refine ⟨.ref a, rfl, a, cs, rfl, ha, hC, fun H1 s1 => ?_⟩
    refine ⟨.ref b, rfl, b, _, rfl, .inl (s1.seq hb), _, 12, rfl, rfl, _, rfl, ?_⟩
    rw [decide_eq_false (show ¬ (12 : Int) < ((xs.length : Nat) : Int) by omega)]
    refine iteF ?_
    refine ⟨.ref a, rfl, .ref b, rfl, a, b, cs, xs, fs, rfl, .inl (s1.seq ha), s1.seq hb, hA.mono fun _ _ => FigT.ts (TS.of s1), hG, hC.2.1, fun H2 s2 => ?_⟩
    have s12 := s1.trans s2
    refine ⟨.ref b, rfl, b, cs, xs, fs, rfl, s12.seq hb, hA.mono fun _ _ => FigT.ts (TS.of s12), hG, hC.2.1, by omega, fun H3 s3 => ?_⟩
    have s13 := s12.trans s3
    refine ⟨.ref a, rfl, a, _, rfl, .inl (s13.seq ha), fun a2 H4 s4 ha2 => ?_⟩
    have s14 := s13.trans s4
    have hp4 := s14 _ _ hp
    refine ⟨.ref p, rfl, p, C, dx, [], rfl, hp4, T.cl, T.nP, (show 0 < 1000 by decide), ?_⟩
    have off5 : Off p H4 (upd H4 p (.ins C dx (putF "palette" (.ref a2) []))) := Off.upd
    have hp5 : (upd H4 p (.ins C dx (putF "palette" (.ref a2) []))) p = some (.ins C dx [("palette", .ref a2)]) := upd_same
    have hb5 := seqL_off off5 hp4 (s14.seq hb)
    have ts5 : TS K H (upd H4 p (.ins C dx (putF "palette" (.ref a2) []))) := (TS.of s14).trans (TS.ins off5 hp4)
    have ha5 : SqT K (upd H4 p (.ins C dx (putF "palette" (.ref a2) []))) a2 (cs.map V.int) := TS.ins off5 hp4 _ _ ha2
    have off15 : Off p H (upd H4 p (.ins C dx (putF "palette" (.ref a2) []))) := (Off.same s14).trans off5
    generalize upd H4 p (.ins C dx (putF "palette" (.ref a2) [])) = H5 at off5 hp5 hb5 ts5 ha5 off15 ⊢
    have hA5 := hA.mono fun _ _ => FigT.ts ts5
    refine ⟨.ref b, rfl, b, rfl, ⟨_, hb5⟩, fun D nD => ?_⟩
    refine lc_list (K := K) (a := b) (xs := xs) (fun i H' => Same H5 H' ∧ ∃ zs, H' D = some (.lst zs) ∧ All2 (FigT K H') zs (fs.take i)) ⟨same_upd nD, [], upd_same, True.intro⟩ (fun i H' _ hP => hP.1.seq hb5) (fun i x H' hx hP => ?_) (fun H6 hP => ?_)
    · obtain ⟨sm, zs, hD, hz⟩ := hP
      obtain ⟨g, hg, hgT⟩ := hA5.get hx
      have hgl := (hG.all g (List.mem_of_getElem? hg)).len
      have := hC.2.1
      refine ⟨rfl, yesT ⟨x, rfl, x, g, rfl, hgT.ts (TS.of sm), by omega, fun H7 u s7 hu => ?_⟩⟩
      have hD7 := s7 _ _ hD
      refine ⟨_, hD7, ?_, Same.offUpd (sm.trans s7) nD, zs ++ [u], upd_same, ?_⟩
      · rw [hz.len, List.length_take]
        exact small1000 (by omega)
      · rw [take_snoc hg]
        exact All2.snoc (hu.ts (TS.upd hD7)) (hz.mono fun _ _ => FigT.ts ((TS.of s7).trans (TS.upd hD7)))
    · obtain ⟨sm, zs, hD, hz⟩ := hP
      rw [hxl, List.take_length] at hz
      refine ⟨D, _, rfl, .inl (SqL.of hD), fun l H7 s7 hl => ?_⟩
      have s57 := sm.trans s7
      have hp7 := s57 _ _ hp5
      refine ⟨.ref p, rfl, p, C, dx, _, rfl, hp7, T.cl, T.nS, (show 1 < 1000 by decide), ?_⟩
      have off8 : Off p H7 (upd H7 p (.ins C dx (putF "shapes" (.ref l) [("palette", .ref a2)]))) := Off.upd
      refine q _ ((off15.trans (Off.same s57)).trans off8) ⟨dx, a2, l, zs, upd_same, ?_, TS.ins off8 hp7 _ _ hl, hz.mono fun _ _ => FigT.ts ((TS.of s7).trans (TS.ins off8 hp7))⟩
      exact TS.ins off8 hp7 _ _ (Same.tup s57 ha5)
end
/-! ### figures as they are handed in: tuples of any lengths -/
def TupZ (K : PySem.W.Frag) (H : Hp) (v : V) (t : List Int) : Prop := ∃ a, v = .ref a ∧ SqT K H a (t.map V.int)
theorem TupZ.ts {K : PySem.W.Frag} {H H' : Hp} (e : TS K H H') {v : V} {t : List Int} (h : TupZ K H v t) : TupZ K H' v t := by
  obtain ⟨a, h1, h2⟩ := h
  exact ⟨a, h1, e _ _ h2⟩
abbrev RF := List (List Int)
def RFigT (K : PySem.W.Frag) (H : Hp) (v : V) (f : RF) : Prop := ∃ a xs, v = .ref a ∧ SqT K H a xs ∧ All2 (TupZ K H) xs f
theorem RFigT.ts {K : PySem.W.Frag} {H H' : Hp} (e : TS K H H') {v : V} {f : RF} (h : RFigT K H v f) : RFigT K H' v f := by
  obtain ⟨a, xs, h1, h2, h3⟩ := h
  exact ⟨a, xs, h1, e _ _ h2, h3.mono fun _ _ => TupZ.ts e⟩
def RFigL (K : PySem.W.Frag) (H : Hp) (v : V) (f : RF) : Prop := ∃ a xs, v = .ref a ∧ SqL K H a xs ∧ All2 (TupZ K H) xs f
theorem RFigL.same {K : PySem.W.Frag} {H H' : Hp} (e : Same H H') {v : V} {f : RF} (h : RFigL K H v f) : RFigL K H' v f := by
  obtain ⟨a, xs, h1, h2, h3⟩ := h
  exact ⟨a, xs, h1, e.seq h2, h3.mono fun _ _ => TupZ.ts (TS.of e)⟩
/-- a list of good triples -/
def FigL (K : PySem.W.Frag) (H : Hp) (v : V) (f : List Tri) : Prop := ∃ a xs, v = .ref a ∧ SqL K H a xs ∧ All2 (TriAt K H) xs f
theorem FigL.same {K : PySem.W.Frag} {H H' : Hp} (e : Same H H') {v : V} {f : List Tri} (h : FigL K H v f) : FigL K H' v f := by
  obtain ⟨a, xs, h1, h2, h3⟩ := h
  exact ⟨a, xs, h1, e.seq h2, h3.mono fun _ _ => TriAt.ts (TS.of e)⟩
def triB (cs : List Int) : List Int → Bool
  | [p, n, d] => decide (0 ≤ p) && (decide (p < cs.length) && (decide (0 ≤ n) && (decide (n < cs.getD p.toNat 0) && (decide (1 ≤ d) && decide (d ≤ 3)))))
  | _ => false
def toTri : List Int → Tri
  | [p, n, d] => (p, n, d)
  | _ => (0, 0, 0)
theorem triB_ok {cs t : List Int} (h : triB cs t = true) : ∃ p n d, t = [p, n, d] ∧ GoodT cs (p, n, d) := by
  unfold triB at h
  split at h
  · rename_i p n d
    simp only [Bool.and_eq_true, decide_eq_true_eq] at h
    obtain ⟨h1, h2, h3, h4, h5, h6⟩ := h
    exact ⟨p, n, d, rfl, h1, h2, h3, h4, h5, h6⟩
  · cases h
def risesFrom (last : Int) : List Int → Bool
  | [] => true
  | p :: r => decide (last < p) && risesFrom p r
/-- good triples whose pads rise, above last -/
def wellGo (cs : List Int) (last : Int) : RF → Bool
  | [] => true
  | t :: r => triB cs t && (decide (last < (toTri t).1) && wellGo cs (toTri t).1 r)
def figB (cs : List Int) (f : RF) : Bool := decide (f ≠ []) && wellGo cs (-1) f
theorem wellGo_eq (cs : List Int) : ∀ (f : RF) (last : Int), wellGo cs last f = (f.all (triB cs) && risesFrom last (f.map fun t => (toTri t).1))
  | [], _ => rfl
  | t :: r, last => by
    unfold wellGo
    rw [wellGo_eq cs r, List.all_cons, List.map_cons]
    show _ = (triB cs t && r.all (triB cs) && (decide (last < (toTri t).1) && risesFrom (toTri t).1 (r.map fun t => (toTri t).1)))
    cases triB cs t <;> cases r.all (triB cs) <;> cases decide (last < (toTri t).1) <;> cases risesFrom (toTri t).1 (r.map fun t => (toTri t).1) <;> rfl
theorem rises_pair : ∀ (l : List Int) (last : Int), risesFrom last l = true → (last :: l).Pairwise (· < ·)
  | [], _, _ => List.pairwise_singleton _ _
  | p :: r, last, h => by
    obtain ⟨h1, h2⟩ := Bool.and_eq_true_iff.mp (show (decide (last < p) && risesFrom p r) = true from h)
    have h3 := rises_pair r p h2
    have h4 := of_decide_eq_true h1
    refine List.pairwise_cons.mpr ⟨fun x hx => ?_, h3⟩
    rcases List.mem_cons.mp hx with rfl | hx
    · exact h4
    · exact Int.lt_trans h4 ((List.pairwise_cons.mp h3).1 x hx)
theorem figB_good {cs : List Int} {f : RF} (h : figB cs f = true) : GoodF cs (f.map toTri) ∧ ∀ t ∈ f, ∃ p n d, t = [p, n, d] := by
  obtain ⟨h1, h2⟩ := Bool.and_eq_true_iff.mp h
  rw [wellGo_eq] at h2
  obtain ⟨h3, h4⟩ := Bool.and_eq_true_iff.mp h2
  have a := List.all_eq_true.mp h3
  refine ⟨⟨fun z => of_decide_eq_true h1 (List.map_eq_nil_iff.mp z), fun u hu => ?_, ?_⟩, fun t ht => ?_⟩
  · obtain ⟨t, ht, rfl⟩ := List.mem_map.mp hu
    obtain ⟨p, n, d, rfl, g⟩ := triB_ok (a t ht)
    exact g
  · rw [List.map_map]
    exact (List.pairwise_cons.mp (rises_pair _ _ h4)).2
  · obtain ⟨p, n, d, e, _⟩ := triB_ok (a t ht)
    exact ⟨p, n, d, e⟩
theorem tris_of {K : PySem.W.Frag} {H : Hp} : ∀ {xs : List V} {f : RF}, All2 (TupZ K H) xs f → (∀ t ∈ f, ∃ p n d, t = [p, n, d]) → All2 (TriAt K H) xs (f.map toTri)
  | [], [], _, _ => True.intro
  | x :: xs, t :: f, h, g => by
    obtain ⟨p, n, d, rfl⟩ := g t (List.mem_cons_self ..)
    obtain ⟨a, e, ha⟩ := h.1
    exact ⟨⟨a, e, ha⟩, tris_of h.2 fun t ht => g t (List.mem_cons_of_mem _ ht)⟩
  | [], _ :: _, h, _ => h.elim
  | _ :: _, [], h, _ => h.elim
/-! the first that is not so -/
def FirstNo {α : Type} (p : α → Prop) (l : List α) (i : Nat) : Prop := (∃ x, l[i]? = some x ∧ ¬ p x) ∧ ∀ (j : Nat) (x : α), j < i → l[j]? = some x → p x
theorem FirstNo.uniq {α : Type} {p : α → Prop} {l : List α} {i j : Nat} (h : FirstNo p l i) (g : FirstNo p l j) : i = j := by
  obtain ⟨⟨x, x1, x2⟩, x3⟩ := h
  obtain ⟨⟨y, y1, y2⟩, y3⟩ := g
  rcases Nat.lt_trichotomy i j with z | z | z
  · exact absurd (y3 i x z x1) x2
  · exact z
  · exact absurd (x3 j y z y1) y2
theorem FirstNo.not {α : Type} {p : α → Prop} {l : List α} {i : Nat} (h : FirstNo p l i) (g : ∀ x ∈ l, p x) : False := by
  obtain ⟨⟨x, x1, x2⟩, _⟩ := h
  exact x2 (g x (List.mem_of_getElem? x1))
def mtB (fs : List RF) (i j : Nat) : Bool := okB ((fs.getD i []).map toTri) ((fs.getD j []).map toTri)
/-- the first two that meet and do not bar -/
def FirstM (fs : List RF) (i j : Nat) : Prop := (i < j ∧ j < fs.length ∧ mtB fs i j = false) ∧ ∀ i' j', i' < j' → j' < fs.length → (i' < i ∨ (i' = i ∧ j' < j)) → mtB fs i' j' = true
theorem FirstM.uniq {fs : List RF} {i j i' j' : Nat} (h : FirstM fs i j) (g : FirstM fs i' j') : i = i' ∧ j = j' := by
  obtain ⟨⟨h1, h2, h3⟩, h4⟩ := h
  obtain ⟨⟨g1, g2, g3⟩, g4⟩ := g
  have a : ¬ (i < i' ∨ (i = i' ∧ j < j')) := fun z => by
    have := g4 i j h1 h2 z
    rw [h3] at this
    cases this
  have b : ¬ (i' < i ∨ (i' = i ∧ j' < j)) := fun z => by
    have := h4 i' j' g1 g2 z
    rw [g3] at this
    cases this
  omega
def NoneM (fs : List RF) : Prop := ∀ i j, i < j → j < fs.length → mtB fs i j = true
theorem FirstM.not {fs : List RF} {i j : Nat} (h : FirstM fs i j) (g : NoneM fs) : False := by
  obtain ⟨⟨h1, h2, h3⟩, _⟩ := h
  have := g i j h1 h2
  rw [h3] at this
  cases this
abbrev colOk (x : Int) : Prop := 1 ≤ x ∧ x ≤ 4
/-- what is due of a book: none, or the refusal's number and values -/
inductive DueR (cs : List Int) (fs : List RF) : Option (Nat × List Int) → Prop
  | many (h : ¬ (1 ≤ cs.length ∧ cs.length ≤ 6)) : DueR cs fs (some (0, [-1]))
  | col (i : Nat) (h : 1 ≤ cs.length ∧ cs.length ≤ 6) (g : FirstNo colOk cs i) : DueR cs fs (some (0, [(i : Int)]))
  | figs (h : GoodC cs) (g : 12 < fs.length) : DueR cs fs (some (3, [12]))
  | fig (i : Nat) (h : GoodC cs) (g : fs.length ≤ 12) (e : FirstNo (fun f => figB cs f = true) fs i) : DueR cs fs (some (1, [(i : Int)]))
  | meet (i j : Nat) (h : GoodC cs) (g : fs.length ≤ 12) (e : ∀ f ∈ fs, figB cs f = true) (m : FirstM fs i j) : DueR cs fs (some (2, [(i : Int), (j : Int)]))
  | none (h : GoodC cs) (g : fs.length ≤ 12) (e : ∀ f ∈ fs, figB cs f = true) (m : NoneM fs) : DueR cs fs Option.none
theorem DueR.uniq {cs : List Int} {fs : List RF} {o o' : Option (Nat × List Int)} (h : DueR cs fs o) (g : DueR cs fs o') : o = o' := by
  have nc : ∀ {i}, FirstNo colOk cs i → GoodC cs → False := fun f c => f.not c.2.2
  cases h with
  | many h =>
    cases g with
    | many => rfl
    | col i h' => exact absurd h' h
    | figs c => exact absurd ⟨c.1, c.2.1⟩ h
    | fig i c => exact absurd ⟨c.1, c.2.1⟩ h
    | meet i j c => exact absurd ⟨c.1, c.2.1⟩ h
    | none c => exact absurd ⟨c.1, c.2.1⟩ h
  | col i h f =>
    cases g with
    | many h' => exact absurd h h'
    | col j h' f' => rw [f.uniq f']
    | figs c => exact (nc f c).elim
    | fig j c => exact (nc f c).elim
    | meet j k c => exact (nc f c).elim
    | none c => exact (nc f c).elim
  | figs c n =>
    cases g with
    | many h' => exact absurd ⟨c.1, c.2.1⟩ h'
    | col j h' f' => exact (nc f' c).elim
    | figs => rfl
    | fig j c' n' => omega
    | meet j k c' n' => omega
    | none c' n' => omega
  | fig i c n f =>
    cases g with
    | many h' => exact absurd ⟨c.1, c.2.1⟩ h'
    | col j h' f' => exact (nc f' c).elim
    | figs c' n' => omega
    | fig j c' n' f' => rw [f.uniq f']
    | meet j k c' n' e' => exact (f.not e').elim
    | none c' n' e' => exact (f.not e').elim
  | meet i j c n e m =>
    cases g with
    | many h' => exact absurd ⟨c.1, c.2.1⟩ h'
    | col j h' f' => exact (nc f' c).elim
    | figs c' n' => omega
    | fig j c' n' f' => exact (f'.not e).elim
    | meet i' j' c' n' e' m' =>
      obtain ⟨rfl, rfl⟩ := m.uniq m'
      rfl
    | none c' n' e' m' => exact (m.not m').elim
  | none c n e m =>
    cases g with
    | many h' => exact absurd ⟨c.1, c.2.1⟩ h'
    | col j h' f' => exact (nc f' c).elim
    | figs c' n' => omega
    | fig j c' n' f' => exact (f'.not e).elim
    | meet i' j' c' n' e' m' => exact (m'.not m).elim
    | none => rfl
theorem DueR.shape {cs : List Int} {fs : List RF} {i : Nat} {ws : List Int} (h : DueR cs fs (some (i, ws))) : i < 28 ∧ ws.length = (rFl i).length ∧ rNm i ≠ "told" := by
  cases h <;> exact ⟨by decide, rfl, by decide +kernel⟩
theorem same_ref {H H2 : Hp} {d : Addr} (h1 : H d = none) (h2 : ∀ b, b ≠ d → H b ≠ none → H2 b = H b) : Same H H2 := fun b o e => by
  rw [h2 b (ne_of_none e h1) (by rw [e]; simp)]
  exact e
/-- the refusal i with these numbers -/
def refuseN (i : Nat) (C : Addr) (ws : List Int) (H : Hp) (E : XK) : Prop := ∀ (d : Addr) (H' : Hp), Same H H' → H' d = some (.xd (rFs i (ws.map V.int))) → E (.ref C) (some d) H'
theorem refuseN.later {i : Nat} {C : Addr} {ws : List Int} {H H1 : Hp} {E : XK} (h : refuseN i C ws H E) (s : Same H H1) : refuseN i C ws H1 E := fun d H' s' hd => h d H' (s.trans s') hd
abbrev exc1 (i : Nat) (nm fl : Str) (C : Addr) (P : Program) (w : World) (K : PySem.W.Frag) (mg : Str → Option Value) (base : Heap) (k : Nat) : Prop := ExcK P w K mg base k nm C 1 (fun ws => [(fl, ws.getD 0 .non), ("word", .str nm)])
/-! ### Book.pads; Book.shape with its refusal; Book.meet with it -/
theorem bkF_shapesX (a b : Addr) : List.lookup (Str.ofString "shapes") (bkF a b) = some (V.ref b) := rfl
theorem scPadsM : FnScope ["self"] ["self"] (defScope sPadsM) := ⟨rfl, rfl, rfl, by decide +kernel, rfl, by decide +kernel, by decide +kernel⟩
def spPadsM (K : PySem.W.Frag) (C : Addr) : Sp := fun vs H Q _ => ∃ (p : Addr) (cs : List Int) (fs : List (List Tri)), vs = [.ref p] ∧ BookAt K C H p cs fs ∧ Q (.int (cs.length : Nat)) H
abbrev nShpX : List Str := ["self", "at"]
theorem scShpX : FnScope nShpX ["self", "at"] (defScope sShpX) := ⟨rfl, rfl, rfl, by decide +kernel, rfl, by decide +kernel, by decide +kernel⟩
/-- NoFigure is the refusal 24 -/
def spShpX (K : PySem.W.Frag) (C CN : Addr) : Sp := fun vs H Q E => ∃ (p : Addr) (cs : List Int) (fs : List (List Tri)) (z : Int), vs = [.ref p, .int z] ∧ BookAt K C H p cs fs ∧ (∀ i : Nat, z = (i : Int) → i < fs.length → ∀ v, FigT K H v (fs.getD i []) → Q v H) ∧ (¬ (0 ≤ z ∧ z < (fs.length : Nat)) → refuseN 24 CN [z] H E)
section
variable {P : Program} {w : World} {K : PySem.W.Frag} {mg : Str → Option Value} {base : Heap}
theorem ok_padsM {f C : Addr} {fd : FuncData} {k : Nat} (F : Fun K "pads" "Book.pads" sPadsM f fd) (T : BkTxt K mg C) (ml : mg "len" = none) : FnOk P w K mg base CX0 (k + 1) f fd ["self"] (spPadsM K C) := by
  refine F.ok scPadsM (fun vs H Q E h => ?_) (fun cdv A outer s H vs Q E hr h => ?_)
  · obtain ⟨p, cs, fs, rfl, _⟩ := h
    rfl
  · obtain ⟨p, cs, fs, rfl, ⟨dx, a, b, xs, hp, ha, hb, hA⟩, q⟩ := h
    refine ⟨_, pss_one (ps_ret (pe_callB call_lenQ (by rfl) ml PySem.boot_len (pa_cons (pe_fld (pv 0) rfl) pa_nil))), ?_⟩
    refine ⟨.ref p, rfl, p, C, dx, _, _, rfl, hp, T.cl, T.nP, rfl, a, _, rfl, .inr ha, ?_⟩
    rw [List.length_map]
    exact q
theorem ok_shpX {f C CN : Addr} {fd : FuncData} {k : Nat} (F : Fun K "shape" "Book.shape" sShpX f fd) (T : BkTxt K mg C) (ml : mg "len" = none) (R : exc1 24 "NoFigure" "figure" CN P w K mg base k) : FnOk P w K mg base (L2.CX P w) (k + 2) f fd ["self", "at"] (spShpX K C CN) := by
  refine F.okX scShpX (fun vs H Q E h => ?_) (fun cdv A outer s H vs Q E hr h => ?_)
  · obtain ⟨p, cs, fs, z, rfl, _⟩ := h
    rfl
  · obtain ⟨p, cs, fs, z, rfl, ⟨dx, a, b, xs, hp, ha, hb, hA⟩, q, q1⟩ := h
    refine ⟨_, pss_cons (ps_if (pt_not (pt_chain op_le op_lt pe_int (pv 1) (pe_callB call_lenQ (by rfl) ml PySem.boot_len (pa_cons (pe_fld (pv 0) rfl) pa_nil)))) (pss_one (ps_raise rfl (takes_of rfl rfl rfl rfl) (pmk_ref R hr (by rfl) (pa_cons (pv 1) pa_nil)))) pss_nil)
      (pss_one (ps_ret (pe_ix ix_tup (pe_fld (pv 0) rfl) (pv 1) (fun _ _ => rfl)))), ?_⟩
    have hxl := hA.len
    have bad : ¬ (0 ≤ z ∧ z < (fs.length : Nat)) → ∀ σ : L2.St, σ[1]? = some (some (.int z)) → tRef CN 1 (fun ws => [("figure", ws.getD 0 .non), ("word", .str "NoFigure")]) (tCons (tVar 1) tNil) σ H fun cls d H' => E cls d H' := fun e σ hσ =>
      ⟨.int z, hσ, rfl, (show (1 : Nat) ≤ 1000 by decide), fun dd H2 h1 h2 h3 => q1 e dd H2 (same_ref h1 h2) h3⟩
    refine ⟨.int z, rfl, 0, z, rfl, rfl, _, rfl, ?_⟩
    by_cases e0 : 0 ≤ z
    rotate_left
    · rw [decide_eq_false e0]
      exact iteF ⟨_, rfl, iteT (bad (fun y => e0 y.1) _ rfl)⟩
    rw [decide_eq_true e0]
    refine iteT ⟨.ref p, rfl, p, C, dx, _, _, rfl, hp, T.cl, T.nS, bkF_shapesX a b, b, _, rfl, .inr hb, z, _, rfl, rfl, _, rfl, ?_⟩
    by_cases e1 : z < ((xs.length : Nat) : Int)
    rotate_left
    · rw [decide_eq_false e1]
      exact iteT (bad (fun y => e1 (by rw [hxl]; exact y.2)) _ rfl)
    rw [decide_eq_true e1]
    obtain ⟨i, rfl⟩ : ∃ i : Nat, z = (i : Int) := ⟨z.toNat, by omega⟩
    have hi2 : i < xs.length := by omega
    obtain ⟨g, hg, hgT⟩ := hA.get (List.getElem?_eq_getElem hi2)
    refine iteF ⟨.ref p, rfl, p, C, dx, _, _, rfl, hp, T.cl, T.nS, bkF_shapesX a b, .int (i : Nat), rfl, b, xs, _, xs[i], rfl, rfl, hb, atI_nat (List.getElem?_eq_getElem hi2), ?_⟩
    refine q i rfl (by omega) _ ?_
    rw [List.getD_eq_getElem?_getD, hg]
    exact hgT
end
theorem getD_len100 {fs : List (List Tri)} (h : ∀ f ∈ fs, f.length ≤ 100) (i : Nat) : (fs.getD i []).length ≤ 100 := by
  rw [List.getD_eq_getElem?_getD]
  cases e : fs[i]? with
  | none => exact Nat.zero_le _
  | some f => exact h f (List.mem_of_getElem? e)
abbrev sMeetX : Stmt := inClass (topS 38) 5
abbrev nMeetX : List Str := ["self", "one", "other"]
theorem scMeetX : FnScope nMeetX ["self", "one", "other"] (defScope sMeetX) := ⟨rfl, rfl, rfl, by decide +kernel, rfl, by decide +kernel, by decide +kernel⟩
def spMeetX (K : PySem.W.Frag) (C CN : Addr) : Sp := fun vs H Q E => ∃ (p : Addr) (cs : List Int) (fs : List (List Tri)) (y z : Int), vs = [.ref p, .int y, .int z] ∧ BookAt K C H p cs fs ∧ (∀ f ∈ fs, f.length ≤ 100) ∧ (∀ f ∈ fs, PadsUp f) ∧ (∀ i j : Nat, y = (i : Int) → z = (j : Int) → i < fs.length → j < fs.length → ∀ H', Same H H' → Q (.bl (meetB (fs.getD i []) (fs.getD j []))) H') ∧ (¬ (0 ≤ y ∧ y < (fs.length : Nat)) → refuseN 24 CN [y] H E) ∧ (0 ≤ y ∧ y < (fs.length : Nat) → ¬ (0 ≤ z ∧ z < (fs.length : Nat)) → refuseN 24 CN [z] H E)
theorem getD_pads {fs : List (List Tri)} (h : ∀ f ∈ fs, PadsUp f) {i : Nat} (hi : i < fs.length) : PadsUp (fs.getD i []) := by
  rw [List.getD_eq_getElem?_getD, List.getElem?_eq_getElem hi]
  exact h _ (List.getElem_mem hi)
section
variable {P : Program} {w : World} {K : PySem.W.Frag} {mg : Str → Option Value} {base : Heap}
theorem ok_meetX {f C CN fS fM : Addr} {fd fdS fdM : FuncData} {k : Nat} (F : Fun K "meet" "Book.meet" sMeetX f fd) (T : BkTxt K mg C)
    (bS : Binds K fdS ["self", "at"] []) (mS : Meth K C "shape" fS) (GS : FnOk P w K mg base (L2.CX P w) (k + 1) fS fdS ["self", "at"] (spShpX K C CN))
    (FM : Fun K "mask_of" "mask_of" sMask fM fdM) (bM : Binds K fdM ["figure"] []) (gM : mg "mask_of" = some (.ref fM)) (GM : FnOk P w K mg base CX0 (k + 1) fM fdM ["figure"] (spMask K)) :
    FnOk P w K mg base (L2.CX P w) (k + 2) f fd ["self", "one", "other"] (spMeetX K C CN) := by
  refine F.okX scMeetX (fun vs H Q E h => ?_) (fun cdv A outer s H vs Q E hr h => ?_)
  · obtain ⟨p, cs, fs, y, z, rfl, _⟩ := h
    rfl
  · obtain ⟨p, cs, fs, y, z, rfl, hK, hl, hU, q, q1, q2⟩ := h
    obtain ⟨dx, a, b, xs, hp, ha, hb, hA⟩ := id hK
    refine ⟨_, pss_one (ps_ret (pe_cmpR op_ne (pe_op op_and (pe_call GM hr (by rfl) gM FM.kp bM .nil pass0 (pa_cons (pe_meth (pv 0) T.cl mS GS hr bS .nil (passes_call (takes_of rfl rfl rfl rfl) (fun _ _ _ _ h => h)) (pa_cons (pv 1) pa_nil)) pa_nil)) (pe_call GM hr (by rfl) gM FM.kp bM .nil pass0 (pa_cons (pe_meth (pv 0) T.cl mS GS hr bS .nil (passes_call (takes_of rfl rfl rfl rfl) (fun _ _ _ _ h => h)) (pa_cons (pv 2) pa_nil)) pa_nil))) pe_int (nomark _))), ?_⟩
    refine ⟨.ref p, rfl, p, dx, _, rfl, hp, rfl, .int y, rfl, p, cs, fs, y, rfl, hK, fun i ey hi v hv => ?_, q1⟩
    refine ⟨v, _, rfl, hv, getD_len100 hl i, getD_pads hU hi, fun H1 s1 => ?_⟩
    refine ⟨.ref p, rfl, p, dx, _, rfl, s1 _ _ hp, rfl, .int z, rfl, p, cs, fs, z, rfl, hK.same s1, fun j ez hj u hu => ?_, fun e => (q2 (by omega) e).later s1⟩
    refine ⟨u, _, rfl, hu, getD_len100 hl j, getD_pads hU hj, fun H2 s2 => ?_⟩
    refine ⟨_, _, rfl, rfl, rfl, ?_⟩
    have := q i j ey ez hi hj _ (s1.trans s2)
    rw [← mask_test (getD_pads hU hi) (getD_pads hU hj)] at this
    exact this
end
/-! ### a book's colours, figures, how many it has -/
theorem scCols : FnScope ["self"] ["self"] (defScope sCols) := ⟨rfl, rfl, rfl, by decide +kernel, rfl, by decide +kernel, by decide +kernel⟩
abbrev sFigs : Stmt := inClass (topS 38) 3
theorem scFigs : FnScope ["self"] ["self"] (defScope sFigs) := ⟨rfl, rfl, rfl, by decide +kernel, rfl, by decide +kernel, by decide +kernel⟩
abbrev sBLen : Stmt := inClass (topS 38) 8
theorem scBLen : FnScope ["self"] ["self"] (defScope sBLen) := ⟨rfl, rfl, rfl, by decide +kernel, rfl, by decide +kernel, by decide +kernel⟩
def spCols (K : PySem.W.Frag) (C : Addr) : Sp := fun vs H Q _ => ∃ (p : Addr) (cs : List Int) (fs : List (List Tri)), vs = [.ref p] ∧ BookAt K C H p cs fs ∧ ∀ a, SqT K H a (cs.map V.int) → Q (.ref a) H
def spFigs (K : PySem.W.Frag) (C : Addr) : Sp := fun vs H Q _ => ∃ (p : Addr) (cs : List Int) (fs : List (List Tri)), vs = [.ref p] ∧ BookAt K C H p cs fs ∧ fs.length ≤ 1000 ∧ ∀ H' d xs, Same H H' → H d = none → H' d = some (.lst xs) → All2 (FigT K H') xs fs → Q (.ref d) H'
def spBLen (K : PySem.W.Frag) (C : Addr) : Sp := fun vs H Q _ => ∃ (p : Addr) (cs : List Int) (fs : List (List Tri)), vs = [.ref p] ∧ BookAt K C H p cs fs ∧ Q (.int (fs.length : Nat)) H
section
variable {P : Program} {w : World} {K : PySem.W.Frag} {mg : Str → Option Value} {base : Heap}
theorem ok_cols {f C : Addr} {fd : FuncData} {k : Nat} (F : Fun K "colours" "Book.colours" sCols f fd) (T : BkTxt K mg C) : FnOk P w K mg base CX0 (k + 1) f fd ["self"] (spCols K C) := by
  refine F.ok scCols (fun vs H Q E h => ?_) (fun cdv A outer s H vs Q E hr h => ?_)
  · obtain ⟨p, cs, fs, rfl, _⟩ := h
    rfl
  · obtain ⟨p, cs, fs, rfl, ⟨dx, a, b, xs, hp, ha, hb, hA⟩, q⟩ := h
    refine ⟨_, pss_one (ps_ret (pe_fld (pv 0) rfl)), ?_⟩
    exact ⟨.ref p, rfl, p, C, dx, _, _, rfl, hp, T.cl, T.nP, rfl, q a ha⟩
theorem ok_figs {f C : Addr} {fd : FuncData} {k : Nat} (F : Fun K "figures" "Book.figures" sFigs f fd) (T : BkTxt K mg C) (mli : mg "list" = none) : FnOk P w K mg base CX0 (k + 1) f fd ["self"] (spFigs K C) := by
  refine F.ok scFigs (fun vs H Q E h => ?_) (fun cdv A outer s H vs Q E hr h => ?_)
  · obtain ⟨p, cs, fs, rfl, _⟩ := h
    rfl
  · obtain ⟨p, cs, fs, rfl, ⟨dx, a, b, xs, hp, ha, hb, hA⟩, hl, q⟩ := h
    refine ⟨_, pss_one (ps_ret (pe_callTy call_list_of (by rfl) mli (by decide +kernel) (pa_cons (pe_fld (pv 0) rfl) pa_nil))), ?_⟩
    refine ⟨.ref p, rfl, p, C, dx, _, _, rfl, hp, T.cl, T.nS, rfl, b, xs, rfl, .inr hb, fun l nl => ?_⟩
    exact q _ l xs (same_upd nl) nl upd_same (hA.mono fun _ _ => FigT.ts (TS.of (same_upd nl)))
theorem ok_blen {f C : Addr} {fd : FuncData} {k : Nat} (F : Fun K "__len__" "Book.__len__" sBLen f fd) (T : BkTxt K mg C) (ml : mg "len" = none) : FnOk P w K mg base CX0 (k + 1) f fd ["self"] (spBLen K C) := by
  refine F.ok scBLen (fun vs H Q E h => ?_) (fun cdv A outer s H vs Q E hr h => ?_)
  · obtain ⟨p, cs, fs, rfl, _⟩ := h
    rfl
  · obtain ⟨p, cs, fs, rfl, ⟨dx, a, b, xs, hp, ha, hb, hA⟩, q⟩ := h
    refine ⟨_, pss_one (ps_ret (pe_callB call_lenQ (by rfl) ml PySem.boot_len (pa_cons (pe_fld (pv 0) rfl) pa_nil))), ?_⟩
    refine ⟨.ref p, rfl, p, C, dx, _, _, rfl, hp, T.cl, T.nS, bkF_shapesX a b, b, _, rfl, .inr hb, ?_⟩
    rw [hA.len]
    exact q
end
/-! ### tearboard.places: has_on_top, stands_at, standing_at, standing_on -/
abbrev Row2 := List Int × List Int
/-- the rows of a board: a tuple of rows as least_row tells them -/
def RowsT (K : PySem.W.Frag) (H : Hp) (p : Addr) (rs : List Row2) : Prop := ∃ xs, SqT K H p xs ∧ All2 (fun v r => ∃ a, v = .ref a ∧ RowAt K H a r.1 r.2) xs rs
theorem RowAt.ts {K : PySem.W.Frag} {H H' : Hp} {p : Addr} {c d : List Int} (h : RowAt K H p c d) (e : TS K H H') : RowAt K H' p c d := by
  obtain ⟨a, b, h1, h2, h3⟩ := h
  exact ⟨a, b, e _ _ h1, e _ _ h2, e _ _ h3⟩
theorem RowsT.ts {K : PySem.W.Frag} {H H' : Hp} {p : Addr} {rs : List Row2} (h : RowsT K H p rs) (e : TS K H H') : RowsT K H' p rs := by
  obtain ⟨xs, h1, h2⟩ := h
  exact ⟨xs, e _ _ h1, h2.mono fun v r ⟨a, e1, e2⟩ => ⟨a, e1, e2.ts e⟩⟩
/-- whether a row lets a triple stand at a place -/
def topOk (r : Row2) (n : Nat) (t : Tri) : Bool := decide ((r.2 ≠ [] ∨ (n : Int) + t.2.2 ≤ (r.1.length : Int)) ∧ seenO r.1 r.2 n = some t.2.1)
/-- whether a figure stands on these rows, from the top -/
def stM (rs : List Row2) (f : List Tri) : Bool := f.all fun t => topOk (rs.getD t.1.toNat ([], [])) 0 t
/-- the figures that stand -/
def upM (rs : List Row2) (fs : List (List Tri)) (n : Nat) : List Nat := (List.range n).filter fun i => stM rs (fs.getD i [])
abbrev sHot : Stmt := topS 64
abbrev nHot : List Str := ["row", "place", "note", "depth", "lead", "turn", "top"]
theorem scHot : FnScope nHot ["row", "place", "note", "depth"] (defScope sHot) := ⟨rfl, rfl, rfl, by decide +kernel, rfl, by decide +kernel, by decide +kernel⟩
def spHot (K : PySem.W.Frag) : Sp := fun vs H Q _ => ∃ (r : Addr) (c d : List Int) (n : Nat) (t : Tri), vs = [.ref r, .int (n : Nat), .int t.2.1, .int t.2.2] ∧ RowAt K H r c d ∧ 1 ≤ t.2.2 ∧ (d ≠ [] → n < c.length + d.length) ∧ Q (.bl (topOk (c, d) n t)) H
abbrev sSta : Stmt := topS 63
abbrev nSta : List Str := ["shape", "rows", "places", "pad", "note", "depth"]
theorem scSta : FnScope nSta ["shape", "rows", "places"] (defScope sSta) := ⟨rfl, rfl, rfl, by decide +kernel, rfl, by decide +kernel, by decide +kernel⟩
/-- rows and noughts as places -/
def spSta (K : PySem.W.Frag) : Sp := fun vs H Q _ => ∃ (v : V) (a z : Addr) (f : List Tri) (rs : List Row2), vs = [v, .ref a, .ref z] ∧ FigT K H v f ∧ RowsT K H a rs ∧ SqL K H z ((List.replicate rs.length (0 : Int)).map V.int) ∧ (∀ t ∈ f, 0 ≤ t.1 ∧ t.1 < rs.length ∧ 1 ≤ t.2.2) ∧ Q (.bl (stM rs f)) H
theorem topOk_of {c d : List Int} {n : Nat} {t : Tri} (h1 : d ≠ [] ∨ (n : Int) + t.2.2 ≤ (c.length : Int)) : topOk (c, d) n t = decide (seenO c d n = some t.2.1) := by
  unfold topOk
  exact decide_eq_decide.mpr ⟨fun h => h.2, fun h => ⟨h1, h⟩⟩
section
variable {P : Program} {w : World} {K : PySem.W.Frag} {mg : Str → Option Value} {base : Heap}
theorem ok_hot {f : Addr} {fd : FuncData} {k : Nat} (F : Fun K "has_on_top" "has_on_top" sHot f fd) (ml : mg "len" = none) : FnOk P w K mg base CX0 (k + 1) f fd ["row", "place", "note", "depth"] (spHot K) := by
  refine F.ok scHot (fun vs H Q E h => ?_) (fun cdv A outer s H vs Q E hr h => ?_)
  · obtain ⟨r, c, d, n, t, rfl, _⟩ := h
    rfl
  · obtain ⟨r, c, d, n, t, rfl, ⟨la, ta, hR, hL, hT⟩, hd, hn, q⟩ := h
    refine ⟨_, pss_cons (ps_asg (pv 0) (pg_tup (by rfl) (pgs_cons (pg_name (i := 4) scHot.nd rfl (.inl rfl)) (pgs_cons (pg_name (i := 5) scHot.nd rfl (.inl rfl)) pgs_nil))))
      (C8.pss_cut (ps_if (PW.pt (pw_and (pt_cmpR op_eq (pe_callB call_lenQ (by rfl) ml PySem.boot_len (pa_cons (pv 5) pa_nil)) pe_int (nomark _)) (pw_and1 (pt_cmpR op_gt (pe_op op_add (pv 1) (pv 3)) (pe_callB call_lenQ (by rfl) ml PySem.boot_len (pa_cons (pv 4) pa_nil)) (nomark _))))) (pss_one (ps_ret pe_bl)) pss_nil)
      (pss_cons (ps_set (i := 6) scHot.nd rfl (.inl rfl) (pe_ifExp (pt_cmpR op_lt (pv 1) (pe_callB call_lenQ (by rfl) ml PySem.boot_len (pa_cons (pv 4) pa_nil)) (nomark _)) (pe_ix ix_tup (pv 4) (pv 1) (fun _ _ => rfl)) (pe_ix ix_tup (pv 5) (pe_op op_sub (pv 1) (pe_callB call_lenQ (by rfl) ml PySem.boot_len (pa_cons (pv 4) pa_nil))) (fun _ _ => rfl))))
      (pss_one (ps_ret (pe_cmpR op_eq (pv 6) (pv 2) (nomark _)))))), ?_⟩
    refine ⟨.ref r, rfl, r, _, rfl, hR, rfl, .ref la, _, rfl, .ref ta, _, rfl, rfl, ?_⟩
    have l1 : (((c.map V.int).length : Nat) : Int) = (c.length : Int) := by rw [List.length_map]
    have l2 : (((d.map V.int).length : Nat) : Int) = (d.length : Int) := by rw [List.length_map]
    -- the rest, where nothing lacks
    have rest : (d ≠ [] ∨ (n : Int) + t.2.2 ≤ (c.length : Int)) → ∃ y, seenO c d n = some y ∧ ((n < c.length ∧ c[n]? = some y) ∨ (c.length ≤ n ∧ d[n - c.length]? = some y)) := fun h => by
      by_cases hc : n < c.length
      · refine ⟨c[n], ?_, .inl ⟨hc, List.getElem?_eq_getElem hc⟩⟩
        unfold seenO
        rw [if_pos hc]
        exact List.getElem?_eq_getElem hc
      · have hdn : d ≠ [] := by
          rcases h with h | h
          · exact h
          · omega
        have h3 := hn hdn
        have e := cyc_nat (t := d) (i := n - c.length) (by omega)
        refine ⟨_, ?_, .inr ⟨by omega, e⟩⟩
        unfold seenO
        rw [if_neg hc, if_neg hdn, show ((n : Int) - (c.length : Int)) = ((n - c.length : Nat) : Int) by omega]
    have fin : (d ≠ [] ∨ (n : Int) + t.2.2 ≤ (c.length : Int)) → ∀ y, seenO c d n = some y → topOk (c, d) n t = decide (V.int y = V.int t.2.1) := fun h y e => by
      rw [topOk_of h, e]
      exact decide_eq_decide.mpr ⟨fun z => by rw [Option.some.inj z], fun z => by rw [V.int.inj z]⟩
    refine ⟨fun σ' H' => σ' = [some (.ref r), some (.int (n : Nat)), some (.int t.2.1), some (.int t.2.2), some (.ref la), some (.ref ta), none] ∧ H' = H ∧ (d ≠ [] ∨ (n : Int) + t.2.2 ≤ (c.length : Int)), ?_, ?_⟩
    · refine ⟨.ref ta, rfl, ta, _, rfl, .inr hT, rfl, _, rfl, ite2 (fun e1 => ?_) (fun e1 => ?_)⟩
      · have hd0 : d = [] := by
          have z : (((d.map V.int).length : Nat) : Int) = 0 := V.int.inj (of_decide_eq_true e1)
          exact List.eq_nil_of_length_eq_zero (by omega)
        refine ⟨.int n, rfl, .int t.2.2, rfl, _, _, rfl, rfl, .ref la, rfl, la, _, rfl, .inr hL, _, _, rfl, rfl, _, rfl, ite2 (fun e2 => ?_) (fun e2 => ?_)⟩
        · have z : (((c.map V.int).length : Nat) : Int) < (n : Int) + t.2.2 := of_decide_eq_true e2
          have y : topOk (c, d) n t = false := decide_eq_false fun h => by
            rcases h.1 with h1 | h1
            · exact h1 hd0
            · rw [l1] at z
              have h2 : (n : Int) + t.2.2 ≤ (c.length : Int) := h1
              omega
          rw [y] at q
          exact q
        · have z : ¬ (((c.map V.int).length : Nat) : Int) < (n : Int) + t.2.2 := fun h => e2 (decide_eq_true h)
          rw [l1] at z
          exact ⟨rfl, rfl, .inr (by omega)⟩
      · refine ⟨rfl, rfl, .inl fun z => e1 ?_⟩
        rw [z]
        rfl
    · rintro σ' H' ⟨rfl, rfl, hc⟩
      obtain ⟨y, hy, hw⟩ := rest hc
      have hf := fin hc y hy
      rw [hf] at q
      refine ⟨.int n, rfl, .ref la, rfl, la, _, rfl, .inr hL, _, _, rfl, rfl, _, rfl, ite2 (fun e2 => ?_) (fun e2 => ?_)⟩
      · have z : (n : Int) < (((c.map V.int).length : Nat) : Int) := of_decide_eq_true e2
        rw [l1] at z
        have hy2 : c[n]? = some y := by
          rcases hw with h | h
          · exact h.2
          · omega
        refine ⟨.ref la, rfl, .int n, rfl, la, _, _, .int y, rfl, rfl, hL, atI_nat (by rw [List.getElem?_map, hy2]; rfl), ?_⟩
        exact ⟨.int y, rfl, .int t.2.1, rfl, rfl, q⟩
      · have z : ¬ (n : Int) < (((c.map V.int).length : Nat) : Int) := fun h => e2 (decide_eq_true h)
        rw [l1] at z
        have hy2 : d[n - c.length]? = some y := by
          rcases hw with h | h
          · omega
          · exact h.2
        refine ⟨.ref ta, rfl, .int n, rfl, .ref la, rfl, la, _, rfl, .inr hL, _, _, rfl, rfl, ta, _, _, .int y, rfl, rfl, hT, ?_, ?_⟩
        · rw [show (n : Int) - (((c.map V.int).length : Nat) : Int) = ((n - c.length : Nat) : Int) by omega]
          exact atI_nat (by rw [List.getElem?_map, hy2]; rfl)
        · exact ⟨.int y, rfl, .int t.2.1, rfl, rfl, q⟩
theorem ok_sta {f fH : Addr} {fd fdH : FuncData} {k : Nat} (F : Fun K "stands_at" "stands_at" sSta f fd) (FH : Fun K "has_on_top" "has_on_top" sHot fH fdH) (bH : Binds K fdH ["row", "place", "note", "depth"] []) (gH : mg "has_on_top" = some (.ref fH))
    (GH : FnOk P w K mg base CX0 k fH fdH ["row", "place", "note", "depth"] (spHot K)) : FnOk P w K mg base CX0 (k + 1) f fd ["shape", "rows", "places"] (spSta K) := by
  refine F.ok scSta (fun vs H Q E h => ?_) (fun cdv A outer s H vs Q E hr h => ?_)
  · obtain ⟨v, a, z, g, rs, rfl, _⟩ := h
    rfl
  · obtain ⟨v, a, z, g, rs, rfl, ⟨u, xs, rfl, hu, hxs⟩, ⟨ys, ha, hys⟩, hz, hg, q⟩ := h
    refine ⟨_, pss_cons (ps_for PassesOwn.never rfl (pi_tup (pv 0)) (pg_tup (by rfl) (pgs_cons (pg_name (i := 3) scSta.nd rfl (.inl rfl)) (pgs_cons (pg_name (i := 4) scSta.nd rfl (.inl rfl)) (pgs_cons (pg_name (i := 5) scSta.nd rfl (.inl rfl)) pgs_nil)))) (pss_one (ps_if (pt_not (pt_val (pe_call GH hr (by rfl) gH FH.kp bH .nil pass0 (pa_cons (pe_ix ix_tup (pv 1) (pv 3) (fun _ _ => rfl)) (pa_cons (pe_ix ix_list (pv 2) (pv 3) (fun _ _ => rfl)) (pa_cons (pv 4) (pa_cons (pv 5) pa_nil))))))) (pss_one (ps_ret pe_bl)) pss_nil)))
      (pss_one (ps_ret pe_bl)), ?_⟩
    refine ⟨.ref u, rfl, u, rfl, ⟨_, hu⟩, for_tup (K := K) (a := u) (xs := xs) (fun i σ H' => ∃ y3 y4 y5, σ = [some (.ref u), some (.ref a), some (.ref z), y3, y4, y5] ∧ H' = H ∧ ∀ t ∈ g.take i, topOk (rs.getD t.1.toNat ([], [])) 0 t = true) ⟨_, _, _, rfl, rfl, fun t ht => by rw [List.take_zero] at ht; cases ht⟩ (fun i σ H' _ hP => ?_) (fun i x σ H' hx hP => ?_) (fun σ H' hP => ?_)⟩
    · obtain ⟨_, _, _, _, rfl, _⟩ := hP
      exact hu
    · obtain ⟨y3, y4, y5, rfl, rfl, hall⟩ := hP
      obtain ⟨t, ht, tp, rfl, htp⟩ := hxs.get hx
      have htm : t ∈ g := List.mem_of_getElem? ht
      obtain ⟨g1, g2, g3⟩ := hg t htm
      obtain ⟨n, hn⟩ := Int.eq_ofNat_of_zero_le g1
      have hnl : n < rs.length := by omega
      obtain ⟨y, hy, ra, e1, hra⟩ := hys.at (List.getElem?_eq_getElem hnl)
      have hget : rs.getD t.1.toNat ([], []) = rs[n] := by
        rw [hn, Int.toNat_natCast]
        simp [List.getD, hnl]
      refine ⟨tp, triV t, rfl, htp, rfl, _, _, rfl, _, _, rfl, _, _, rfl, rfl, ?_⟩
      refine ⟨.ref a, rfl, .int t.1, rfl, a, ys, t.1, y, rfl, rfl, ha, by rw [hn]; exact atI_nat hy, .ref z, rfl, .int t.1, rfl, z, _, t.1, .int 0, rfl, rfl, hz, by rw [hn]; exact atI_nat (by rw [List.getElem?_map, List.getElem?_replicate, if_pos hnl]; rfl), .int t.2.1, rfl, .int t.2.2, rfl, ?_⟩
      rw [e1]
      refine ⟨ra, rs[n].1, rs[n].2, 0, t, rfl, hra, g3, fun h => by have := List.length_pos_iff.mpr h; omega, ?_⟩
      refine ⟨_, rfl, ?_⟩
      rw [show topOk (rs[n].1, rs[n].2) 0 t = topOk (rs.getD t.1.toNat ([], [])) 0 t by rw [hget]]
      cases hb : topOk (rs.getD t.1.toNat ([], [])) 0 t with
      | false =>
        refine iteT ?_
        have e : stM rs g = false := by
          cases hs : stM rs g with
          | false => rfl
          | true =>
            have := List.all_eq_true.mp hs t htm
            rw [hb] at this
            cases this
        rw [e] at q
        exact q
      | true =>
        refine iteF ⟨_, _, _, rfl, rfl, fun t2 ht2 => ?_⟩
        rw [take_snoc ht] at ht2
        rcases List.mem_append.mp ht2 with h | h
        · exact hall t2 h
        · rw [List.mem_singleton.mp h]
          exact hb
    · obtain ⟨y3, y4, y5, rfl, rfl, hall⟩ := hP
      rw [hxs.len, List.take_length] at hall
      have e : stM rs g = true := List.all_eq_true.mpr hall
      rw [e] at q
      exact q
end
abbrev sSat : Stmt := topS 62
abbrev nSat : List Str := ["figures", "rows", "places", "figure", "shape"]
theorem scSat : FnScope nSat ["figures", "rows", "places"] (defScope sSat) := ⟨rfl, rfl, rfl, by decide +kernel, rfl, by decide +kernel, by decide +kernel⟩
/-- the pairs of a number and a figure -/
def NumF (K : PySem.W.Frag) (H : Hp) (i : Nat) (v : V) (f : List Tri) : Prop := ∃ (a : Addr) (x : V), v = .ref a ∧ SqT K H a [.int (i : Nat), x] ∧ FigT K H x f
def OkR (rs : List Row2) (f : List Tri) : Prop := ∀ t ∈ f, 0 ≤ t.1 ∧ t.1 < rs.length ∧ 1 ≤ t.2.2
def spSat (K : PySem.W.Frag) : Sp := fun vs H Q _ => ∃ (l a z : Addr) (xs : List V) (fs : List (List Tri)) (rs : List Row2), vs = [.ref l, .ref a, .ref z] ∧ SqL K H l xs ∧ xs.length = fs.length ∧ (∀ i x, xs[i]? = some x → NumF K H i x (fs.getD i [])) ∧ RowsT K H a rs ∧ SqL K H z ((List.replicate rs.length (0 : Int)).map V.int) ∧ (∀ f ∈ fs, OkR rs f) ∧ fs.length ≤ 100 ∧
  ∀ H' q, Same H H' → H q = none → H' q = some (.lst ((nI (upM rs fs fs.length)).map V.int)) → Q (.ref q) H'
abbrev sSon : Stmt := topS 61
theorem scSon : FnScope ["book", "rows"] ["book", "rows"] (defScope sSon) := ⟨rfl, rfl, rfl, by decide +kernel, rfl, by decide +kernel, by decide +kernel⟩
def spSon (K : PySem.W.Frag) (C : Addr) : Sp := fun vs H Q _ => ∃ (p a : Addr) (cs : List Int) (fs : List (List Tri)) (rs : List Row2), vs = [.ref p, .ref a] ∧ BookAt K C H p cs fs ∧ RowsT K H a rs ∧ (∀ f ∈ fs, OkR rs f) ∧ fs.length ≤ 100 ∧ rs.length ≤ 100 ∧
  ∀ H' q, Same H H' → H q = none → H' q = some (.lst ((nI (upM rs fs fs.length)).map V.int)) → Q (.ref q) H'
theorem upM_succ (rs : List Row2) (fs : List (List Tri)) (i : Nat) : upM rs fs (i + 1) = upM rs fs i ++ if stM rs (fs.getD i []) = true then [i] else [] := by
  unfold upM
  rw [List.range_succ, List.filter_append]
  congr 1
  by_cases h : stM rs (fs.getD i []) = true
  · rw [if_pos h, List.filter_cons_of_pos (p := fun i => stM rs (fs.getD i [])) h]
    rfl
  · rw [if_neg h, List.filter_cons_of_neg (p := fun i => stM rs (fs.getD i [])) h]
    rfl
theorem upM_len (rs : List Row2) (fs : List (List Tri)) (n : Nat) : (upM rs fs n).length ≤ n := by
  unfold upM
  have := List.length_filter_le (fun i => stM rs (fs.getD i [])) (List.range n)
  rw [List.length_range] at this
  exact this
section
variable {P : Program} {w : World} {K : PySem.W.Frag} {mg : Str → Option Value} {base : Heap}
theorem ok_sat {f fH : Addr} {fd fdH : FuncData} {k : Nat} (F : Fun K "standing_at" "standing_at" sSat f fd) (FH : Fun K "stands_at" "stands_at" sSta fH fdH) (bH : Binds K fdH ["shape", "rows", "places"] []) (gH : mg "stands_at" = some (.ref fH))
    (GH : FnOk P w K mg base CX0 k fH fdH ["shape", "rows", "places"] (spSta K)) : FnOk P w K mg base CX0 (k + 1) f fd ["figures", "rows", "places"] (spSat K) := by
  refine F.ok scSat (fun vs H Q E h => ?_) (fun cdv A outer s H vs Q E hr h => ?_)
  · obtain ⟨l, a, z, xs, fs, rs, rfl, _⟩ := h
    rfl
  · obtain ⟨l, a, z, xs, fs, rs, rfl, hl, hlen, hx0, hR, hz, hok, hfl, q⟩ := h
    refine ⟨_, pss_one (ps_ret (pe_lc (own := [("figure", 3), ("shape", 4)]) (g := g2 K 3 4) rfl scSat.nd (pi_list (pv 0)) (blkOk_by (own := [("figure", 3), ("shape", 4)]) (N := nSat) (sc := defScope sSat) (by decide +kernel)) (fun _ _ _ _ _ => pg_tup (by rfl) (pgs_cons (pg_name (i := 3) scSat.nd rfl (.inl rfl)) (pgs_cons (pg_name (i := 4) scSat.nd rfl (.inl rfl)) pgs_nil))) (fun _ _ _ _ _ => pts_one (pt_val (pe_call GH hr (by rfl) gH FH.kp bH .nil pass0 (pa_cons (pv 4) (pa_cons (pv 1) (pa_cons (pv 2) pa_nil)))))) (fun _ _ _ _ _ => pv 3))), ?_⟩
    refine ⟨.ref l, rfl, l, rfl, ⟨_, hl⟩, fun D nD => ?_⟩
    refine lc_list (K := K) (a := l) (xs := xs) (fun i H' => Same H H' ∧ H' D = some (.lst ((nI (upM rs fs i)).map V.int))) ⟨same_upd nD, upd_same⟩ (fun i H' _ hP => hP.1.seq hl) (fun i x H' hx hP => ?_) (fun H1 hP => ?_)
    · obtain ⟨sm, hD⟩ := hP
      obtain ⟨ta, fv, rfl, hta, hfv⟩ := hx0 i x hx
      have hil : i < fs.length := by rw [← hlen]; exact (List.getElem?_eq_some_iff.mp hx).1
      have hm : fs.getD i [] ∈ fs := by
        rw [List.getD_eq_getElem?_getD, List.getElem?_eq_getElem hil]
        exact List.getElem_mem hil
      refine ⟨ta, [.int (i : Nat), fv], rfl, Same.tup sm hta, rfl, _, _, rfl, _, _, rfl, rfl, rfl, ?_⟩
      refine ⟨fv, rfl, .ref a, rfl, .ref z, rfl, fv, a, z, fs.getD i [], rs, rfl, hfv.ts (TS.of sm), hR.ts (TS.of sm), sm.seq hz, hok _ hm, ?_⟩
      refine ⟨_, rfl, ?_⟩
      have ul := upM_len rs fs i
      have us := upM_succ rs fs i
      cases hb : stM rs (fs.getD i []) with
      | true =>
        refine iteT ⟨_, rfl, _, hD, ?_, Same.offUpd sm nD, ?_⟩
        · unfold nI
          rw [List.length_map, List.length_map]
          exact small1000 (by omega)
        · rw [us, hb, if_pos rfl, upd_same]
          unfold nI
          rw [List.map_append, List.map_append]
          rfl
      | false =>
        refine iteF ⟨sm, ?_⟩
        rw [us, hb, if_neg (by decide), List.append_nil]
        exact hD
    · obtain ⟨sm, hD⟩ := hP
      rw [hlen] at hD
      exact q H1 D sm nD hD
theorem ok_son {f fA fF C : Addr} {fd fdA fdF : FuncData} {k : Nat} (F : Fun K "standing_on" "standing_on" sSon f fd) (ml : mg "len" = none) (mL : mg "list" = none) (me : mg "enumerate" = none)
    (FA : Fun K "standing_at" "standing_at" sSat fA fdA) (bA : Binds K fdA ["figures", "rows", "places"] []) (gA : mg "standing_at" = some (.ref fA)) (GA : FnOk P w K mg base CX0 k fA fdA ["figures", "rows", "places"] (spSat K))
    (T : BkTxt K mg C) (bF : Binds K fdF ["self"] []) (mF : Meth K C "figures" fF) (GF : FnOk P w K mg base CX0 k fF fdF ["self"] (spFigs K C)) : FnOk P w K mg base CX0 (k + 1) f fd ["book", "rows"] (spSon K C) := by
  refine F.ok scSon (fun vs H Q E h => ?_) (fun cdv A outer s H vs Q E hr h => ?_)
  · obtain ⟨p, a, cs, fs, rs, rfl, _⟩ := h
    rfl
  · obtain ⟨p, a, cs, fs, rs, rfl, hB, hR, hok, hfl, hrl, q⟩ := h
    refine ⟨_, pss_one (ps_ret (pe_call GA hr (by rfl) gA FA.kp bA .nil pass0 (pa_cons (pe_listEnum rfl (by rfl) mL (by rfl) me (pe_meth0 (pv 0) T.cl mF GF hr bF .nil pass0)) (pa_cons (pv 1) (pa_cons (pe_op op_rep (pe_lst (pa_cons pe_int pa_nil)) (pe_callB call_lenQ (by rfl) ml PySem.boot_len (pa_cons (pv 1) pa_nil))) pa_nil))))), ?_⟩
    obtain ⟨dx, a0, b0, xs0, hp, _⟩ := id hB
    refine ⟨.ref p, rfl, p, dx, _, rfl, hp, rfl, ?_⟩
    refine ⟨p, cs, fs, rfl, hB, by omega, fun H1 d xs s1 nd hd hA => ?_⟩
    refine ⟨d, xs, rfl, SqL.of hd, fun H2 l ts s2 nl hl tl ht => ?_⟩
    have s12 := s1.trans s2
    obtain ⟨ys, ha, hys⟩ := id hR
    refine ⟨.ref a, rfl, (show (1 : Nat) ≤ sizeLine by decide), fun l0 n0 => ?_⟩
    have u0 := same_upd (o := .lst [.int 0]) n0
    have hyl := hys.len
    refine ⟨.ref a, rfl, a, _, rfl, .inr (Same.tup (s12.trans u0) ha), l0, _, _, rfl, rfl, upd_same, by omega, by rw [hyl]; omega, ?_, fun z nz => ?_⟩
    · rw [hyl]
      exact Nat.le_of_lt (small1000 (by show 1 * _ ≤ _; omega))
    have u1 := same_upd (o := .lst (List.replicate ((ys.length : Nat) : Int).toNat [V.int 0]).flatten) nz
    have hz0 : (upd (upd H2 l0 (.lst [.int 0])) z (.lst (List.replicate ((ys.length : Nat) : Int).toNat [V.int 0]).flatten)) z = some (.lst ((List.replicate rs.length (0 : Int)).map V.int)) := by
      rw [upd_same, Int.toNat_natCast, hyl]
      congr 2
      rw [List.map_replicate]
      have hrep : ∀ n : Nat, (List.replicate n [V.int 0]).flatten = List.replicate n (V.int 0) := fun n => by
        induction n with
        | zero => rfl
        | succ n ih => rw [List.replicate_succ, List.flatten_cons, ih, List.replicate_succ]; rfl
      exact hrep _
    have s3 := (s12.trans u0).trans u1
    have hx0 : ∀ i x, (ts.map V.ref)[i]? = some x → NumF K (upd (upd H2 l0 (.lst [.int 0])) z (.lst (List.replicate ((ys.length : Nat) : Int).toNat [V.int 0]).flatten)) i x (fs.getD i []) := fun i x hx => by
      rw [List.getElem?_map] at hx
      cases hti : ts[i]? with
      | none => rw [hti] at hx; cases hx
      | some T' =>
        rw [hti] at hx
        obtain rfl := Option.some.inj hx
        obtain ⟨y, hy, hT'⟩ := ht i T' hti
        obtain ⟨g, hg, hgT⟩ := hA.get hy
        refine ⟨T', y, rfl, SqT.of ((u0.trans u1) _ _ hT'), ?_⟩
        rw [List.getD_eq_getElem?_getD, hg]
        exact hgT.ts (TS.of ((s2.trans u0).trans u1))
    exact ⟨l, a, z, _, fs, rs, rfl, SqL.of ((u0.trans u1) _ _ hl), by rw [List.length_map, tl, hA.len], hx0, hR.ts (TS.of s3), SqL.of hz0, hok, hfl, fun H' q' s4 nq hq' => q H' q' (s3.trans s4) (s3.free nq) hq'⟩
end
/-! ### heights of pads and levels of figures: the program's and the law's are one (Heap.tiers_of, _law_layers) -/
theorem le_top0 {x : Nat} : ∀ {l : List Nat}, x ∈ l → x ≤ top0 l
  | y :: ys, h => by
    cases h with
    | head => exact Nat.le_max_left ..
    | tail _ h => exact Nat.le_trans (le_top0 h) (Nat.le_max_right ..)
theorem top0_le {m : Nat} : ∀ {l : List Nat}, (∀ x ∈ l, x ≤ m) → top0 l ≤ m
  | [], _ => Nat.zero_le _
  | y :: ys, h => Nat.max_le.mpr ⟨h y (List.mem_cons_self ..), top0_le fun x hx => h x (List.mem_cons_of_mem _ hx)⟩
theorem top0_mem : ∀ {l : List Nat}, l ≠ [] → top0 l ∈ l
  | [], h => absurd rfl h
  | [x], _ => by
    show max x 0 ∈ [x]
    rw [Nat.max_eq_left (Nat.zero_le _)]
    exact List.mem_singleton.mpr rfl
  | x :: y :: ys, _ => by
    have ih := top0_mem (l := y :: ys) (List.cons_ne_nil _ _)
    show max x (top0 (y :: ys)) ∈ _
    by_cases e : x ≤ top0 (y :: ys)
    · rw [Nat.max_eq_right e]
      exact List.mem_cons_of_mem _ ih
    · rw [Nat.max_eq_left (by omega)]
      exact List.mem_cons_self ..
/-- one above the highest figure that lies on the pad -/
def padH (d : Lain) (p : Int) : Nat := top0 ((d.filter fun e => decide (p ∈ e.1)).map fun e => e.2 + 1)
theorem padH_le {d : Lain} {p : Int} {e : List Int × Nat} (he : e ∈ d) (hp : p ∈ e.1) : e.2 + 1 ≤ padH d p :=
  le_top0 (List.mem_map.mpr ⟨e, List.mem_filter.mpr ⟨he, decide_eq_true hp⟩, rfl⟩)
theorem figH_le {d : Lain} {ps : List Int} {e : List Int × Nat} {p : Int} (he : e ∈ d) (hp : p ∈ e.1) (h : p ∈ ps) : e.2 + 1 ≤ figH d ps :=
  le_top0 (List.mem_map.mpr ⟨e, List.mem_filter.mpr ⟨he, List.any_eq_true.mpr ⟨p, hp, decide_eq_true h⟩⟩, rfl⟩)
/-- the greatest of the pads' heights is the figure's level -/
theorem top_padH (d : Lain) (ps : List Int) : top0 (ps.map (padH d)) = figH d ps := by
  apply Nat.le_antisymm
  · refine top0_le fun x hx => ?_
    obtain ⟨p, hp, rfl⟩ := List.mem_map.mp hx
    refine top0_le fun y hy => ?_
    obtain ⟨e, he, rfl⟩ := List.mem_map.mp hy
    obtain ⟨h1, h2⟩ := List.mem_filter.mp he
    exact figH_le h1 (of_decide_eq_true h2) hp
  · refine top0_le fun y hy => ?_
    obtain ⟨e, he, rfl⟩ := List.mem_map.mp hy
    obtain ⟨h1, h2⟩ := List.mem_filter.mp he
    obtain ⟨p, hp, h3⟩ := List.any_eq_true.mp h2
    exact Nat.le_trans (padH_le h1 hp) (le_top0 (List.mem_map.mpr ⟨p, of_decide_eq_true h3, rfl⟩))
/-- one more figure: the heights behind it -/
theorem padH_snoc_in {d : Lain} {ps : List Int} {p : Int} (h : p ∈ ps) : padH (d ++ [(ps, figH d ps)]) p = figH d ps + 1 := by
  apply Nat.le_antisymm
  · refine top0_le fun y hy => ?_
    obtain ⟨e, he, rfl⟩ := List.mem_map.mp hy
    obtain ⟨h1, h2⟩ := List.mem_filter.mp he
    rcases List.mem_append.mp h1 with h1 | h1
    · exact Nat.le_trans (figH_le h1 (of_decide_eq_true h2) h) (Nat.le_succ _)
    · rw [List.mem_singleton.mp h1]
      exact Nat.le_refl _
  · exact padH_le (e := (ps, figH d ps)) (List.mem_append_right _ (List.mem_singleton.mpr rfl)) h
theorem padH_snoc_out {d : Lain} {ps : List Int} {n : Nat} {p : Int} (h : ¬ p ∈ ps) : padH (d ++ [(ps, n)]) p = padH d p := by
  unfold padH
  rw [List.filter_append]
  have : [(ps, n)].filter (fun e => decide (p ∈ e.1)) = [] := by
    rw [List.filter_cons_of_neg (by
      show ¬ decide (p ∈ ps) = true
      rw [decide_eq_false h]
      exact Bool.false_ne_true)]
    rfl
  rw [this, List.append_nil]
/-- how many tiers there are -/
def tops (d : Lain) : Nat := top0 (d.map fun e => e.2 + 1)
theorem figH_le_tops (d : Lain) (ps : List Int) : figH d ps ≤ tops d := top0_le fun y hy => by
  obtain ⟨e, he, rfl⟩ := List.mem_map.mp hy
  exact le_top0 (List.mem_map.mpr ⟨e, (List.mem_filter.mp he).1, rfl⟩)
theorem top0_append (a b : List Nat) : top0 (a ++ b) = max (top0 a) (top0 b) := by
  induction a with
  | nil => exact (Nat.max_eq_right (Nat.zero_le _)).symm
  | cons x xs ih =>
    show max x (top0 (xs ++ b)) = max (max x (top0 xs)) (top0 b)
    rw [ih, Nat.max_assoc]
theorem tops_snoc (d : Lain) (ps : List Int) : tops (d ++ [(ps, figH d ps)]) = max (tops d) (figH d ps + 1) := by
  unfold tops
  rw [List.map_append, top0_append]
  show max _ (max _ 0) = _
  rw [Nat.max_eq_left (Nat.zero_le (figH d ps + 1))]
/-- a new tier is begun just where the height is the count of the tiers -/
theorem tops_new {d : Lain} {ps : List Int} (h : figH d ps = tops d) : tops (d ++ [(ps, figH d ps)]) = tops d + 1 := by
  rw [tops_snoc, h]
  exact Nat.max_eq_right (Nat.le_succ _)
theorem tops_old {d : Lain} {ps : List Int} (h : ¬ figH d ps = tops d) : tops (d ++ [(ps, figH d ps)]) = tops d := by
  rw [tops_snoc]
  have := figH_le_tops d ps
  exact Nat.max_eq_left (by omega)
/-- the figures of a row by their levels: t gives the tier of the height n -/
def tierAt (row : List Int) (d : Lain) (n : Nat) : List Int := ((row.zip d).filter fun e => decide (e.2.2 = n)).map fun e => e.1
theorem tierAt_snoc {row : List Int} {d : Lain} (h : row.length = d.length) (x : Int) (ps : List Int) (m n : Nat) : tierAt (row ++ [x]) (d ++ [(ps, m)]) n = tierAt row d n ++ if m = n then [x] else [] := by
  unfold tierAt
  rw [List.zip_append h, List.filter_append, List.map_append]
  congr 1
  show (([(x, (ps, m))] : List (Int × (List Int × Nat))).filter _).map _ = _
  by_cases e : m = n
  · rw [List.filter_cons_of_pos (by exact decide_eq_true e), if_pos e]
    rfl
  · rw [List.filter_cons_of_neg (by
      show ¬ decide (m = n) = true
      rw [decide_eq_false e]
      exact Bool.false_ne_true), if_neg e]
    rfl
/-! ### rows with the same lists on each pad lie in the same tiers -/
theorem lay_snoc (pd : Int → List Int) (r : List Int) (x : Int) : lay pd (r ++ [x]) = lay pd r ++ [(pd x, figH (lay pd r) (pd x))] := by
  unfold lay
  rw [List.foldl_append]
  rfl
theorem snocInd {α : Type} {M : List α → Prop} (h0 : M []) (h1 : ∀ r x, M r → M (r ++ [x])) (l : List α) : M l := by
  have : ∀ l : List α, M l.reverse := fun l => by
    induction l with
    | nil => exact h0
    | cons x xs ih =>
      rw [List.reverse_cons]
      exact h1 _ _ ih
  have h := this l.reverse
  rw [List.reverse_reverse] at h
  exact h
theorem lay_len (pd : Int → List Int) (r : List Int) : r.length = (lay pd r).length := by
  refine snocInd (M := fun r => r.length = (lay pd r).length) rfl (fun r x ih => ?_) r
  rw [lay_snoc, List.length_append, List.length_append, ih]
  rfl
structure Eqv (pd : Int → List Int) (r s : List Int) : Prop where
  h : ∀ p, padH (lay pd r) p = padH (lay pd s) p
  t : ∀ n, (tierAt r (lay pd r) n).Perm (tierAt s (lay pd s) n)
  k : tops (lay pd r) = tops (lay pd s)
theorem Eqv.rfl' {pd : Int → List Int} {r : List Int} : Eqv pd r r := ⟨fun _ => rfl, fun _ => List.Perm.refl _, rfl⟩
theorem Eqv.trans {pd : Int → List Int} {r s t : List Int} (a : Eqv pd r s) (b : Eqv pd s t) : Eqv pd r t := ⟨fun p => (a.h p).trans (b.h p), fun n => (a.t n).trans (b.t n), a.k.trans b.k⟩
theorem Eqv.symm {pd : Int → List Int} {r s : List Int} (a : Eqv pd r s) : Eqv pd s r := ⟨fun p => (a.h p).symm, fun n => (a.t n).symm, a.k.symm⟩
theorem figH_of {d e : Lain} {ps : List Int} (h : ∀ p ∈ ps, padH d p = padH e p) : figH d ps = figH e ps := by
  rw [← top_padH, ← top_padH]
  congr 1
  exact List.map_congr_left h
theorem Eqv.step {pd : Int → List Int} {r s : List Int} (a : Eqv pd r s) (x : Int) : Eqv pd (r ++ [x]) (s ++ [x]) := by
  have hf : figH (lay pd r) (pd x) = figH (lay pd s) (pd x) := figH_of fun p _ => a.h p
  refine ⟨fun p => ?_, fun n => ?_, ?_⟩
  · rw [lay_snoc, lay_snoc]
    by_cases e : p ∈ pd x
    · rw [padH_snoc_in e, padH_snoc_in e, hf]
    · rw [padH_snoc_out e, padH_snoc_out e, a.h]
  · rw [lay_snoc, lay_snoc, tierAt_snoc (lay_len pd r), tierAt_snoc (lay_len pd s), hf]
    exact (a.t n).append_right _
  · rw [lay_snoc, lay_snoc, tops_snoc, tops_snoc, a.k, hf]
theorem Eqv.swap {pd : Int → List Int} {r : List Int} {x y : Int} (dj : ∀ p, p ∈ pd x → ¬ p ∈ pd y) : Eqv pd (r ++ [x] ++ [y]) (r ++ [y] ++ [x]) := by
  have dj2 : ∀ p, p ∈ pd y → ¬ p ∈ pd x := fun p h1 h2 => dj p h2 h1
  have hy : figH (lay pd (r ++ [x])) (pd y) = figH (lay pd r) (pd y) := figH_of fun p hp => by
    rw [lay_snoc, padH_snoc_out (dj2 p hp)]
  have hx : figH (lay pd (r ++ [y])) (pd x) = figH (lay pd r) (pd x) := figH_of fun p hp => by
    rw [lay_snoc, padH_snoc_out (dj p hp)]
  refine ⟨fun p => ?_, fun n => ?_, ?_⟩
  · rw [lay_snoc pd (r ++ [x]), lay_snoc pd (r ++ [y])]
    by_cases e1 : p ∈ pd x
    · rw [padH_snoc_out (dj p e1), padH_snoc_in e1, lay_snoc, padH_snoc_in e1, hx]
    · by_cases e2 : p ∈ pd y
      · rw [padH_snoc_in e2, padH_snoc_out e1, lay_snoc pd r y, padH_snoc_in e2, hy]
      · rw [padH_snoc_out e2, padH_snoc_out e1, lay_snoc, lay_snoc, padH_snoc_out e1, padH_snoc_out e2]
  · rw [lay_snoc pd (r ++ [x]), lay_snoc pd (r ++ [y]), tierAt_snoc (lay_len pd _), tierAt_snoc (lay_len pd _), hy, hx, lay_snoc, lay_snoc, tierAt_snoc (lay_len pd _), tierAt_snoc (lay_len pd _), List.append_assoc, List.append_assoc]
    exact List.Perm.append_left _ List.perm_append_comm
  · rw [lay_snoc pd (r ++ [x]), lay_snoc pd (r ++ [y]), tops_snoc, tops_snoc, hy, hx, lay_snoc, lay_snoc, tops_snoc, tops_snoc, Nat.max_assoc, Nat.max_assoc, Nat.max_comm (figH (lay pd r) (pd x) + 1)]
/-- a figure that meets none of b may be laid behind b -/
theorem Eqv.bubble {pd : Int → List Int} {a : List Int} {x : Int} (b : List Int) (h : ∀ y ∈ b, ∀ p, p ∈ pd x → ¬ p ∈ pd y) : Eqv pd (a ++ [x] ++ b) (a ++ b ++ [x]) := by
  refine snocInd (M := fun b => (∀ y ∈ b, ∀ p, p ∈ pd x → ¬ p ∈ pd y) → Eqv pd (a ++ [x] ++ b) (a ++ b ++ [x])) (fun _ => ?_) (fun b y ih h => ?_) b h
  · rw [List.append_nil, List.append_nil]
    exact Eqv.rfl'
  · have e1 := (ih fun z hz => h z (List.mem_append_left _ hz)).step y
    have e2 := Eqv.swap (pd := pd) (r := a ++ b) (x := x) (y := y) (h y (List.mem_append_right _ (List.mem_singleton.mpr rfl)))
    rw [← List.append_assoc, ← List.append_assoc a b [y]]
    exact e1.trans e2
/-- the list on the pad p -/
def onPad (pd : Int → List Int) (p : Int) (r : List Int) : List Int := r.filter fun x => decide (p ∈ pd x)
theorem onPad_append (pd : Int → List Int) (p : Int) (r s : List Int) : onPad pd p (r ++ s) = onPad pd p r ++ onPad pd p s := List.filter_append ..
theorem onPad_in {pd : Int → List Int} {p x : Int} (h : p ∈ pd x) : onPad pd p [x] = [x] := List.filter_cons_of_pos (decide_eq_true h)
theorem onPad_out {pd : Int → List Int} {p x : Int} (h : ¬ p ∈ pd x) : onPad pd p [x] = [] := List.filter_cons_of_neg (by
  rw [decide_eq_false h]
  exact Bool.false_ne_true)
theorem last_split {x : Int} : ∀ {s : List Int}, x ∈ s → ∃ a b, s = a ++ [x] ++ b ∧ ¬ x ∈ b
  | y :: ys, h => by
    by_cases e : x ∈ ys
    · obtain ⟨a, b, rfl, hb⟩ := last_split e
      exact ⟨y :: a, b, rfl, hb⟩
    · cases h with
      | head => exact ⟨[], ys, rfl, e⟩
      | tail _ h => exact absurd h e
theorem Eqv.of_onPad {pd : Int → List Int} (r : List Int) : ∀ s : List Int, (∀ x ∈ r, pd x ≠ []) → (∀ x ∈ s, pd x ≠ []) → (∀ p, onPad pd p r = onPad pd p s) → Eqv pd r s := by
  refine snocInd (M := fun r => ∀ s : List Int, (∀ x ∈ r, pd x ≠ []) → (∀ x ∈ s, pd x ≠ []) → (∀ p, onPad pd p r = onPad pd p s) → Eqv pd r s) (fun s _ hs h => ?_) (fun r x ih s hr hs h => ?_) r
  · cases s with
    | nil => exact Eqv.rfl'
    | cons y ys =>
      obtain ⟨p, hp⟩ := List.exists_mem_of_ne_nil _ (hs y (List.mem_cons_self ..))
      have := h p
      rw [show (y :: ys) = [y] ++ ys from rfl, onPad_append, onPad_in hp] at this
      cases this
  · obtain ⟨p0, hp0⟩ := List.exists_mem_of_ne_nil _ (hr x (List.mem_append_right _ (List.mem_singleton.mpr rfl)))
    have hx : x ∈ s := by
      have e := h p0
      rw [onPad_append, onPad_in hp0] at e
      have : x ∈ onPad pd p0 s := by
        rw [← e]
        exact List.mem_append_right _ (List.mem_singleton.mpr rfl)
      exact (List.mem_filter.mp this).1
    obtain ⟨a, b, rfl, hb⟩ := last_split hx
    have hnil : ∀ p, p ∈ pd x → onPad pd p b = [] := fun p hp => by
      have e := h p
      rw [onPad_append, onPad_append, onPad_append, onPad_in hp] at e
      by_cases z : onPad pd p b = []
      · exact z
      · have l1 : (onPad pd p r ++ [x]).getLast? = some x := List.getLast?_concat ..
        rw [e, List.getLast?_append, List.getLast?_eq_some_getLast z] at l1
        have l2 : (onPad pd p b).getLast z = x := Option.some.inj l1
        have := List.getLast_mem z
        rw [l2] at this
        exact absurd (List.mem_filter.mp this).1 hb
    have dj : ∀ y ∈ b, ∀ p, p ∈ pd x → ¬ p ∈ pd y := fun y hy p hp hq => by
      have : y ∈ onPad pd p b := List.mem_filter.mpr ⟨hy, decide_eq_true hq⟩
      rw [hnil p hp] at this
      cases this
    have hrest : ∀ p, onPad pd p r = onPad pd p (a ++ b) := fun p => by
      have e := h p
      rw [onPad_append, onPad_append, onPad_append] at e
      rw [onPad_append]
      by_cases hp : p ∈ pd x
      · rw [onPad_in hp, hnil p hp, List.append_nil] at e
        rw [hnil p hp, List.append_nil]
        exact List.append_cancel_right e
      · rw [onPad_out hp, List.append_nil, List.append_nil] at e
        exact e
    have e1 := (ih (a ++ b) (fun z hz => hr z (List.mem_append_left _ hz)) (fun z hz => hs z (by
      rcases List.mem_append.mp hz with hz | hz
      · exact List.mem_append_left _ (List.mem_append_left _ hz)
      · exact List.mem_append_right _ hz)) hrest).step x
    exact e1.trans (Eqv.bubble b dj).symm
/-! ### the tiers tell the lists on each pad -/
def tiersOn (pd : Int → List Int) (p : Int) (t : Nat → List Int) : Nat → List Int
  | 0 => []
  | n + 1 => tiersOn pd p t n ++ onPad pd p (t n)
theorem tiersOn_congr {pd : Int → List Int} {p : Int} {t u : Nat → List Int} : ∀ {N : Nat}, (∀ n < N, onPad pd p (t n) = onPad pd p (u n)) → tiersOn pd p t N = tiersOn pd p u N
  | 0, _ => rfl
  | N + 1, h => by
    show _ ++ _ = _ ++ _
    rw [tiersOn_congr (N := N) fun n hn => h n (by omega), h N (by omega)]
theorem tiersOn_put {pd : Int → List Int} {p x : Int} {t u : Nat → List Int} {m : Nat} (hu : ∀ n, onPad pd p (u n) = onPad pd p (t n) ++ if m = n then [x] else []) (ht : ∀ n, m < n → onPad pd p (t n) = []) : ∀ N, m < N → tiersOn pd p u N = tiersOn pd p t N ++ [x]
  | 0, h => absurd h (by omega)
  | N + 1, h => by
    show tiersOn pd p u N ++ onPad pd p (u N) = tiersOn pd p t N ++ onPad pd p (t N) ++ [x]
    by_cases e : m = N
    · rw [hu N, if_pos e, tiersOn_congr (u := t) fun n hn => by rw [hu n, if_neg (by omega), List.append_nil], List.append_assoc]
    · rw [tiersOn_put hu ht N (by omega), hu N, if_neg e, ht N (by omega), List.append_nil, List.append_nil, List.append_nil]
theorem tier_lev {row : List Int} {pd : Int → List Int} {n : Nat} {x : Int} (h : x ∈ tierAt row (lay pd row) n) : (pd x, n) ∈ lay pd row := by
  refine snocInd (M := fun row => x ∈ tierAt row (lay pd row) n → (pd x, n) ∈ lay pd row) (fun h => ?_) (fun r y ih h => ?_) row h
  · cases h
  · rw [lay_snoc, tierAt_snoc (lay_len pd r)] at h
    rw [lay_snoc]
    rcases List.mem_append.mp h with h | h
    · exact List.mem_append_left _ (ih h)
    · by_cases e : figH (lay pd r) (pd y) = n
      · rw [if_pos e] at h
        rw [List.mem_singleton.mp h, e]
        exact List.mem_append_right _ (List.mem_singleton.mpr rfl)
      · rw [if_neg e] at h
        cases h
theorem padH_le_figH {d : Lain} {ps : List Int} {p : Int} (h : p ∈ ps) : padH d p ≤ figH d ps := by
  rw [← top_padH]
  exact le_top0 (List.mem_map.mpr ⟨p, h, rfl⟩)
/-- above the figure's level no tier has a figure on its pads -/
theorem tier_above {pd : Int → List Int} {r : List Int} {p x : Int} (h : p ∈ pd x) {n : Nat} (hn : figH (lay pd r) (pd x) ≤ n) : onPad pd p (tierAt r (lay pd r) n) = [] := by
  refine List.filter_eq_nil_iff.mpr fun y hy hp => ?_
  have := padH_le (tier_lev hy) (of_decide_eq_true hp)
  have := padH_le_figH (d := lay pd r) h
  omega
theorem onPad_tiers (pd : Int → List Int) (p : Int) (r : List Int) : ∀ N, tops (lay pd r) ≤ N → onPad pd p r = tiersOn pd p (tierAt r (lay pd r)) N := by
  refine snocInd (M := fun r => ∀ N, tops (lay pd r) ≤ N → onPad pd p r = tiersOn pd p (tierAt r (lay pd r)) N) (fun N _ => ?_) (fun r x ih N hN => ?_) r
  · show [] = _
    induction N with
    | zero => rfl
    | succ n ih =>
      show [] = _ ++ _
      rw [← ih (Nat.zero_le _)]
      rfl
  · have ht : tops (lay pd r) ≤ N ∧ figH (lay pd r) (pd x) < N := by
      rw [lay_snoc, tops_snoc] at hN
      have := Nat.le_max_left (tops (lay pd r)) (figH (lay pd r) (pd x) + 1)
      have := Nat.le_max_right (tops (lay pd r)) (figH (lay pd r) (pd x) + 1)
      omega
    rw [onPad_append, ih N ht.1]
    have hu : ∀ n, tierAt (r ++ [x]) (lay pd (r ++ [x])) n = tierAt r (lay pd r) n ++ if figH (lay pd r) (pd x) = n then [x] else [] := fun n => by
      rw [lay_snoc, tierAt_snoc (lay_len pd r)]
    by_cases hp : p ∈ pd x
    · rw [onPad_in hp]
      refine (tiersOn_put (m := figH (lay pd r) (pd x)) (fun n => ?_) (fun n hn => tier_above hp (by omega)) N ht.2).symm
      rw [hu n, onPad_append]
      congr 1
      by_cases e : figH (lay pd r) (pd x) = n
      · rw [if_pos e, onPad_in hp]
      · rw [if_neg e]
        rfl
    · rw [onPad_out hp, List.append_nil]
      refine tiersOn_congr fun n _ => ?_
      rw [hu n, onPad_append]
      by_cases e : figH (lay pd r) (pd x) = n
      · rw [if_pos e, onPad_out hp, List.append_nil]
      · rw [if_neg e]
        exact (List.append_nil _).symm
/-- on a pad a tier has one figure at most -/
theorem tier_one (pd : Int → List Int) (p : Int) (r : List Int) (n : Nat) : (onPad pd p (tierAt r (lay pd r) n)).length ≤ 1 := by
  refine snocInd (M := fun r => (onPad pd p (tierAt r (lay pd r) n)).length ≤ 1) (Nat.zero_le _) (fun r x ih => ?_) r
  rw [lay_snoc, tierAt_snoc (lay_len pd r), onPad_append]
  by_cases e : figH (lay pd r) (pd x) = n
  · rw [if_pos e]
    by_cases hp : p ∈ pd x
    · rw [tier_above hp (by omega), onPad_in hp]
      exact Nat.le_refl _
    · rw [onPad_out hp, List.append_nil]
      exact ih
  · rw [if_neg e]
    show (_ ++ []).length ≤ 1
    rw [List.append_nil]
    exact ih
theorem perm_one {a b : List Int} (h : a.Perm b) (l : a.length ≤ 1) : a = b := by
  match a, l with
  | [], _ => exact (List.nil_perm.mp h).symm
  | [x], _ => exact List.singleton_perm.mp h
/-- heaps are one just where the lists on each pad are the same -/
theorem eqv_iff {pd : Int → List Int} {r s : List Int} (hr : ∀ x ∈ r, pd x ≠ []) (hs : ∀ x ∈ s, pd x ≠ []) : ((∀ n, (tierAt r (lay pd r) n).Perm (tierAt s (lay pd s) n)) ∧ tops (lay pd r) = tops (lay pd s)) ↔ ∀ p, onPad pd p r = onPad pd p s := by
  constructor
  · intro ⟨h, k⟩ p
    rw [onPad_tiers pd p r _ (Nat.le_refl _), onPad_tiers pd p s _ (Nat.le_refl _), k]
    exact tiersOn_congr fun n _ => perm_one ((h n).filter _) (tier_one pd p r n)
  · intro h
    have e := Eqv.of_onPad r s hr hs h
    exact ⟨e.t, e.k⟩
/-! ### the program's and the law's max -/
theorem max_heights {d : Lain} {ps : List Int} {m : Int} (hm : m ∈ ps.map fun p => ((padH d p : Nat) : Int)) (hl : ∀ y ∈ ps.map fun p => ((padH d p : Nat) : Int), y ≤ m) : m = ((figH d ps : Nat) : Int) := by
  rw [← top_padH]
  obtain ⟨p, hp, rfl⟩ := List.mem_map.mp hm
  have h1 := le_top0 (List.mem_map.mpr ⟨p, hp, rfl⟩ : padH d p ∈ ps.map (padH d))
  have h2 : top0 (ps.map (padH d)) ≤ padH d p := top0_le fun x hx => by
    obtain ⟨q, hq, rfl⟩ := List.mem_map.mp hx
    have := hl _ (List.mem_map.mpr ⟨q, hq, rfl⟩)
    omega
  omega
/-- the law's: the levels of the figures that meet it, and -1 -/
theorem max_levels {d : Lain} {ps : List Int} {m : Int} {ls : List Int} (e : ls = ((d.filter fun e => e.1.any fun p => decide (p ∈ ps)).map fun e => ((e.2 : Nat) : Int))) (hm : m ∈ ls ++ [-1]) (hl : ∀ y ∈ ls ++ [-1], y ≤ m) : m + 1 = ((figH d ps : Nat) : Int) := by
  subst e
  unfold figH
  generalize d.filter (fun e => e.1.any fun p => decide (p ∈ ps)) = g at hm hl ⊢
  have up : top0 (g.map fun e => e.2 + 1) ≤ (m + 1).toNat := top0_le fun x hx => by
    obtain ⟨q, hq, rfl⟩ := List.mem_map.mp hx
    have := hl _ (List.mem_append_left _ (List.mem_map.mpr ⟨q, hq, rfl⟩))
    omega
  have h0 : -1 ≤ m := hl _ (List.mem_append_right _ (List.mem_singleton.mpr rfl))
  rcases List.mem_append.mp hm with h | h
  · obtain ⟨q, hq, rfl⟩ := List.mem_map.mp h
    have := le_top0 (List.mem_map.mpr ⟨q, hq, rfl⟩ : q.2 + 1 ∈ g.map fun e => e.2 + 1)
    omega
  · have := List.mem_singleton.mp h
    omega
theorem tops_max {d : Lain} {m : Int} {ls : List Int} (e : ls = d.map fun e => ((e.2 : Nat) : Int)) (hm : m ∈ ls ++ [-1]) (hl : ∀ y ∈ ls ++ [-1], y ≤ m) : m + 1 = ((tops d : Nat) : Int) := by
  subst e
  unfold tops
  have up : top0 (d.map fun e => e.2 + 1) ≤ (m + 1).toNat := top0_le fun x hx => by
    obtain ⟨q, hq, rfl⟩ := List.mem_map.mp hx
    have := hl _ (List.mem_append_left _ (List.mem_map.mpr ⟨q, hq, rfl⟩))
    omega
  have h0 : -1 ≤ m := hl _ (List.mem_append_right _ (List.mem_singleton.mpr rfl))
  rcases List.mem_append.mp hm with h | h
  · obtain ⟨q, hq, rfl⟩ := List.mem_map.mp h
    have := le_top0 (List.mem_map.mpr ⟨q, hq, rfl⟩ : q.2 + 1 ∈ d.map fun e => e.2 + 1)
    omega
  · have := List.mem_singleton.mp h
    omega
/-- every tier below the count has a figure, so the law's rows and the program's tiers are the same ones -/
theorem tier_empty {pd : Int → List Int} {r : List Int} {n : Nat} (h : tops (lay pd r) ≤ n) : tierAt r (lay pd r) n = [] := by
  cases e : tierAt r (lay pd r) n with
  | nil => rfl
  | cons x xs =>
    have hx : x ∈ tierAt r (lay pd r) n := by
      rw [e]
      exact List.mem_cons_self ..
    have := le_top0 (List.mem_map.mpr ⟨_, tier_lev hx, rfl⟩ : n + 1 ∈ (lay pd r).map fun e => e.2 + 1)
    unfold tops at h
    omega
/-! ### walks over a list or a tuple; a def that may raise, where it does not -/
def iSeq (K : PySem.W.Frag) (tl : TE) : TI := fun σ H R => tl σ H fun x H1 => ∃ a, x = .ref a ∧ ((∃ xs, SqL K H1 a xs) ∧ R (Itl K a) H1 ∨ (∃ xs, SqT K H1 a xs) ∧ R (Itt K a) H1)
theorem pi_seq {X : Cx} {tg l : Expr} {tl : TE} (hl : PE X l tl) : PI X tg l (iSeq X.K tl) := by
  refine ⟨fun pins s σ H R I h => ?_⟩
  refine thn (hl.run pins s σ H _ I h) fun v s1 ⟨x, H1, I1, r1, q1⟩ => ?_
  obtain ⟨a, e, ⟨⟨xs, hq⟩, q⟩ | ⟨⟨xs, hq⟩, q⟩⟩ := q1
  · subst e
    cases r1
    obtain ⟨its, rv, p, hz⟩ := I1.list hq
    refine wpAny_pyIter_list p.isList ?_
    refine ⟨s1.heap.objs.size, [s1.heap.objs.size], _, _, H1, rfl, I1.kept (t' := s1.toks) fun b o e => Heap.get?_push_of_some _ e, turn_list a _, ⟨_, Heap.get?_push_size _ rfl, rfl, rfl⟩, fun b hb => ?_, q⟩
    have e : b = s1.heap.objs.size := by simpa using hb
    subst e
    exact I1.fpOk (Nat.le_refl _) (I1.hok.fresh (Nat.le_refl _))
  · subst e
    cases r1
    obtain ⟨its, rv, p, hz⟩ := I1.tuple hq
    refine wpAny_pyIter_tuple (show s1.heap.IsTuple a its.toArray from p) ?_
    refine ⟨s1.heap.objs.size, [s1.heap.objs.size], _, _, H1, rfl, I1.kept (t' := s1.toks) fun b o e => Heap.get?_push_of_some _ e, turn_tuple a _, ⟨_, Heap.get?_push_size _ rfl, rfl, rfl⟩, fun b hb => ?_, q⟩
    have e : b = s1.heap.objs.size := by simpa using hb
    subst e
    exact I1.fpOk (Nat.le_refl _) (I1.hok.fresh (Nat.le_refl _))
/-- a list or a tuple of these -/
def SqA (K : PySem.W.Frag) (H : Hp) (a : Addr) (xs : List V) : Prop := SqL K H a xs ∨ SqT K H a xs
/-- a for over a list or a tuple that stood at H0 -/
theorem for_seq {K : PySem.W.Frag} {H0 H1 : Hp} {a : Addr} {xs : List V} {g : TG} {tb : L2.TS} {D : Ends} {σ : L2.St} (h : SqA K H0 a xs) (s1 : Same H0 H1) (Pv : Nat → L2.St → Hp → Prop) (h0 : Pv 0 σ H1) (hl : ∀ i σ H, i ≤ xs.length → Pv i σ H → Same H0 H)
    (hs : ∀ i x σ H, xs[i]? = some x → Pv i σ H → g x σ H fun σ2 H2 => tb { D with nx := Pv (i + 1), ct := Pv (i + 1), bk := D.nx } σ2 H2) (hd : ∀ σ H, Pv xs.length σ H → D.nx σ H) :
    (∃ xs, SqL K H1 a xs) ∧ (∃ W : Nat → Nat → L2.St → Hp → Prop, (∃ m, W 0 m σ H1) ∧ ∀ i m σ H, W i m σ H →
      ((Itl K a).stop i H ∧ D.nx σ H) ∨ ((Itl K a).go i H ∧ ∃ N : L2.St → Hp → Prop, (∀ σ' H', N σ' H' → ∃ m', m' < m ∧ W (i + 1) m' σ' H') ∧ ∀ x H', (Itl K a).yld i H x H' → g x σ H' fun σ2 H2 => tb { D with nx := N, ct := N, bk := D.nx } σ2 H2)) ∨
    (∃ xs, SqT K H1 a xs) ∧ (∃ W : Nat → Nat → L2.St → Hp → Prop, (∃ m, W 0 m σ H1) ∧ ∀ i m σ H, W i m σ H →
      ((Itt K a).stop i H ∧ D.nx σ H) ∨ ((Itt K a).go i H ∧ ∃ N : L2.St → Hp → Prop, (∀ σ' H', N σ' H' → ∃ m', m' < m ∧ W (i + 1) m' σ' H') ∧ ∀ x H', (Itt K a).yld i H x H' → g x σ H' fun σ2 H2 => tb { D with nx := N, ct := N, bk := D.nx } σ2 H2)) := by
  rcases h with h | h
  · exact .inl ⟨⟨_, s1.seq h⟩, for_list Pv h0 (fun i σ H hi hP => (hl i σ H hi hP).seq h) hs hd⟩
  · exact .inr ⟨⟨_, Same.tup s1 h⟩, for_tup Pv h0 (fun i σ H hi hP => Same.tup (hl i σ H hi hP) h) hs hd⟩
/-- a comprehension over such -/
theorem lc_seq {K : PySem.W.Frag} {H0 H1 : Hp} {a : Addr} {xs : List V} {g : TG} {tt : TT} {te : TE} {vs : List Nat} {σ : L2.St} {Qd : Addr → Hp → Prop} (h : SqA K H0 a xs) (s1 : Same H0 H1) (Pv : Addr → Nat → Hp → Prop) (h0 : ∀ D, H1 D = none → Pv D 0 (upd H1 D (.lst []))) (hl : ∀ D, H1 D = none → ∀ i H, i ≤ xs.length → Pv D i H → Same H0 H)
    (hs : ∀ D, H1 D = none → ∀ i x H, xs[i]? = some x → Pv D i H → g x (wipe σ vs) H fun σ2 H2 => wipe σ2 vs = wipe σ vs ∧ tt σ2 H2 fun b H3 =>
      if b = true then te σ2 H3 fun y H4 => ∃ acc, H4 D = some (.lst acc) ∧ acc.length < sizeLine ∧ Pv D (i + 1) (upd H4 D (.lst (acc ++ [y]))) else Pv D (i + 1) H3) (hd : ∀ D, H1 D = none → ∀ H, Pv D xs.length H → Qd D H) :
    (∃ xs, SqL K H1 a xs) ∧ (∀ D, H1 D = none → ∃ W : Nat → Nat → Hp → Prop, (∃ m, W 0 m (upd H1 D (.lst []))) ∧ ∀ i m H, W i m H →
      ((Itl K a).stop i H ∧ Qd D H) ∨ ((Itl K a).go i H ∧ ∃ Nx : Hp → Prop, (∀ H', Nx H' → ∃ m', m' < m ∧ W (i + 1) m' H') ∧ ∀ x H', (Itl K a).yld i H x H' → g x (wipe σ vs) H' fun σ2 H2 => wipe σ2 vs = wipe σ vs ∧ tt σ2 H2 fun b H3 =>
        if b = true then te σ2 H3 fun y H4 => ∃ acc, H4 D = some (.lst acc) ∧ acc.length < sizeLine ∧ Nx (upd H4 D (.lst (acc ++ [y]))) else Nx H3)) ∨
    (∃ xs, SqT K H1 a xs) ∧ (∀ D, H1 D = none → ∃ W : Nat → Nat → Hp → Prop, (∃ m, W 0 m (upd H1 D (.lst []))) ∧ ∀ i m H, W i m H →
      ((Itt K a).stop i H ∧ Qd D H) ∨ ((Itt K a).go i H ∧ ∃ Nx : Hp → Prop, (∀ H', Nx H' → ∃ m', m' < m ∧ W (i + 1) m' H') ∧ ∀ x H', (Itt K a).yld i H x H' → g x (wipe σ vs) H' fun σ2 H2 => wipe σ2 vs = wipe σ vs ∧ tt σ2 H2 fun b H3 =>
        if b = true then te σ2 H3 fun y H4 => ∃ acc, H4 D = some (.lst acc) ∧ acc.length < sizeLine ∧ Nx (upd H4 D (.lst (acc ++ [y]))) else Nx H3)) := by
  rcases h with h | h
  · exact .inl ⟨⟨_, s1.seq h⟩, fun D nD => lc_list (K := K) (a := a) (xs := xs) (Pv D) (h0 D nD) (fun i H hi hP => (hl D nD i H hi hP).seq h) (hs D nD) (hd D nD)⟩
  · exact .inr ⟨⟨_, Same.tup s1 h⟩, fun D nD => lc_tup (K := K) (a := a) (xs := xs) (Pv D) (h0 D nD) (fun i H hi hP => Same.tup (hl D nD i H hi hP) h) (hs D nD) (hd D nD)⟩
theorem calm {P : Program} {w : World} {K : PySem.W.Frag} {mg : Str → Option Value} {base : Heap} {k : Nat} {f : Addr} {fd : FuncData} {ps : List Str} {sp sp' : Sp} (F : FnOk P w K mg base (L2.CX P w) k f fd ps sp)
    (h : ∀ vs H Q E, sp' vs H Q E → sp vs H Q fun _ _ _ => False) : FnOk P w K mg base CX0 k f fd ps sp' :=
  ⟨fun vs H Q E q => F.len vs H Q _ (h _ _ _ _ q), fun A outer s H args us vs Q E hr he hb hv hs => codeAny_mono (F.run A outer s H args us vs Q _ hr he hb hv (h _ _ _ _ hs)) fun r s' q => by
    cases r with
    | ok fl =>
      cases fl with
      | ret u => exact q
      | next => exact q
      | brk => exact q
      | cont => exact q
    | error e =>
      obtain ⟨a, B, H', cls, d, h1, h2, h3, h4, h5, h6, h7, z⟩ := q
      exact z.elim⟩
/-! ### x == y and x != y, where the class of x has an own __eq__ and no __ne__ -/
theorem no_sub {K : PySem.W.Frag} {C : Addr} {T : String} {ms : List Value} (e : fastBuiltinMro T = some ms) (h : ms.contains (.ref C) = false) : PySem.W.subIn K (.type T) (.ref C) = some false := by
  show (fastBuiltinMro T).map (·.contains (.ref C)) = some false
  rw [e]
  exact congrArg some h
theorem ifBound_objNe {M : Model} {A : Around} {Ex : Value → Shared → Prop} {s : Shared} {K : PySem.W.Frag} {x C : Addr} {ox : Obj} {od : Option Obj} {args : List Value} {Q : Option Value → Shared → Prop} (X : K.In s.heap) (I : PySem.W.InstAt s.heap x ox C od) (hs : PySem.W.findIn K (.ref C) "__ne__" = some (some (.builtin "object.__ne__")))
    (h : wpAny M A (call (.builtin "object.__ne__") (.ref x :: args)) (fun v => Q (some v)) Ex s) : wpAny M A (callSpecialIfBound? (.ref x) "__ne__" args) Q Ex s := by
  simp only [callSpecialIfBound?, bindSpecialIfBound?]
  refine wpAny_holding (wpAny_bind (wpAny_bind (wpAny_bind (I.type.here ((PySem.W.looks_findIn X hs).here ?_)))))
  refine wpAny_bind (wpAny_askSetting (wpAny_ite ?_))
  have fin : wpAny M A (call (.builtin "object.__ne__") ([.ref x] ++ args) >>= fun v => pure (some v)) Q Ex s := wpAny_bind (wpAny_mono h (fun v s' h' => wpAny_pure h') fun _ _ h' => h')
  split
  · exact wpAny_bind (wpAny_of_eq (F.cmp_object.ne.bind _) (wpAny_pure (by exact fin)))
  · exact wpAny_tryCatch (wpAny_bind (wpAny_of_eq (F.cmp_object.ne.bind _) (wpAny_pure (by exact fin))))
/-- what is known of a class with an own __eq__ at f -/
structure EqTxt (K : PySem.W.Frag) (C f : Addr) : Prop where
  eq : PySem.W.findIn K (.ref C) "__eq__" = some (some (.ref f))
  ne : PySem.W.findIn K (.ref C) "__ne__" = some (some (.builtin "object.__ne__"))
  fn : PySem.W.isFn K (.ref f) = true
  ob : PySem.W.mroIn K C (.type "object") = some true
section
variable {X : Cx} {n : Nat} {CX : CXT} {C f : Addr} {fd : FuncData} {ps : List Str} {sp : Sp} {E : XK}
/-- x an instance of C, y of a type that is not below C: what __eq__ tells is a bool -/
def rOwn (K : PySem.W.Frag) (C : Addr) (sp : Sp) (E : XK) (g : Bool → Bool) : R2 := fun x y H Q => ∃ a dx fs t, x = .ref a ∧ H a = some (.ins C dx fs) ∧ TyX K H y t ∧ PySem.W.notFirst K C t = true ∧ sp [x, y] H (fun v H' => ∃ b, v = .bl b ∧ Q (.bl (g b)) H') E
theorem call_own {A : Around} {pins : List (Addr × Obj)} {s : Shared} {σ : L2.St} {H : Hp} {x y : V} {u v : Value} {Q : VK} (F : FnOk X.prog X.w X.K X.mg X.base CX n f fd ps sp) (hb : Binds X.K fd ps []) (hx : Passes CX X E)
    (hr : Room n A) (fr : A.frames = X.A.frames) (I : Inv X pins σ H s) (rx : RelV x u) (ry : RelV y v) (h : sp [x, y] H Q E) :
    wpAny (model X.prog X.w) A (call (.ref f) [u, v]) (EP X pins σ Q) X.xe s := by
  have e0 : Env0 X.prog X.w X.K X.mg X.base A X.stack s H := by
    have e := I.env0
    exact ⟨by rw [fr]; exact e.frames, e.mod, e.bs, e.bsz, e.funs, e.frf, e.hok, e.bare⟩
  have hl := F.len _ _ _ _ h
  refine wpAny_call (codeAny_mono (F.run A X.stack s H ⟨[u, v], []⟩ [u, v] [x, y] _ E hr e0 (by
    have := hb s [u, v] I.kIn (by simpa using hl)
    simpa using this) (.cons rx (.cons ry .nil)) h) fun r s' hq => ?_)
  cases r with
  | error e => exact hx pins σ H s e s' I hq
  | ok fl =>
    cases fl with
    | ret w => exact I.after hq
    | next => exact False.elim hq
    | brk => exact False.elim hq
    | cont => exact False.elim hq
theorem op_eqOwn (T : EqTxt X.K C f) (F : FnOk X.prog X.w X.K X.mg X.base CX n f fd ps sp) (hb : Binds X.K fd ps []) (hx : Passes CX X E) (hr : Room n X.A) : OpR X (compareOp .Eq) (rOwn X.K C sp E id) := by
  intro pins s σ H x y u v Q I rx ry hq
  obtain ⟨a, dx, fs, t, rfl, ha, ty, nf, h⟩ := hq
  cases rx
  obtain ⟨P, kx, hP, _⟩ := kit_of I ry ty
  obtain ⟨mA, J, _⟩ := ins_get I.hok ha
  obtain ⟨od, J, _⟩ := J.look
  obtain ⟨m, hF⟩ := I.fr
  show wpAny (model X.prog X.w) X.A (richCompare .Eq (.ref a) v) _ _ s
  refine PySem.W.cmp_K (op := .Eq) (tb := t) hr.units0 hF I.ok.mod.kin J (kx.ty _ _ I.kIn hP) nf T.eq T.fn ?_
  refine wpAny_mono (call_own (X := X) F hb hx hr rfl I (x := .ref a) rfl ry h) (fun r s' z => ?_) fun _ _ e => e
  obtain ⟨w, H', I', rw', b, ew, q⟩ := z
  subst ew
  cases rw'
  exact ⟨.bl b, H', I', rfl, q⟩
theorem ne_body {A : Around} {pins : List (Addr × Obj)} {s : Shared} {σ : L2.St} {H : Hp} {a : Addr} {ox : Obj} {od : Option Obj} {y : V} {v : Value} {Q : VK} {R : Fin → Shared → Prop} (T : EqTxt X.K C f) (F : FnOk X.prog X.w X.K X.mg X.base CX n f fd ps sp) (hb : Binds X.K fd ps []) (hx : Passes CX X E)
    (hr : Room n A) (fr : A.frames = X.A.frames) (I : Inv X pins σ H s) (J : PySem.W.InstAt s.heap a ox C od) (ry : RelV y v) (h : sp [.ref a, y] H (fun v H' => ∃ b, v = .bl b ∧ Q (.bl (!b)) H') E)
    (hR : ∀ b s', EP X pins σ Q (.bool b) s' → R (.done (.ret (.bool b))) s') : wpAny (model X.prog X.w) A (Builtin.«object.__ne__» ⟨[.ref a, v], []⟩) R X.xe s := by
  have hc := call_own (X := X) (A := A) F hb hx hr fr I (x := .ref a) rfl ry h
  have KI := I.kIn
  unfold Builtin.«object.__ne__»
  repeat (first
    | with_reducible refine wpAny_cRoomFor hr.units0 ?_
    | (refine wpAny_bind (m := callSpecialIfBound? (.ref a) (Str.ofString "__eq__") [v])
        (PySem.W.ifBound_K KI J T.eq T.fn (wpAny_mono hc (fun r s' z => by
          obtain ⟨w, H', I', rw', b, ew, q⟩ := z
          subst ew
          cases rw'
          have hq := hR (!b) s' ⟨.bl (!b), H', I', rfl, q⟩
          repeat (first | exact hq | exact wpAny_pure hq | exact wpAny_truthy_bool hq | (refine wpAny_bind (m := truthy (.bool _)) (wpAny_truthy_bool ?_)) | wp_step)) fun _ _ e => e)))
    | wp_step)
theorem op_neOwn (T : EqTxt X.K C f) (F : FnOk X.prog X.w X.K X.mg X.base CX n f fd ps sp) (hb : Binds X.K fd ps []) (hx : Passes CX X E) (hr : Room (n + 1) X.A) : OpR X (compareOp .NotEq) (rOwn X.K C sp E not) := by
  intro pins s σ H x y u v Q I rx ry hq
  obtain ⟨a, dx, fs, t, rfl, ha, ty, nf, h⟩ := hq
  cases rx
  obtain ⟨P, kx, hP, _⟩ := kit_of I ry ty
  obtain ⟨mA, J, _⟩ := ins_get I.hok ha
  obtain ⟨od, J, _⟩ := J.look
  have KI := I.kIn
  have one : wpAny (model X.prog X.w) X.A (tryCompare (.ref a) "__ne__" v) (fun r s' => ∃ w, r = some w ∧ EP X pins σ Q w s') X.xe s := by
    unfold tryCompare
    refine wpAny_bind (ifBound_objNe KI J T.ne (wpAny_call (codeAny_call_builtin PySem.F.cmp_object.ne.plain PySem.F.cmpEntry_ne (PySem.W.check_slot PySem.F.cmpKind_ne PySem.F.cmpSplit_ne (J.type.andThen (PySem.W.looks_mroIn KI T.ob)) (PySem.F.cmpArgs_ne _ _) ?_))))
    exact ne_body T F hb hx hr.in1 rfl I J ry h fun b s' z => wpAny_pure ⟨_, rfl, z⟩
  show wpAny (model X.prog X.w) X.A (richCompare .NotEq (.ref a) v) _ _ s
  unfold richCompare
  simp only [oneThing_ref]
  refine wpAny_holding (wpAny_bind (wpAny_cRoomFor hr.units0 ?_))
  refine wpAny_bind (J.type.here (wpAny_bind ((kx.ty _ _ I.kIn hP).here ?_)))
  split
  · rename_i q
    have e : PySem.W.subIn X.K t (.ref C) = some false := by
      rcases Bool.or_eq_true_iff.mp nf with e | e
      · rw [beq_iff_eq.mp e] at q; simp at q
      · exact beq_iff_eq.mp e
    refine wpAny_bind ((PySem.W.looks_subIn KI e).here ?_)
    simp only [Bool.false_eq_true, if_false]
    refine wpAny_bind (wpAny_mono one (fun r s' z => ?_) fun _ _ e => e)
    obtain ⟨w, rfl, hq⟩ := z
    exact wpAny_pure hq
  · refine wpAny_bind (wpAny_pure ?_)
    simp only [Bool.false_eq_true, if_false]
    refine wpAny_bind (wpAny_mono one (fun r s' z => ?_) fun _ _ e => e)
    obtain ⟨w, rfl, hq⟩ := z
    exact wpAny_pure hq
end
/-! ### rows of figures of a book, tiers: the mathematics of tiers_of -/
def pdF (fs : List (List Tri)) (x : Int) : List Int := (fs.getD x.toNat []).map (·.1)
def InF (fs : List (List Tri)) (x : Int) : Prop := 0 ≤ x ∧ x < (fs.length : Nat)
instance {fs : List (List Tri)} {x : Int} : Decidable (InF fs x) := inferInstanceAs (Decidable (_ ∧ _))
def TiersT (K : PySem.W.Frag) (H : Hp) (t : Addr) (ts : List (List Int)) : Prop := ∃ xs, SqT K H t xs ∧ All2 (TupZ K H) xs ts
theorem TiersT.ts {K : PySem.W.Frag} {H H' : Hp} (e : TS K H H') {t : Addr} {ts : List (List Int)} (h : TiersT K H t ts) : TiersT K H' t ts := by
  obtain ⟨xs, h1, h2⟩ := h
  exact ⟨xs, e _ _ h1, h2.mono fun _ _ => TupZ.ts e⟩
def srt (l : List Int) : List Int := l.mergeSort (fun a b => decide (a ≤ b))
theorem srt_perm (l : List Int) : (srt l).Perm l := List.mergeSort_perm ..
theorem srt_up (l : List Int) : (srt l).Pairwise (· ≤ ·) := by
  have := List.pairwise_mergeSort (le := fun (a b : Int) => decide (a ≤ b)) (fun a b c h1 h2 => by simp at *; omega) (fun a b => by simp; omega) l
  exact this.imp fun h => by simpa using h
theorem srt_eq {l m : List Int} (h1 : m.Perm l) (h2 : m.Pairwise (· ≤ ·)) : m = srt l :=
  (h1.trans (srt_perm l).symm).eq_of_pairwise (le := (· ≤ ·)) (fun a b _ _ h h' => by omega) h2 (srt_up l)
theorem srt_congr {l m : List Int} (h : l.Perm m) : srt l = srt m := srt_eq ((srt_perm l).trans h) (srt_up l)
def tiersM (fs : List (List Tri)) (row : List Int) : List (List Int) := (List.range (tops (lay (pdF fs) row))).map fun n => srt (tierAt row (lay (pdF fs) row) n)
theorem heights0 {pd : Int → List Int} (n : Nat) : (List.replicate n [V.int 0]).flatten = (List.range n).map fun (p : Nat) => V.int ((padH (lay pd []) (p : Int) : Nat) : Int) := by
  rw [List.flatten_replicate_singleton]
  have : (fun (p : Nat) => V.int ((padH (lay pd []) (p : Int) : Nat) : Int)) = fun _ => V.int 0 := by
    funext p
    rfl
  rw [this, List.map_const', List.length_range]
theorem set_range {α : Type} (n j : Nat) (f : Nat → α) (v : α) : ((List.range n).map f).set j v = (List.range n).map fun p => if p = j then v else f p := by
  apply List.ext_getElem?
  intro i
  rw [List.getElem?_set, List.getElem?_map, List.getElem?_map, List.length_map, List.length_range]
  by_cases h : i < n
  · rw [List.getElem?_range h]
    by_cases e : j = i
    · subst e
      simp [h]
    · simp [e, show ¬ i = j from fun z => e z.symm]
  · have : (List.range n)[i]? = none := by
      rw [List.getElem?_eq_none_iff, List.length_range]
      omega
    rw [this]
    by_cases e : j = i
    · subst e
      simp [h]
    · simp [e]
theorem pdF_in {cs : List Int} {fs : List (List Tri)} (h : ∀ f ∈ fs, GoodF cs f) {x : Int} (hx : InF fs x) : ∃ f, fs[x.toNat]? = some f ∧ GoodF cs f ∧ fs.getD x.toNat [] = f ∧ pdF fs x = f.map (·.1) := by
  obtain ⟨h0, h1⟩ := hx
  have hi : x.toNat < fs.length := by omega
  have e : fs.getD x.toNat [] = fs[x.toNat] := by
    rw [List.getD_eq_getElem?_getD, List.getElem?_eq_getElem hi]
    rfl
  exact ⟨fs[x.toNat], List.getElem?_eq_getElem hi, h _ (List.getElem_mem hi), e, by unfold pdF; rw [e]⟩
theorem pdF_ne {cs : List Int} {fs : List (List Tri)} (h : ∀ f ∈ fs, GoodF cs f) {x : Int} (hx : InF fs x) : pdF fs x ≠ [] := by
  obtain ⟨f, _, hf, _, e⟩ := pdF_in h hx
  rw [e]
  intro z
  exact hf.ne (List.map_eq_nil_iff.mp z)
theorem pdF_mem {cs : List Int} {fs : List (List Tri)} (h : ∀ f ∈ fs, GoodF cs f) {x : Int} (hx : InF fs x) {p : Int} (hp : p ∈ pdF fs x) : 0 ≤ p ∧ p < (cs.length : Nat) := by
  obtain ⟨f, _, hf, _, e⟩ := pdF_in h hx
  rw [e] at hp
  obtain ⟨t, ht, rfl⟩ := List.mem_map.mp hp
  exact ⟨(hf.all t ht).p0, (hf.all t ht).p1⟩
/-- tiers are the same just where the lists on each pad are -/
theorem tiersM_iff {cs : List Int} {fs : List (List Tri)} (hG : ∀ f ∈ fs, GoodF cs f) {r s : List Int} (hr : ∀ x ∈ r, InF fs x) (hs : ∀ x ∈ s, InF fs x) : tiersM fs r = tiersM fs s ↔ ∀ p, onPad (pdF fs) p r = onPad (pdF fs) p s := by
  rw [← eqv_iff (pd := pdF fs) (fun x hx => pdF_ne hG (hr x hx)) (fun x hx => pdF_ne hG (hs x hx))]
  unfold tiersM
  constructor
  · intro h
    have hk : tops (lay (pdF fs) r) = tops (lay (pdF fs) s) := by
      have := congrArg List.length h
      simpa using this
    refine ⟨fun n => ?_, hk⟩
    by_cases hn : n < tops (lay (pdF fs) r)
    · have := congrArg (fun l => l[n]?) h
      rw [List.getElem?_map, List.getElem?_map, List.getElem?_range hn, List.getElem?_range (hk ▸ hn)] at this
      have e := Option.some.inj this
      exact (srt_perm _).symm.trans ((List.Perm.of_eq e).trans (srt_perm _))
    · rw [tier_empty (by omega), tier_empty (by omega)]
  · rintro ⟨h, k⟩
    rw [k]
    exact List.map_congr_left fun n _ => srt_congr (h n)
theorem flat_on (pd : Int → List Int) (p : Int) (t : Nat → List Int) : ∀ N, onPad pd p ((List.range N).map t).flatten = tiersOn pd p t N
  | 0 => rfl
  | N + 1 => by
    rw [List.range_succ, List.map_append, List.flatten_append, onPad_append, flat_on pd p t N]
    show _ ++ onPad pd p ([t N]).flatten = tiersOn pd p t N ++ onPad pd p (t N)
    rw [List.flatten_cons, List.flatten_nil, List.append_nil]
theorem tiersM_on (fs : List (List Tri)) (row : List Int) (p : Int) : onPad (pdF fs) p (tiersM fs row).flatten = onPad (pdF fs) p row := by
  unfold tiersM
  rw [flat_on, onPad_tiers (pdF fs) p row _ (Nat.le_refl _)]
  exact tiersOn_congr fun n _ => (perm_one ((srt_perm _).symm.filter _) (tier_one (pdF fs) p row n)).symm
theorem tier_mem {pd : Int → List Int} {row : List Int} {n : Nat} {x : Int} (h : x ∈ tierAt row (lay pd row) n) : x ∈ row := by
  unfold tierAt at h
  obtain ⟨e, he, rfl⟩ := List.mem_map.mp h
  exact (List.of_mem_zip (List.mem_filter.mp he).1).1
theorem tiersM_mem {fs : List (List Tri)} {row : List Int} {x : Int} (h : x ∈ (tiersM fs row).flatten) : x ∈ row := by
  obtain ⟨l, hl, hx⟩ := List.mem_flatten.mp h
  obtain ⟨n, _, rfl⟩ := List.mem_map.mp hl
  exact tier_mem ((srt_perm _).mem_iff.mp hx)
/-- the row by its tiers is the same heap -/
theorem tiersM_flat {cs : List Int} {fs : List (List Tri)} (hG : ∀ f ∈ fs, GoodF cs f) {r : List Int} (hr : ∀ x ∈ r, InF fs x) : tiersM fs (tiersM fs r).flatten = tiersM fs r :=
  (tiersM_iff hG (fun x hx => hr x (tiersM_mem hx)) hr).mpr fun p => tiersM_on fs r p
theorem tiersM_app {cs : List Int} {fs : List (List Tri)} (hG : ∀ f ∈ fs, GoodF cs f) {r s : List Int} (hr : ∀ x ∈ r, InF fs x) (hs : ∀ x ∈ s, InF fs x) : tiersM fs ((tiersM fs r).flatten ++ (tiersM fs s).flatten) = tiersM fs (r ++ s) := by
  refine (tiersM_iff hG (fun x hx => ?_) (fun x hx => ?_)).mpr fun p => ?_
  · rcases List.mem_append.mp hx with h | h
    · exact hr x (tiersM_mem h)
    · exact hs x (tiersM_mem h)
  · rcases List.mem_append.mp hx with h | h
    · exact hr x h
    · exact hs x h
  · rw [onPad_append, onPad_append, tiersM_on, tiersM_on]
theorem tier_count (pd : Int → List Int) (r : List Int) : ∀ N, tops (lay pd r) ≤ N → (((List.range N).map (tierAt r (lay pd r))).flatten).length = r.length := by
  refine snocInd (M := fun r => ∀ N, tops (lay pd r) ≤ N → (((List.range N).map (tierAt r (lay pd r))).flatten).length = r.length) (fun N _ => ?_) (fun r x ih N hN => ?_) r
  · rw [List.length_flatten, List.map_map]
    induction N with
    | zero => rfl
    | succ n ih =>
      rw [List.range_succ, List.map_append, List.sum_append, ih (Nat.zero_le _)]
      rfl
  · have ht : tops (lay pd r) ≤ N ∧ figH (lay pd r) (pd x) < N := by
      rw [lay_snoc, tops_snoc] at hN
      have := Nat.le_max_left (tops (lay pd r)) (figH (lay pd r) (pd x) + 1)
      have := Nat.le_max_right (tops (lay pd r)) (figH (lay pd r) (pd x) + 1)
      omega
    have hu : ∀ n, tierAt (r ++ [x]) (lay pd (r ++ [x])) n = tierAt r (lay pd r) n ++ if figH (lay pd r) (pd x) = n then [x] else [] := fun n => by
      rw [lay_snoc, tierAt_snoc (lay_len pd r)]
    have key : ∀ (f g : Nat → List Int) (m : Nat), (∀ n, g n = f n ++ if m = n then [x] else []) → ∀ N, (((List.range N).map g).flatten).length = (((List.range N).map f).flatten).length + if m < N then 1 else 0 := by
      intro f g m hg N
      induction N with
      | zero => rfl
      | succ n ih =>
        rw [List.range_succ, List.map_append, List.map_append, List.flatten_append, List.flatten_append, List.length_append, List.length_append, ih]
        show _ + (([g n]).flatten).length = _ + (([f n]).flatten).length + _
        rw [List.flatten_cons, List.flatten_nil, List.append_nil, List.flatten_cons, List.flatten_nil, List.append_nil, hg n, List.length_append]
        by_cases e : m = n
        · subst e
          rw [if_pos rfl, if_neg (by omega), if_pos (by omega)]
          rfl
        · rw [if_neg e]
          by_cases e2 : m < n
          · rw [if_pos e2, if_pos (by omega)]
            simp
            omega
          · rw [if_neg e2, if_neg (by omega)]
            simp
    rw [key _ _ _ hu N, ih N ht.1, if_pos ht.2, List.length_append]
    rfl
theorem flat_len_congr : ∀ {a b : List (List Int)}, a.map List.length = b.map List.length → a.flatten.length = b.flatten.length := by
  intro a b h
  rw [List.length_flatten, List.length_flatten, h]
theorem tiersM_len (fs : List (List Tri)) (row : List Int) : (tiersM fs row).flatten.length = row.length := by
  rw [← tier_count (pdF fs) row _ (Nat.le_refl _)]
  apply flat_len_congr
  unfold tiersM
  rw [List.map_map, List.map_map]
  exact List.map_congr_left fun n _ => (srt_perm _).length_eq
/-! ### tiers_of -/
abbrev nTiers : List Str := ["book", "row", "heights", "tiers", "figure", "pads", "height", "pad", "tier"]
theorem scTiers : FnScope nTiers ["book", "row"] (defScope sTiers) := ⟨rfl, rfl, rfl, by decide +kernel, rfl, by decide +kernel, by decide +kernel⟩
/-- the first that is no figure -/
def firstBad (fs : List (List Tri)) (row : List Int) : Option Int := row.find? fun x => !decide (InF fs x)
theorem firstBad_none {fs : List (List Tri)} {row : List Int} (h : firstBad fs row = none) : ∀ x ∈ row, InF fs x := fun x hx => by
  have := List.find?_eq_none.mp h x hx
  simpa using this
theorem firstBad_of {fs : List (List Tri)} {row : List Int} {i : Nat} {x : Int} (h0 : ∀ y ∈ row.take i, InF fs y) (hi : row[i]? = some x) (hx : ¬ InF fs x) : firstBad fs row = some x := by
  unfold firstBad
  obtain ⟨hl, e⟩ := List.getElem?_eq_some_iff.mp hi
  have e2 : row = row.take i ++ x :: row.drop (i + 1) := by
    rw [← e, List.getElem_cons_drop_succ_eq_drop, List.take_append_drop]
  rw [e2, List.find?_append]
  rw [List.find?_eq_none.mpr (by
    intro y hy
    have := h0 y hy
    simpa using this)]
  rw [Option.none_or]
  rw [List.find?_cons_of_pos (by simpa using hx)]
def spTiers (K : PySem.W.Frag) (C CN : Addr) : Sp := fun vs H Q E => ∃ (bk rv : Addr) (cs : List Int) (fs : List (List Tri)) (row : List Int), vs = [.ref bk, .ref rv] ∧ BookAt K C H bk cs fs ∧ (∀ f ∈ fs, GoodF cs f) ∧ cs.length ≤ 100 ∧ SqA K H rv (row.map V.int) ∧ row.length ≤ 1000 ∧
  ((∀ x ∈ row, InF fs x) → ∀ H' t, Same H H' → TiersT K H' t (tiersM fs row) → Q (.ref t) H') ∧ ∀ z, firstBad fs row = some z → refuseN 24 CN [z] H E
/-- amid the row: r is laid -/
structure TInv (H0 H' : Hp) (hA tA : Addr) (n : Nat) (pd : Int → List Int) (r : List Int) : Prop where
  sm : Same H0 H'
  hts : H' hA = some (.lst ((List.range n).map fun (p : Nat) => V.int ((padH (lay pd r) (p : Int) : Nat) : Int)))
  trs : ∃ ads : List Addr, H' tA = some (.lst (ads.map V.ref)) ∧ ads.length = tops (lay pd r) ∧ ads.Nodup ∧ ¬ hA ∈ ads ∧ ¬ tA ∈ ads ∧ ∀ (m : Nat) (a : Addr), ads[m]? = some a → H0 a = none ∧ H' a = some (.lst ((tierAt r (lay pd r) m).map V.int))
theorem TInv.same {H0 H' H'' : Hp} {hA tA : Addr} {n : Nat} {pd : Int → List Int} {r : List Int} (h : TInv H0 H' hA tA n pd r) (e : Same H' H'') : TInv H0 H'' hA tA n pd r := by
  obtain ⟨ads, h1, h2, h3, h4, h5, h6⟩ := h.trs
  exact ⟨h.sm.trans e, e _ _ h.hts, ads, e _ _ h1, h2, h3, h4, h5, fun m a ha => ⟨(h6 m a ha).1, e _ _ (h6 m a ha).2⟩⟩
/-- amid a turn: the tiers have room for the figure x -/
structure TMid (H0 H' : Hp) (hA tA : Addr) (n : Nat) (pd : Int → List Int) (r : List Int) (x : Int) (ads : List Addr) : Prop where
  sm : Same H0 H'
  hts : H' hA = some (.lst ((List.range n).map fun (p : Nat) => V.int ((padH (lay pd r) (p : Int) : Nat) : Int)))
  h1 : H' tA = some (.lst (ads.map V.ref))
  h2 : ads.length = tops (lay pd (r ++ [x]))
  h3 : ads.Nodup
  h4 : ¬ hA ∈ ads
  h5 : ¬ tA ∈ ads
  h6 : ∀ (m : Nat) (a : Addr), ads[m]? = some a → H0 a = none ∧ H' a = some (.lst ((tierAt r (lay pd r) m).map V.int))
theorem figH_lt_tops {pd : Int → List Int} {r : List Int} {x : Int} : figH (lay pd r) (pd x) < tops (lay pd (r ++ [x])) := by
  rw [lay_snoc, tops_snoc]
  have := Nat.le_max_right (tops (lay pd r)) (figH (lay pd r) (pd x) + 1)
  omega
/-- a new tier -/
theorem TInv.fresh {H0 H' : Hp} {hA tA nw : Addr} {n : Nat} {pd : Int → List Int} {r : List Int} {x : Int} {ads : List Addr} (sm : Same H0 H')
    (hts : H' hA = some (.lst ((List.range n).map fun (p : Nat) => V.int ((padH (lay pd r) (p : Int) : Nat) : Int))))
    (h1 : H' tA = some (.lst (ads.map V.ref))) (h2 : ads.length = tops (lay pd r)) (h3 : ads.Nodup) (h4 : ¬ hA ∈ ads) (h5 : ¬ tA ∈ ads) (h6 : ∀ (m : Nat) (a : Addr), ads[m]? = some a → H0 a = none ∧ H' a = some (.lst ((tierAt r (lay pd r) m).map V.int)))
    (hne : hA ≠ tA) (hT0 : H0 tA = none) (nn : H' nw = none) (he : figH (lay pd r) (pd x) = tops (lay pd r)) :
    (upd H' nw (.lst [])) tA = some (.lst (ads.map V.ref)) ∧ TMid H0 (upd (upd H' nw (.lst [])) tA (.lst (ads.map V.ref ++ [.ref nw]))) hA tA n pd r x (ads ++ [nw]) := by
  have u := same_upd (o := .lst []) nn
  have hnt : nw ≠ tA := fun z => by rw [z, h1] at nn; cases nn
  have hnh : nw ≠ hA := fun z => by rw [z, hts] at nn; cases nn
  have n0 : H0 nw = none := by
    cases e : H0 nw with
    | none => rfl
    | some o =>
      rw [sm _ _ e] at nn
      cases nn
  have up1 : (upd H' nw (.lst [])) tA = some (.lst (ads.map V.ref)) := u _ _ h1
  refine ⟨up1, ⟨Same.offUpd (sm.trans u) hT0, ?_, ?_, ?_, ?_, ?_, ?_, fun m a ha => ?_⟩⟩
  · rw [upd_ne hne]
    exact u _ _ hts
  · rw [upd_same, List.map_append]
    rfl
  · rw [List.length_append, h2, lay_snoc, tops_new he]
    rfl
  · rw [List.nodup_append]
    refine ⟨h3, by simp, fun a ha b hb => ?_⟩
    rw [List.mem_singleton.mp hb]
    intro z
    obtain ⟨m, hm⟩ := List.getElem?_of_mem ha
    rw [z] at hm
    rw [(h6 m nw hm).2] at nn
    cases nn
  · intro z
    rcases List.mem_append.mp z with z | z
    · exact h4 z
    · exact hnh (List.mem_singleton.mp z).symm
  · intro z
    rcases List.mem_append.mp z with z | z
    · exact h5 z
    · exact hnt (List.mem_singleton.mp z).symm
  · by_cases hm : m < ads.length
    · rw [List.getElem?_append_left hm] at ha
      have hat : a ≠ tA := fun z => h5 (by rw [← z]; exact List.mem_of_getElem? ha)
      refine ⟨(h6 m a ha).1, ?_⟩
      rw [upd_ne hat]
      exact u _ _ (h6 m a ha).2
    · rw [List.getElem?_append_right (by omega)] at ha
      have hm2 : m = ads.length := by
        cases e : m - ads.length with
        | zero => omega
        | succ k =>
          rw [e] at ha
          cases ha
      subst hm2
      rw [Nat.sub_self] at ha
      obtain rfl : nw = a := Option.some.inj ha
      refine ⟨n0, ?_⟩
      rw [upd_ne hnt, upd_same, h2, tier_empty (Nat.le_refl _)]
      rfl
theorem tops_le_len (pd : Int → List Int) (r : List Int) : tops (lay pd r) ≤ r.length := by
  refine snocInd (M := fun r => tops (lay pd r) ≤ r.length) (Nat.zero_le _) (fun r x ih => ?_) r
  rw [lay_snoc, tops_snoc, List.length_append]
  have := figH_le_tops (lay pd r) (pd x)
  refine Nat.max_le.mpr ⟨by omega, ?_⟩
  show _ ≤ r.length + 1
  omega
theorem tier_len (pd : Int → List Int) (r : List Int) (n : Nat) : (tierAt r (lay pd r) n).length ≤ r.length := by
  unfold tierAt
  rw [List.length_map]
  refine Nat.le_trans (List.length_filter_le ..) ?_
  rw [List.length_zip]
  exact Nat.min_le_left ..
theorem nodup_get {α : Type} {l : List α} (h : l.Nodup) {i j : Nat} {a : α} (hi : l[i]? = some a) (hj : l[j]? = some a) : i = j := by
  obtain ⟨h1, e1⟩ := List.getElem?_eq_some_iff.mp hi
  obtain ⟨h2, e2⟩ := List.getElem?_eq_some_iff.mp hj
  exact (List.getElem_inj h).mp (e1.trans e2.symm)
/-- the figure is in its tier, and the heights of its pads are set -/
theorem TMid.done {H0 H' H'' : Hp} {hA tA ad : Addr} {n : Nat} {pd : Int → List Int} {r : List Int} {x : Int} {ads : List Addr} (M : TMid H0 H' hA tA n pd r x ads) (hne : hA ≠ tA) (hH0 : H0 hA = none)
    (had : ads[figH (lay pd r) (pd x)]? = some ad)
    (sm : Off hA (upd H' ad (.lst ((tierAt r (lay pd r) (figH (lay pd r) (pd x))).map V.int ++ [.int x]))) H'')
    (hts : H'' hA = some (.lst ((List.range n).map fun (p : Nat) => V.int (if (p : Int) ∈ pd x then ((figH (lay pd r) (pd x) : Nat) : Int) + 1 else ((padH (lay pd r) (p : Int) : Nat) : Int))))) :
    TInv H0 H'' hA tA n pd (r ++ [x]) := by
  have n0 := (M.h6 _ _ had).1
  have hah : ad ≠ hA := fun z => M.h4 (by rw [← z]; exact List.mem_of_getElem? had)
  have hat : ad ≠ tA := fun z => M.h5 (by rw [← z]; exact List.mem_of_getElem? had)
  refine ⟨fun b o e => ?_, ?_, ads, ?_, M.h2, M.h3, M.h4, M.h5, fun m a ha => ⟨(M.h6 m a ha).1, ?_⟩⟩
  · exact sm b o (ne_of_none e hH0) (by
      rw [upd_ne (ne_of_none e n0)]
      exact M.sm b o e)
  · rw [hts, lay_snoc]
    congr 2
    refine List.map_congr_left fun p _ => ?_
    by_cases e : (p : Int) ∈ pd x
    · rw [if_pos e, padH_snoc_in e]
      congr 1
    · rw [if_neg e, padH_snoc_out e]
  · refine sm tA _ hne.symm ?_
    rw [upd_ne hat.symm]
    exact M.h1
  · have hnh : a ≠ hA := fun z => M.h4 (by rw [← z]; exact List.mem_of_getElem? ha)
    refine sm a _ hnh ?_
    rw [lay_snoc, tierAt_snoc (lay_len pd r)]
    by_cases e : figH (lay pd r) (pd x) = m
    · subst e
      obtain rfl : ad = a := Option.some.inj (had.symm.trans ha)
      rw [upd_same, if_pos rfl, List.map_append]
      rfl
    · have haa : a ≠ ad := fun z => e (nodup_get M.h3 had (by rw [← z]; exact ha))
      rw [upd_ne haa, if_neg e, List.append_nil]
      exact (M.h6 m a ha).2
section
variable {P : Program} {w : World} {K : PySem.W.Frag} {mg : Str → Option Value} {base : Heap}
theorem ok_tiers {f fP fS fM C CN : Addr} {fd fdP fdS fdM : FuncData} {k : Nat} (F : Fun K "tiers_of" "tiers_of" sTiers f fd) (T : BkTxt K mg C) (ml : mg "len" = none) (mx : mg "max" = none) (mt : mg "tuple" = none) (mso : mg "sorted" = none)
    (FP : Fun K "pads_of" "pads_of" sPadsOf fP fdP) (bP : Binds K fdP ["figure"] []) (gP : mg "pads_of" = some (.ref fP)) (GP : FnOk P w K mg base CX0 k fP fdP ["figure"] (spPads K))
    (bS : Binds K fdS ["self", "at"] []) (mS : Meth K C "shape" fS) (GS : FnOk P w K mg base (L2.CX P w) k fS fdS ["self", "at"] (spShpX K C CN))
    (bM : Binds K fdM ["self"] []) (mM : Meth K C "pads" fM) (GM : FnOk P w K mg base CX0 k fM fdM ["self"] (spPadsM K C)) :
    FnOk P w K mg base (L2.CX P w) (k + 1) f fd ["book", "row"] (spTiers K C CN) := by
  refine F.okX scTiers (fun vs H Q E h => ?_) (fun cdv A outer s H vs Q E hr h => ?_)
  · obtain ⟨bk, rv, cs, fs, row, rfl, _⟩ := h
    rfl
  · obtain ⟨bk, rv, cs, fs, row, rfl, hK, hG, hc, hrow, hrl, q, q1⟩ := h
    refine ⟨_, pss_cons (ps_set (i := 2) scTiers.nd rfl (.inr rfl) (pe_op op_rep (pe_lst (pa_cons pe_int pa_nil)) (pe_meth0 (pv 0) T.cl mM GM hr bM .nil pass0)))
      (pss_cons (ps_set (i := 3) scTiers.nd rfl (.inl rfl) (pe_lst pa_nil))
      (pss_cons (ps_for (passes_of rfl) rfl (pi_seq (pv 1)) (pg_name (i := 4) scTiers.nd rfl (.inl rfl))
        (pss_cons (ps_set (i := 5) scTiers.nd rfl (.inl rfl) (pe_call GP hr (by rfl) gP FP.kp bP .nil pass0 (pa_cons (pe_meth (pv 0) T.cl mS GS hr bS .nil (passes_call (takes_of rfl rfl rfl rfl) (fun _ _ _ _ h => h)) (pa_cons (pv 4) pa_nil)) pa_nil)))
        (pss_cons (ps_set (i := 6) scTiers.nd rfl (.inl rfl) (pe_callB (cr_max rfl) (by rfl) mx (by decide +kernel) (pa_cons (pe_lc (own := [("pad", 7)]) (g := gName 7) (tt := tYes) rfl scTiers.nd (pi_list (pv 5))
            (blkOk_by (own := [("pad", 7)]) (N := nTiers) (sc := defScope sTiers) (by decide +kernel)) (fun _ _ _ _ _ => pg_name (i := 7) scTiers.nd rfl (.inl rfl)) (fun _ _ _ _ _ => pts_nil)
            (fun _ _ _ _ _ => pe_ix (r := rIx K) ix_seq (pv 2) (pv 7) (fun _ _ => rfl))) pa_nil)))
        (C8.pss_cut (ps_if (pt_cmpR op_eq (pv 6) (pe_callB call_lenQ (by rfl) ml PySem.boot_len (pa_cons (pv 3) pa_nil)) (nomark _))
            (pss_one (ps_expr (pe_bm PySem.F.plainAttrs_list PySem.F.slot_list_append PySem.F.type_list_append mt_append (pv 3) (pa_cons (pe_lst pa_nil) pa_nil)))) pss_nil)
        (pss_cons (ps_expr (pe_bm PySem.F.plainAttrs_list PySem.F.slot_list_append PySem.F.type_list_append mt_append (pe_ix ix_list (pv 3) (pv 6) (fun _ _ => rfl)) (pa_cons (pv 4) pa_nil)))
        (pss_one (ps_for (passes_of rfl) rfl (pi_list (pv 5)) (pg_name (i := 7) scTiers.nd rfl (.inl rfl))
          (pss_one (ps_asg (pe_op op_add (pv 6) pe_int) (pg_sub (pv 2) (pv 7) set_list))))))))))
      (pss_one (ps_ret (pe_callTy call_tupS (by rfl) mt (by decide +kernel) (pa_cons (pe_lc (own := [("tier", 8)]) (g := gName 8) (tt := tYes) rfl scTiers.nd (pi_list (pv 3))
        (blkOk_by (own := [("tier", 8)]) (N := nTiers) (sc := defScope sTiers) (by decide +kernel)) (fun _ _ _ _ _ => pg_name (i := 8) scTiers.nd rfl (.inl rfl)) (fun _ _ _ _ _ => pts_nil)
        (fun _ _ _ _ _ => pe_callTy (r := rTupS K) call_tupS (by rfl) mt (by decide +kernel) (pa_cons (pe_callB (r := rSortedI K) cr_sortedI (by rfl) mso (by decide +kernel) (pa_cons (pv 8) pa_nil)) pa_nil))) pa_nil)))))), ?_⟩
    obtain ⟨dx, a0, b0, xs0, hbk, hK'⟩ := id hK
    -- heights, tiers
    refine ⟨(show (1 : Nat) ≤ sizeLine by decide), fun z0 nz0 => ?_⟩
    have u0 := same_upd (o := .lst [.int 0]) nz0
    refine ⟨.ref bk, rfl, bk, dx, _, rfl, u0 _ _ hbk, rfl, bk, cs, fs, rfl, hK.same u0, z0, ((cs.length : Nat) : Int), [.int 0], rfl, rfl, upd_same, by omega, by omega, ?_, fun hA nhA => ?_⟩
    · rw [Int.toNat_natCast]
      show 1 * cs.length ≤ sizeLine
      have := small1000 (n := cs.length) (by omega)
      omega
    rw [Int.toNat_natCast, heights0 (pd := pdF fs)]
    have u1 := same_upd (o := .lst ((List.range cs.length).map fun (p : Nat) => V.int ((padH (lay (pdF fs) []) (p : Int) : Nat) : Int))) nhA
    have hh1 : (upd (upd H z0 (.lst [.int 0])) hA (.lst ((List.range cs.length).map fun (p : Nat) => V.int ((padH (lay (pdF fs) []) (p : Int) : Nat) : Int)))) hA = some (.lst ((List.range cs.length).map fun (p : Nat) => V.int ((padH (lay (pdF fs) []) (p : Int) : Nat) : Int))) := upd_same
    have s1 := u0.trans u1
    have hA0 : H hA = none := u0.free nhA
    generalize upd (upd H z0 (.lst [.int 0])) hA (.lst ((List.range cs.length).map fun (p : Nat) => V.int ((padH (lay (pdF fs) []) (p : Int) : Nat) : Int))) = H1 at s1 hh1 ⊢
    clear u0 u1 nhA nz0
    refine ⟨Nat.zero_le _, fun tA ntA => ?_⟩
    have u2 := same_upd (o := .lst []) ntA
    have hne : hA ≠ tA := fun z => by rw [← z, hh1] at ntA; cases ntA
    have tA0 : H tA = none := s1.free ntA
    have I0 : TInv H (upd H1 tA (.lst [])) hA tA cs.length (pdF fs) [] := ⟨s1.trans u2, u2 _ _ hh1, [], upd_same, rfl, List.nodup_nil, fun z => (by cases z), fun z => (by cases z), fun m a ha => (by simp at ha)⟩
    generalize upd H1 tA (.lst []) = H2 at I0 ⊢
    clear s1 hh1 ntA u2
    refine ⟨.ref rv, rfl, rv, rfl, for_seq (K := K) (H0 := H) (xs := row.map V.int) hrow I0.sm (fun i σ H' => ∃ (y4 y5 y6 y7 : Option V), σ = [some (.ref bk), some (.ref rv), some (.ref hA), some (.ref tA), y4, y5, y6, y7, none] ∧ (∀ x ∈ row.take i, InF fs x) ∧ TInv H H' hA tA cs.length (pdF fs) (row.take i))
      ⟨none, none, none, none, rfl, fun x hx => (by simp at hx), I0⟩ (fun i σ H' _ hP => ?_) ?_ ?_⟩
    · obtain ⟨y4, y5, y6, y7, _, _, h⟩ := hP
      exact h.sm
    · rintro i x σ H' hx ⟨y4, y5, y6, y7, rfl, hin, TI⟩
      clear I0
      rw [List.getElem?_map] at hx
      cases hp : row[i]? with
      | none => rw [hp] at hx; cases hx
      | some fg =>
        rw [hp] at hx
        obtain rfl := Option.some.inj hx
        have il : i < row.length := (List.getElem?_eq_some_iff.mp hp).1
        have hbk' := TI.sm _ _ hbk
        -- pads = pads_of(book.shape(figure))
        refine ⟨.ref bk, rfl, bk, dx, _, rfl, hbk', rfl, .int fg, rfl, bk, cs, fs, fg, rfl, hK.same TI.sm, fun j ej hj v hv => ?_, fun bad => (q1 fg (firstBad_of hin hp bad)).later TI.sm⟩
        have hF : InF fs fg := ⟨by omega, by omega⟩
        obtain ⟨F0, hF0, hGF, eF, epd⟩ := pdF_in hG hF
        have ej2 : fg.toNat = j := by omega
        rw [ej2] at eF
        rw [eF] at hv
        have hFl := hGF.len
        refine ⟨v, F0, rfl, hv, by omega, fun H3 pA s3 npA hpA => ?_⟩
        rw [← epd] at hpA
        have TI3 := TI.same s3
        obtain ⟨ads, t1, t2, t3, t4, t5, t6⟩ := TI.trs
        have ph : pA ≠ hA := fun z => by rw [z, TI.hts] at npA; cases npA
        have pt : pA ≠ tA := fun z => by rw [z, t1] at npA; cases npA
        have pn : ¬ pA ∈ ads := fun z => by
          obtain ⟨m, hm⟩ := List.getElem?_of_mem z
          rw [(t6 m pA hm).2] at npA
          cases npA
        -- height = max(..)
        refine ⟨.ref pA, rfl, pA, rfl, ⟨_, SqL.of hpA⟩, fun D nD => ?_⟩
        refine lc_list (K := K) (a := pA) (xs := (pdF fs fg).map V.int) (fun jj H' => Same H3 H' ∧ H' D = some (.lst ((((pdF fs fg).take jj).map fun p => ((padH (lay (pdF fs) (row.take i)) p : Nat) : Int)).map V.int))) ⟨same_upd nD, upd_same⟩ (fun jj H' _ hP => hP.1.seq (SqL.of hpA)) (fun jj x H' hx hP => ?_) (fun H4 hP => ?_)
        · obtain ⟨sm, hD⟩ := hP
          rw [List.getElem?_map] at hx
          cases hp2 : (pdF fs fg)[jj]? with
          | none => rw [hp2] at hx; cases hx
          | some p =>
            rw [hp2] at hx
            obtain rfl := Option.some.inj hx
            obtain ⟨hp0, hp1⟩ := pdF_mem hG hF (List.mem_of_getElem? hp2)
            obtain ⟨n, rfl⟩ := Int.eq_ofNat_of_zero_le hp0
            have hn : n < cs.length := by omega
            refine ⟨rfl, yesT ⟨.ref hA, rfl, .int (n : Nat), rfl, ix_any (.inl (SqL.of (sm _ _ TI3.hts))) (by rw [List.getElem?_map, List.getElem?_range hn]; rfl) ⟨_, hD, ?_, Same.offUpd sm nD, ?_⟩⟩⟩
            · rw [List.length_map, List.length_map, List.length_take, epd, List.length_map]
              exact small1000 (by omega)
            · rw [upd_same, take_snoc hp2, List.map_append, List.map_append]
              rfl
        · obtain ⟨s4, hD⟩ := hP
          rw [List.length_map, List.take_length] at hD
          have hne0 : 0 < (pdF fs fg).length := List.length_pos_iff.mpr (pdF_ne hG hF)
          refine ⟨D, _, rfl, SqL.of hD, by rw [List.length_map]; exact hne0, fun m hm hmx => ?_⟩
          obtain rfl := max_heights hm hmx
          have TI4 := TI3.same s4
          have hp4 := s4 _ _ hpA
          have t1 := (s3.trans s4) _ _ t1
          have t6 : ∀ (m : Nat) (a : Addr), ads[m]? = some a → H a = none ∧ H4 a = some (.lst ((tierAt (row.take i) (lay (pdF fs) (row.take i)) m).map V.int)) := fun m a ha => ⟨(t6 m a ha).1, (s3.trans s4) _ _ (t6 m a ha).2⟩
          clear hm hmx hD nD D s4 s3 TI3 hpA TI
          -- if height == len(tiers)
          refine ⟨fun σ H' => ∃ (y7 : Option V) (ads : List Addr), σ = [some (.ref bk), some (.ref rv), some (.ref hA), some (.ref tA), some (.int fg), some (.ref pA), some (.int ((figH (lay (pdF fs) (row.take i)) (pdF fs fg) : Nat) : Int)), y7, none] ∧ H' pA = some (.lst ((pdF fs fg).map V.int)) ∧ (¬ pA ∈ ads) ∧ TMid H H' hA tA cs.length (pdF fs) (row.take i) fg ads, ?_, ?_⟩
          · refine ⟨_, rfl, .ref tA, rfl, tA, _, rfl, .inl (SqL.of t1), rfl, _, rfl, ?_⟩
            rw [List.length_map, t2]
            by_cases e : figH (lay (pdF fs) (row.take i)) (pdF fs fg) = tops (lay (pdF fs) (row.take i))
            · rw [decide_eq_true (by rw [e])]
              refine iteT ⟨.ref tA, rfl, .inl ⟨rfl, _, SqL.of t1⟩, Nat.zero_le _, fun nw nnw => ?_⟩
              obtain ⟨z1, z2⟩ := TInv.fresh (x := fg) TI4.sm TI4.hts t1 t2 t3 t4 t5 t6 hne tA0 nnw e
              have lt : ads.length ≤ 1000 := by
                rw [t2]
                have := tops_le_len (pdF fs) (row.take i)
                rw [List.length_take] at this
                omega
              refine ⟨tA, _, _, rfl, rfl, z1, by rw [List.length_map]; exact small1000 lt, ?_⟩
              refine ⟨_, _, rfl, ?_, ?_, z2⟩
              · rw [upd_ne pt]
                exact same_upd nnw _ _ hp4
              · intro z
                rcases List.mem_append.mp z with z | z
                · exact pn z
                · rw [← List.mem_singleton.mp z, hp4] at nnw
                  cases nnw
            · rw [decide_eq_false (fun z => e (by have := V.int.inj z; omega))]
              refine iteF ⟨_, ads, rfl, hp4, pn, ⟨TI4.sm, TI4.hts, t1, ?_, t3, t4, t5, t6⟩⟩
              rw [t2, lay_snoc, tops_old e]
          · clear TI4 hp4
            rintro σ H5 ⟨y7', ads, rfl, hp5, pn, M⟩
            obtain ⟨ad, had⟩ : ∃ ad, ads[figH (lay (pdF fs) (row.take i)) (pdF fs fg)]? = some ad := ⟨_, List.getElem?_eq_getElem (by rw [M.h2]; exact figH_lt_tops)⟩
            have hadl := (M.h6 _ _ had).2
            have hap : pA ≠ ad := fun z => pn (by rw [z]; exact List.mem_of_getElem? had)
            have hah : hA ≠ ad := fun z => M.h4 (by rw [z]; exact List.mem_of_getElem? had)
            -- tiers[height].append(figure)
            refine ⟨.ref tA, rfl, _, rfl, tA, _, _, .ref ad, rfl, rfl, SqL.of M.h1, atI_nat (by rw [List.getElem?_map, had]; rfl), .inl ⟨rfl, _, SqL.of hadl⟩, .int fg, rfl, ad, _, _, rfl, rfl, hadl, ?_, ?_⟩
            · rw [List.length_map]
              refine small1000 (Nat.le_trans ?_ hrl)
              have := tier_len (pdF fs) (row.take i) (figH (lay (pdF fs) (row.take i)) (pdF fs fg))
              rw [List.length_take] at this
              omega
            have hp6 : (upd H5 ad (.lst ((tierAt (row.take i) (lay (pdF fs) (row.take i)) (figH (lay (pdF fs) (row.take i)) (pdF fs fg))).map V.int ++ [.int fg]))) pA = some (.lst ((pdF fs fg).map V.int)) := by
              rw [upd_ne hap]
              exact hp5
            have hh6 : (upd H5 ad (.lst ((tierAt (row.take i) (lay (pdF fs) (row.take i)) (figH (lay (pdF fs) (row.take i)) (pdF fs fg))).map V.int ++ [.int fg]))) hA = some (.lst ((List.range cs.length).map fun (p : Nat) => V.int (if (p : Int) ∈ (pdF fs fg).take 0 then ((figH (lay (pdF fs) (row.take i)) (pdF fs fg) : Nat) : Int) + 1 else ((padH (lay (pdF fs) (row.take i)) (p : Int) : Nat) : Int)))) := by
              rw [upd_ne hah, M.hts]
              rfl
            -- for pad in pads
            refine ⟨.ref pA, rfl, pA, rfl, ⟨_, SqL.of hp6⟩, for_list (K := K) (a := pA) (xs := (pdF fs fg).map V.int) (fun jj σ H' => ∃ (y7 : Option V), σ = [some (.ref bk), some (.ref rv), some (.ref hA), some (.ref tA), some (.int fg), some (.ref pA), some (.int ((figH (lay (pdF fs) (row.take i)) (pdF fs fg) : Nat) : Int)), y7, none] ∧ Off hA (upd H5 ad (.lst ((tierAt (row.take i) (lay (pdF fs) (row.take i)) (figH (lay (pdF fs) (row.take i)) (pdF fs fg))).map V.int ++ [.int fg]))) H' ∧ H' hA = some (.lst ((List.range cs.length).map fun (p : Nat) => V.int (if (p : Int) ∈ (pdF fs fg).take jj then ((figH (lay (pdF fs) (row.take i)) (pdF fs fg) : Nat) : Int) + 1 else ((padH (lay (pdF fs) (row.take i)) (p : Int) : Nat) : Int))))) ⟨_, rfl, Off.refl, hh6⟩ (fun jj σ H' _ hP => ?_) ?_ ?_⟩
            · obtain ⟨_, _, off, _⟩ := hP
              exact SqL.of (off _ _ ph hp6)
            · rintro jj x σ H' hx ⟨y7, rfl, off, hh⟩
              rw [List.getElem?_map] at hx
              cases hp2 : (pdF fs fg)[jj]? with
              | none => rw [hp2] at hx; cases hx
              | some p =>
                rw [hp2] at hx
                obtain rfl := Option.some.inj hx
                obtain ⟨hp0, hp1⟩ := pdF_mem hG hF (List.mem_of_getElem? hp2)
                obtain ⟨n, rfl⟩ := Int.eq_ofNat_of_zero_le hp0
                have hn : n < cs.length := by omega
                refine ⟨_, rfl, _, _, rfl, rfl, .ref hA, rfl, .int (n : Nat), rfl, hA, _, _, n, rfl, rfl, hh, ?_, ?_⟩
                · rw [List.length_map, List.length_range]
                  unfold ixN
                  rw [if_pos (by omega), if_pos (by omega), Int.toNat_natCast]
                · refine ⟨_, rfl, off.trans Off.upd, ?_⟩
                  rw [upd_same, set_range]
                  congr 2
                  refine List.map_congr_left fun p' _ => ?_
                  rw [take_snoc hp2]
                  by_cases e : p' = n
                  · subst e
                    rw [if_pos rfl, if_pos (List.mem_append_right _ (List.mem_singleton.mpr rfl))]
                  · rw [if_neg e]
                    congr 1
                    by_cases e2 : (p' : Int) ∈ (pdF fs fg).take jj
                    · rw [if_pos e2, if_pos (List.mem_append_left _ e2)]
                    · rw [if_neg e2, if_neg (fun z => by
                        rcases List.mem_append.mp z with z | z
                        · exact e2 z
                        · exact e (by have := List.mem_singleton.mp z; omega))]
            · rintro σ H' ⟨y7, rfl, off, hh⟩
              rw [List.length_map, List.take_length] at hh
              refine ⟨_, _, _, _, rfl, fun x hx => ?_, ?_⟩
              · rw [take_snoc hp] at hx
                rcases List.mem_append.mp hx with hx | hx
                · exact hin x hx
                · rw [List.mem_singleton.mp hx]
                  exact hF
              · rw [take_snoc hp]
                exact M.done hne hA0 had off hh
    · rintro σ H' ⟨y4, y5, y6, y7, rfl, hin, TI⟩
      rw [List.length_map, List.take_length] at hin TI
      clear I0
      obtain ⟨ads, t1, t2, t3, t4, t5, t6⟩ := TI.trs
      refine ⟨.ref tA, rfl, tA, rfl, ⟨_, SqL.of t1⟩, fun D nD => ?_⟩
      refine lc_list (K := K) (a := tA) (xs := ads.map V.ref) (fun jj H2 => Same H' H2 ∧ ∃ zs, H2 D = some (.lst zs) ∧ All2 (TupZ K H2) zs ((tiersM fs row).take jj)) ⟨same_upd nD, [], upd_same, True.intro⟩ (fun jj H2 _ hP => hP.1.seq (SqL.of t1)) (fun jj x H2 hx hP => ?_) (fun H3 hP => ?_)
      · obtain ⟨sm, zs, hD, hz⟩ := hP
        rw [List.getElem?_map] at hx
        cases hp2 : ads[jj]? with
        | none => rw [hp2] at hx; cases hx
        | some a =>
          rw [hp2] at hx
          obtain rfl := Option.some.inj hx
          have hjl : jj < tops (lay (pdF fs) row) := by
            rw [← t2]
            exact (List.getElem?_eq_some_iff.mp hp2).1
          have htl := tops_le_len (pdF fs) row
          refine ⟨rfl, yesT ⟨.ref a, rfl, a, _, rfl, SqL.of (sm _ _ (t6 jj a hp2).2), fun ns' so p1 p2 nso => ?_⟩⟩
          have u := same_upd (o := .lst (ns'.map V.int)) nso
          refine ⟨so, _, rfl, .inl (SqL.of upd_same), fun l H4 s4 hl => ?_⟩
          have hD4 := (u.trans s4) _ _ hD
          have hzl := hz.len
          rw [List.length_take] at hzl
          refine ⟨_, hD4, small1000 (by omega), Same.offUpd (sm.trans (u.trans s4)) nD, zs ++ [.ref l], upd_same, ?_⟩
          have ht : (tiersM fs row)[jj]? = some ns' := by
            unfold tiersM
            rw [List.getElem?_map, List.getElem?_range hjl, srt_eq p1 p2]
            rfl
          rw [take_snoc ht]
          exact All2.snoc ⟨l, rfl, TS.upd hD4 _ _ hl⟩ (hz.mono fun _ _ => TupZ.ts ((TS.of (u.trans s4)).trans (TS.upd hD4)))
      · obtain ⟨sm, zs, hD, hz⟩ := hP
        rw [List.take_of_length_le (by unfold tiersM; rw [List.length_map, List.length_map, List.length_range, t2]; exact Nat.le_refl _)] at hz
        refine ⟨D, _, rfl, .inl (SqL.of hD), fun l H4 s4 hl => ?_⟩
        exact q hin H4 l ((TI.sm.trans sm).trans s4) ⟨zs, hl, hz.mono fun _ _ => TupZ.ts (TS.of s4)⟩
end
/-! ### a test «a if c else b»; list(..) with its reading by name -/
def rLof (K : PySem.W.Frag) : List V → Hp → VK → Prop := fun xs H Q => ∃ p ys, xs = [.ref p] ∧ (SqL K H p ys ∨ SqT K H p ys) ∧ ∀ l, H l = none → Q (.ref l) (upd H l (.lst ys))
def tIfT (tc ta tb : TT) : TT := fun σ H Q => tc σ H fun k H1 => if k = true then ta σ H1 Q else tb σ H1 Q
section
variable {X : Cx}
theorem call_listK : CallR X (.type "list") (rLof X.K) := call_list_of
theorem pt_ifE {c a b : Expr} {tc ta tb : TT} {pos : Pos} (hc : PT X c tc) (ha : PT X a ta) (hb : PT X b tb) : PT X (.IfExp c a b pos) (tIfT tc ta tb) := ⟨fun pins s σ H Q I h => by
  rw [arm_isTrue_IfExp]
  refine wpAny_bind (thn (hc.run pins s σ H _ I h) fun d s1 ⟨H1, I1, q1⟩ => ?_)
  cases d with
  | true => exact ha.run pins s1 σ H1 Q I1 q1
  | false => exact hb.run pins s1 σ H1 Q I1 q1⟩
end
/-! ### readings of [e for x in xs for y in ys] -/
def Inner (g1 : TG) (tt1 : TT) (te : TE) (vs1 : List Nat) (σ2 : L2.St) (D : Addr) (Nx : Hp → Prop) (J1 : It) (H4 : Hp) : Prop := ∃ W1 : Nat → Nat → Hp → Prop, (∃ m, W1 0 m H4) ∧ ∀ j k H, W1 j k H →
      (J1.stop j H ∧ Nx H) ∨ (J1.go j H ∧ ∃ Nx1 : Hp → Prop, (∀ H', Nx1 H' → ∃ k', k' < k ∧ W1 (j + 1) k' H') ∧ ∀ x H', J1.yld j H x H' → g1 x (wipe σ2 vs1) H' fun σ3 H5 => wipe σ3 vs1 = wipe σ2 vs1 ∧ tt1 σ3 H5 fun b H6 =>
        if b = true then te σ3 H6 fun y H7 => ∃ acc, H7 D = some (.lst acc) ∧ acc.length < sizeLine ∧ Nx1 (upd H7 D (.lst (acc ++ [y]))) else Nx1 H6)
theorem inner_it {J : It} {n : Nat} {G : Hp → Prop} {Y : Nat → Hp → V → Hp → Prop} (w : L2.Walk J n G Y) {g1 : TG} {tt1 : TT} {te : TE} {vs1 : List Nat} {σ2 : L2.St} {H4 : Hp} {D : Addr} {Nx : Hp → Prop} (Pv : Nat → Hp → Prop) (h0 : Pv 0 H4) (hG : ∀ i H, i ≤ n → Pv i H → G H)
    (hs : ∀ i x H H', i < n → Pv i H → Y i H x H' → g1 x (wipe σ2 vs1) H' fun σ3 H5 => wipe σ3 vs1 = wipe σ2 vs1 ∧ tt1 σ3 H5 fun b H6 =>
      if b = true then te σ3 H6 fun y H7 => ∃ acc, H7 D = some (.lst acc) ∧ acc.length < sizeLine ∧ Pv (i + 1) (upd H7 D (.lst (acc ++ [y]))) else Pv (i + 1) H6) (hd : ∀ H, Pv n H → Nx H) : Inner g1 tt1 te vs1 σ2 D Nx J H4 := by
  refine ⟨fun i m H => m = n - i ∧ i ≤ n ∧ Pv i H, ⟨n, by simp, Nat.zero_le _, h0⟩, ?_⟩
  rintro i m H ⟨rfl, hi, p⟩
  have q := hG i H hi p
  by_cases hlt : i < n
  · exact .inr ⟨w.goes i H hlt q, Pv (i + 1), fun H' p' => ⟨n - (i + 1), by omega, rfl, hlt, p'⟩, fun x H' y => hs i x H H' hlt p (w.yields i H x H' hlt q y)⟩
  · have e : i = n := by omega
    subst e
    exact .inl ⟨w.stops H q, hd H p⟩
theorem outer_it {J : It} {n : Nat} {G : Hp → Prop} {Y : Nat → Hp → V → Hp → Prop} (w : L2.Walk J n G Y) {g : TG} {tt : TT} {wi1 : TI} {g1 : TG} {tt1 : TT} {te : TE} {vs vs1 : List Nat} {σ : L2.St} {H1 : Hp} {D : Addr} {Qd : Hp → Prop} (Pv : Nat → Hp → Prop) (h0 : Pv 0 (upd H1 D (.lst []))) (hG : ∀ i H, i ≤ n → Pv i H → G H)
    (hs : ∀ i x H H', i < n → Pv i H → Y i H x H' → g x (wipe σ vs) H' fun σ2 H2 => wipe σ2 vs = wipe σ vs ∧ tt σ2 H2 fun b H3 =>
      if b = true then wi1 σ2 H3 (Inner g1 tt1 te vs1 σ2 D (Pv (i + 1))) else Pv (i + 1) H3) (hd : ∀ H, Pv n H → Qd H) :
    ∃ W : Nat → Nat → Hp → Prop, (∃ m, W 0 m (upd H1 D (.lst []))) ∧ ∀ i m H, W i m H →
      (J.stop i H ∧ Qd H) ∨ (J.go i H ∧ ∃ Nx : Hp → Prop, (∀ H', Nx H' → ∃ m', m' < m ∧ W (i + 1) m' H') ∧ ∀ x H', J.yld i H x H' → g x (wipe σ vs) H' fun σ2 H2 => wipe σ2 vs = wipe σ vs ∧ tt σ2 H2 fun b H3 =>
        if b = true then wi1 σ2 H3 fun J1 H4 => ∃ W1 : Nat → Nat → Hp → Prop, (∃ m, W1 0 m H4) ∧ ∀ j k H, W1 j k H →
          (J1.stop j H ∧ Nx H) ∨ (J1.go j H ∧ ∃ Nx1 : Hp → Prop, (∀ H', Nx1 H' → ∃ k', k' < k ∧ W1 (j + 1) k' H') ∧ ∀ x H', J1.yld j H x H' → g1 x (wipe σ2 vs1) H' fun σ3 H5 => wipe σ3 vs1 = wipe σ2 vs1 ∧ tt1 σ3 H5 fun b H6 =>
            if b = true then te σ3 H6 fun y H7 => ∃ acc, H7 D = some (.lst acc) ∧ acc.length < sizeLine ∧ Nx1 (upd H7 D (.lst (acc ++ [y]))) else Nx1 H6)
        else Nx H3) := by
  refine ⟨fun i m H => m = n - i ∧ i ≤ n ∧ Pv i H, ⟨n, by simp, Nat.zero_le _, h0⟩, ?_⟩
  rintro i m H ⟨rfl, hi, p⟩
  have q := hG i H hi p
  by_cases hlt : i < n
  · exact .inr ⟨w.goes i H hlt q, Pv (i + 1), fun H' p' => ⟨n - (i + 1), by omega, rfl, hlt, p'⟩, fun x H' y => hs i x H H' hlt p (w.yields i H x H' hlt q y)⟩
  · have e : i = n := by omega
    subst e
    exact .inl ⟨w.stops H q, hd H p⟩
/-! ### Heap: __init__, book, row, layers, __len__ -/
def hpF (o t : Addr) : List (Str × V) := [("owner", .ref o), ("tiers", .ref t)]
theorem hpF_tiers (o t : Addr) : List.lookup (Str.ofString "tiers") (hpF o t) = some (V.ref t) := rfl
theorem hpF_owner (o t : Addr) : List.lookup (Str.ofString "owner") (hpF o t) = some (V.ref o) := rfl
def HeapAt (K : PySem.W.Frag) (CH : Addr) (H : Hp) (p bk : Addr) (ts : List (List Int)) : Prop := ∃ dx t, H p = some (.ins CH dx (hpF bk t)) ∧ TiersT K H t ts
theorem HeapAt.same {K : PySem.W.Frag} {CH : Addr} {H H' : Hp} {p bk : Addr} {ts : List (List Int)} (h : HeapAt K CH H p bk ts) (e : Same H H') : HeapAt K CH H' p bk ts := by
  obtain ⟨dx, t, h1, h2⟩ := h
  exact ⟨dx, t, e _ _ h1, h2.ts (TS.of e)⟩
structure HpTxt (K : PySem.W.Frag) (mg : Str → Option Value) (C : Addr) : Prop where
  cl : Cls K C
  nO : NoAttr K C "owner"
  nT : NoAttr K C "tiers"
  mgC : mg "Heap" = some (.ref C)
abbrev nHInit : List Str := ["self", "book", "row"]
theorem scHInit : FnScope nHInit ["self", "book", "row"] (defScope sHInit) := ⟨rfl, rfl, rfl, by decide +kernel, rfl, by decide +kernel, by decide +kernel⟩
def spHInit (K : PySem.W.Frag) (C CH CN : Addr) : Sp := fun vs H Q E => ∃ (p dx bk rv : Addr) (cs : List Int) (fs : List (List Tri)) (row : List Int), vs = [.ref p, .ref bk, .ref rv] ∧ H p = some (.ins CH dx []) ∧ BookAt K C H bk cs fs ∧ (∀ f ∈ fs, GoodF cs f) ∧ cs.length ≤ 100 ∧ SqA K H rv (row.map V.int) ∧ row.length ≤ 1000 ∧
  ((∀ x ∈ row, InF fs x) → ∀ H', Off p H H' → HeapAt K CH H' p bk (tiersM fs row) → Q .non H') ∧ ∀ z, firstBad fs row = some z → ∀ (d : Addr) (H' : Hp), Off p H H' → H' d = some (.xd (rFs 24 ([z].map V.int))) → E (.ref CN) (some d) H'
theorem sqA_off {K : PySem.W.Frag} {H H' : Hp} {p C dx b : Addr} {fs : List (Str × V)} {xs : List V} (e : Off p H H') (h : H p = some (.ins C dx fs)) (q : SqA K H b xs) : SqA K H' b xs := by
  rcases q with q | q
  · exact .inl (seqL_off e h q)
  · exact .inr (TS.ins e h _ _ q)
theorem BookAt.off {K : PySem.W.Frag} {C : Addr} {H H' : Hp} {p q CH dx : Addr} {fl : List (Str × V)} {cs : List Int} {fs : List (List Tri)} (h : BookAt K C H q cs fs) (e : Off p H H') (hp : H p = some (.ins CH dx fl)) (n : q ≠ p) : BookAt K C H' q cs fs := by
  obtain ⟨dx, a, b, xs, h1, h2, h3, h4⟩ := h
  have t : TS K H H' := TS.ins e hp
  exact ⟨dx, a, b, xs, e _ _ n h1, t _ _ h2, t _ _ h3, h4.mono fun _ _ => FigT.ts t⟩
section
variable {P : Program} {w : World} {K : PySem.W.Frag} {mg : Str → Option Value} {base : Heap}
theorem ok_hinit {f C CH CN fT : Addr} {fd fdT : FuncData} {k : Nat} {dvs : List V} {kws : List (Str × V)} (F : FunD K "__init__" "Heap.__init__" (defArgs sHInit) (defBody sHInit) (defScope sHInit) dvs kws f fd) (T : HpTxt K mg CH)
    (FT : Fun K "tiers_of" "tiers_of" sTiers fT fdT) (bT : Binds K fdT ["book", "row"] []) (gT : mg "tiers_of" = some (.ref fT)) (GT : FnOk P w K mg base (L2.CX P w) k fT fdT ["book", "row"] (spTiers K C CN)) :
    FnOk P w K mg base (L2.CX P w) (k + 1) f fd ["self", "book", "row"] (spHInit K C CH CN) := by
  refine F.ok (CX := L2.CX P w) scHInit (fun vs H Q E h => ?_) (fun cdv A outer s H vs Q E hr h => ?_)
  · obtain ⟨p, dx, bk, rv, cs, fs, row, rfl, _⟩ := h
    rfl
  · obtain ⟨p, dx, bk, rv, cs, fs, row, rfl, hp, hK, hG, hc, hrow, hrl, q, q1⟩ := h
    refine ⟨_, pss_cons (ps_fld (pv 0) (pv 1) rfl) (pss_one (ps_fld (pv 0) (pe_call GT hr (by rfl) gT FT.kp bT .nil (passes_call (takes_of rfl rfl rfl rfl) (fun _ _ _ _ h => h)) (pa_cons (pv 1) (pa_cons (pv 2) pa_nil))) rfl)), ?_⟩
    have hbp : bk ≠ p := fun z => by
      obtain ⟨d1, a1, b1, x1, h1, _⟩ := hK
      rw [z, hp] at h1
      cases h1
    refine ⟨.ref bk, rfl, .ref p, rfl, p, CH, dx, _, rfl, hp, T.cl, T.nO, (show 0 < 1000 by decide), ?_⟩
    have off : Off p H (upd H p (.ins CH dx (putF "owner" (.ref bk) []))) := Off.upd
    have hp1 : (upd H p (.ins CH dx (putF "owner" (.ref bk) []))) p = some (.ins CH dx [("owner", .ref bk)]) := upd_same
    have hK1 := hK.off off hp hbp
    have hr1 := sqA_off off hp hrow
    generalize upd H p (.ins CH dx (putF "owner" (.ref bk) [])) = H1 at off hp1 hK1 hr1 ⊢
    refine ⟨.ref bk, rfl, .ref rv, rfl, bk, rv, cs, fs, row, rfl, hK1, hG, hc, hr1, hrl, fun hin H2 t s2 ht => ?_, fun z hz d H2 s2 hd => q1 z hz d H2 (off.trans (Off.same s2)) hd⟩
    have hp2 := s2 _ _ hp1
    refine ⟨.ref p, rfl, p, CH, dx, _, rfl, hp2, T.cl, T.nT, (show 1 < 1000 by decide), ?_⟩
    have off2 : Off p H2 (upd H2 p (.ins CH dx (putF "tiers" (.ref t) [("owner", .ref bk)]))) := Off.upd
    exact q hin _ ((off.trans (Off.same s2)).trans off2) ⟨dx, t, upd_same, ht.ts (TS.ins off2 hp2)⟩
end
theorem scHBook : FnScope ["self"] ["self"] (defScope sHBook) := ⟨rfl, rfl, rfl, by decide +kernel, rfl, by decide +kernel, by decide +kernel⟩
def spHBook (K : PySem.W.Frag) (CH : Addr) : Sp := fun vs H Q _ => ∃ (p bk : Addr) (ts : List (List Int)), vs = [.ref p] ∧ HeapAt K CH H p bk ts ∧ Q (.ref bk) H
abbrev sHRow : Stmt := inClass (topS 55) 3
abbrev nHRow : List Str := ["self", "tier", "figure"]
theorem scHRow : FnScope nHRow ["self"] (defScope sHRow) := ⟨rfl, rfl, rfl, by decide +kernel, rfl, by decide +kernel, by decide +kernel⟩
def spHRow (K : PySem.W.Frag) (CH : Addr) : Sp := fun vs H Q _ => ∃ (p bk : Addr) (ts : List (List Int)), vs = [.ref p] ∧ HeapAt K CH H p bk ts ∧ ts.flatten.length ≤ 1000 ∧ ∀ H' l, Same H H' → H l = none → H' l = some (.lst (ts.flatten.map V.int)) → Q (.ref l) H'
abbrev sHLay : Stmt := inClass (topS 55) 2
abbrev nHLay : List Str := ["self", "tier"]
theorem scHLay : FnScope nHLay ["self"] (defScope sHLay) := ⟨rfl, rfl, rfl, by decide +kernel, rfl, by decide +kernel, by decide +kernel⟩
/-- a new list of new lists -/
def LstZ (K : PySem.W.Frag) (H : Hp) (v : V) (t : List Int) : Prop := ∃ a, v = .ref a ∧ SqL K H a (t.map V.int)
def spHLay (K : PySem.W.Frag) (CH : Addr) : Sp := fun vs H Q _ => ∃ (p bk : Addr) (ts : List (List Int)), vs = [.ref p] ∧ HeapAt K CH H p bk ts ∧ ts.length ≤ 1000 ∧ ∀ H' l xs, Same H H' → H l = none → H' l = some (.lst xs) → All2 (fun v t => ∃ a, v = .ref a ∧ H a = none ∧ H' a = some (.lst (t.map V.int))) xs ts → Q (.ref l) H'
theorem flat_take_snoc {α : Type} {ts : List (List α)} {i : Nat} {t : List α} (h : ts[i]? = some t) : (ts.take (i + 1)).flatten = (ts.take i).flatten ++ t := by
  rw [take_snoc h, List.flatten_append, List.flatten_cons, List.flatten_nil, List.append_nil]
theorem flat_take_le {α : Type} (ts : List (List α)) (i : Nat) : (ts.take i).flatten.length ≤ ts.flatten.length := by
  conv => rhs; rw [← List.take_append_drop i ts]
  rw [List.flatten_append, List.length_append]
  omega
section
variable {P : Program} {w : World} {K : PySem.W.Frag} {mg : Str → Option Value} {base : Heap}
theorem ok_hbook {f CH : Addr} {fd : FuncData} {k : Nat} (F : Fun K "book" "Heap.book" sHBook f fd) (T : HpTxt K mg CH) : FnOk P w K mg base CX0 (k + 1) f fd ["self"] (spHBook K CH) := by
  refine F.ok scHBook (fun vs H Q E h => ?_) (fun cdv A outer s H vs Q E hr h => ?_)
  · obtain ⟨p, bk, ts, rfl, _⟩ := h
    rfl
  · obtain ⟨p, bk, ts, rfl, ⟨dx, t, hp, ht⟩, q⟩ := h
    exact ⟨_, pss_one (ps_ret (pe_fld (pv 0) rfl)), .ref p, rfl, p, CH, dx, _, _, rfl, hp, T.cl, T.nO, hpF_owner bk t, q⟩
theorem ok_hrow {f CH : Addr} {fd : FuncData} {k : Nat} (F : Fun K "row" "Heap.row" sHRow f fd) (T : HpTxt K mg CH) : FnOk P w K mg base CX0 (k + 1) f fd ["self"] (spHRow K CH) := by
  refine F.ok scHRow (fun vs H Q E h => ?_) (fun cdv A outer s H vs Q E hr h => ?_)
  · obtain ⟨p, bk, ts, rfl, _⟩ := h
    rfl
  · obtain ⟨p, bk, ts, rfl, ⟨dx, t, hp, xs, ht, hxs⟩, hl, q⟩ := h
    refine ⟨_, pss_one (ps_ret (pe_lc2 (own := [("tier", 1), ("figure", 2)]) (vs1 := [2]) (g := gName 1) (tt := tYes) (wi1 := iTup K (tVar 1)) (g1 := gName 2) (tt1 := tYes) (te := tVar 2) rfl scHRow.nd (pi_tup (pe_fld (pv 0) rfl))
      (blkOk_by (own := [("tier", 1), ("figure", 2)]) (N := nHRow) (sc := defScope sHRow) (by decide +kernel)) (by decide) (fun _ _ _ _ _ => pg_name (i := 1) scHRow.nd rfl (.inl rfl)) (fun _ _ _ _ _ => pts_nil)
      (fun _ _ _ _ _ => pi_tup (pv 1)) (fun _ _ _ _ _ => pg_name (i := 2) scHRow.nd rfl (.inl rfl)) (fun _ _ _ _ _ => pts_nil) (fun _ _ _ _ _ => pv 2))), ?_⟩
    refine ⟨.ref p, rfl, p, CH, dx, _, _, rfl, hp, T.cl, T.nT, hpF_tiers bk t, t, rfl, ⟨_, ht⟩, fun D nD => ?_⟩
    refine outer_it (walk_tup (K := K) (a := t) (xs := xs)) (fun i H' => Same H H' ∧ H' D = some (.lst ((ts.take i).flatten.map V.int))) ⟨same_upd nD, upd_same⟩ (fun i H' _ hP => Same.tup hP.1 ht) (fun i x H' H'' hi hP hY => ?_) (fun H1 hP => ?_)
    · obtain ⟨sm, hD⟩ := hP
      obtain ⟨rfl, hx⟩ := hY
      obtain ⟨tr, htr, ta, rfl, hta⟩ := hxs.get hx
      refine ⟨rfl, yesT ⟨.ref ta, rfl, ta, rfl, ⟨_, Same.tup sm hta⟩, ?_⟩⟩
      refine inner_it (walk_tup (K := K) (a := ta) (xs := tr.map V.int)) (fun j H' => Same H H' ∧ H' D = some (.lst (((ts.take i).flatten ++ tr.take j).map V.int))) ⟨sm, by rw [List.take_zero, List.append_nil]; exact hD⟩ (fun j H' _ hP => Same.tup hP.1 hta) (fun j y H' H'' hj hP hY => ?_) (fun H2 hP => ?_)
      · obtain ⟨sm2, hD2⟩ := hP
        obtain ⟨rfl, hy⟩ := hY
        rw [List.getElem?_map] at hy
        cases hp2 : tr[j]? with
        | none => rw [hp2] at hy; cases hy
        | some z =>
          rw [hp2] at hy
          obtain rfl := Option.some.inj hy
          have l1 := flat_take_le ts (i + 1)
          rw [flat_take_snoc htr, List.length_append] at l1
          refine ⟨rfl, yesT ⟨.int z, rfl, _, hD2, ?_, Same.offUpd sm2 nD, ?_⟩⟩
          · rw [List.length_map, List.length_append, List.length_take]
            exact small1000 (by omega)
          · rw [upd_same, take_snoc hp2, ← List.append_assoc, List.map_append (l₂ := [z])]
            rfl
      · obtain ⟨sm2, hD2⟩ := hP
        rw [List.length_map, List.take_length, ← flat_take_snoc htr] at hD2
        exact ⟨sm2, hD2⟩
    · obtain ⟨sm, hD⟩ := hP
      rw [hxs.len, List.take_length] at hD
      exact q H1 D sm nD hD
theorem ok_hlay {f CH : Addr} {fd : FuncData} {k : Nat} (F : Fun K "layers" "Heap.layers" sHLay f fd) (T : HpTxt K mg CH) (ml : mg "list" = none) : FnOk P w K mg base CX0 (k + 1) f fd ["self"] (spHLay K CH) := by
  refine F.ok scHLay (fun vs H Q E h => ?_) (fun cdv A outer s H vs Q E hr h => ?_)
  · obtain ⟨p, bk, ts, rfl, _⟩ := h
    rfl
  · obtain ⟨p, bk, ts, rfl, ⟨dx, t, hp, xs, ht, hxs⟩, hl, q⟩ := h
    refine ⟨_, pss_one (ps_ret (pe_lc (own := [("tier", 1)]) (g := gName 1) (tt := tYes) rfl scHLay.nd (pi_tup (pe_fld (pv 0) rfl))
      (blkOk_by (own := [("tier", 1)]) (N := nHLay) (sc := defScope sHLay) (by decide +kernel)) (fun _ _ _ _ _ => pg_name (i := 1) scHLay.nd rfl (.inl rfl)) (fun _ _ _ _ _ => pts_nil)
      (fun _ _ _ _ _ => pe_callTy (r := rLof K) call_listK (by rfl) ml (by decide +kernel) (pa_cons (pv 1) pa_nil)))), ?_⟩
    refine ⟨.ref p, rfl, p, CH, dx, _, _, rfl, hp, T.cl, T.nT, hpF_tiers bk t, t, rfl, ⟨_, ht⟩, fun D nD => ?_⟩
    refine lc_tup (K := K) (a := t) (xs := xs) (fun i H' => Same H H' ∧ ∃ zs, H' D = some (.lst zs) ∧ All2 (fun v t => ∃ a, v = .ref a ∧ a ≠ D ∧ H a = none ∧ H' a = some (.lst (t.map V.int))) zs (ts.take i)) ⟨same_upd nD, [], upd_same, True.intro⟩ (fun i H' _ hP => Same.tup hP.1 ht) (fun i x H' hx hP => ?_) (fun H1 hP => ?_)
    · obtain ⟨sm, zs, hD, hz⟩ := hP
      obtain ⟨tr, htr, ta, rfl, hta⟩ := hxs.get hx
      have hzl := hz.len
      rw [List.length_take] at hzl
      refine ⟨rfl, yesT ⟨.ref ta, rfl, ta, _, rfl, .inr (Same.tup sm hta), fun l nl => ?_⟩⟩
      have u := same_upd (o := .lst (tr.map V.int)) nl
      have hD2 := u _ _ hD
      have hlD : l ≠ D := fun z => by rw [z, hD] at nl; cases nl
      refine ⟨_, hD2, small1000 (by omega), Same.offUpd (sm.trans u) nD, zs ++ [.ref l], upd_same, ?_⟩
      rw [take_snoc htr]
      refine All2.snoc ⟨l, rfl, hlD, sm.free nl, by rw [upd_ne hlD]; exact upd_same⟩ (hz.mono fun v t ⟨a, e1, e2, e3, e4⟩ => ⟨a, e1, e2, e3, by rw [upd_ne e2]; exact u _ _ e4⟩)
    · obtain ⟨sm, zs, hD, hz⟩ := hP
      rw [hxs.len, List.take_length] at hz
      exact q H1 D zs sm nD hD (hz.mono fun v t ⟨a, e1, e2, e3, e4⟩ => ⟨a, e1, e3, e4⟩)
end
abbrev sHLen : Stmt := inClass (topS 55) 17
theorem scHLen : FnScope ["self"] ["self"] (defScope sHLen) := ⟨rfl, rfl, rfl, by decide +kernel, rfl, by decide +kernel, by decide +kernel⟩
def spHLen (K : PySem.W.Frag) (CH : Addr) : Sp := fun vs H Q _ => ∃ (p bk : Addr) (ts : List (List Int)), vs = [.ref p] ∧ HeapAt K CH H p bk ts ∧ ts.flatten.length ≤ 1000 ∧ ∀ H', Same H H' → Q (.int (ts.flatten.length : Nat)) H'
section
variable {P : Program} {w : World} {K : PySem.W.Frag} {mg : Str → Option Value} {base : Heap}
theorem ok_hlen {f CH fR : Addr} {fd fdR : FuncData} {k : Nat} (F : Fun K "__len__" "Heap.__len__" sHLen f fd) (T : HpTxt K mg CH) (ml : mg "len" = none)
    (bR : Binds K fdR ["self"] []) (mR : Meth K CH "row" fR) (GR : FnOk P w K mg base CX0 k fR fdR ["self"] (spHRow K CH)) : FnOk P w K mg base CX0 (k + 1) f fd ["self"] (spHLen K CH) := by
  refine F.ok scHLen (fun vs H Q E h => ?_) (fun cdv A outer s H vs Q E hr h => ?_)
  · obtain ⟨p, bk, ts, rfl, _⟩ := h
    rfl
  · obtain ⟨p, bk, ts, rfl, hH, hl, q⟩ := h
    obtain ⟨dx, t, hp, ht⟩ := id hH
    refine ⟨_, pss_one (ps_ret (pe_callB call_lenQ (by rfl) ml PySem.boot_len (pa_cons (pe_meth0 (pv 0) T.cl mR GR hr bR .nil pass0) pa_nil))), ?_⟩
    refine ⟨.ref p, rfl, p, dx, _, rfl, hp, rfl, p, bk, ts, rfl, hH, hl, fun H' l s' _ hl' => ⟨l, _, rfl, .inl (SqL.of hl'), ?_⟩⟩
    rw [List.length_map]
    exact q H' s'
end
/-! ### the default of Heap's row and of Book's figures: the tuple without things -/
theorem emptyB_ok {K : PySem.W.Frag} {a : Addr} (h : emptyB K a = true) (H : Hp) : SqT K H a [] := by
  unfold emptyB at h
  split at h
  · rename_i c od its n sl e
    obtain ⟨h1, h2⟩ := He.ba h
    have h1 := of_decide_eq_true h1
    have h2 := of_decide_eq_true h2
    subst h1
    obtain rfl : its = #[] := Array.eq_empty_of_size_eq_zero h2
    exact .inr ⟨_, #[], n, e, rfl, rfl, Nat.zero_le _, .nil⟩
  · cases h
/-! ### figures as data -/
theorem eqvAll_map {α : Type} [DecidableEq α] (f : α → PyData) (h : ∀ a b, PyData.eqv (f a) (f b) = decide (a = b)) : ∀ as bs : List α, PyData.eqvAll (as.map f) (bs.map f) = decide (as = bs)
  | [], [] => by simp [PyData.eqvAll]
  | [], _ :: _ => by simp [PyData.eqvAll]
  | _ :: _, [] => by simp [PyData.eqvAll]
  | a :: as, b :: bs => by
    simp only [List.map_cons, PyData.eqvAll, h a b, eqvAll_map f h as bs]
    by_cases e : a = b <;> by_cases e' : as = bs <;> simp [e, e']
theorem layAll_map {α : Type} (f : α → PyData) (h : ∀ a, PyData.canLay0 (f a) = true) : ∀ as : List α, PyData.canLayAll0 (as.map f) = true
  | [] => by simp [PyData.canLayAll0]
  | a :: as => by simp [PyData.canLayAll0, h a, layAll_map f h as]
theorem depthAll_map {α : Type} (f : α → PyData) (n : Nat) (h : ∀ a, PyData.depth (f a) ≤ n) : ∀ as : List α, PyData.depthAll (as.map f) ≤ n
  | [] => by simp [PyData.depthAll]
  | a :: as => by
    simp only [List.map_cons, PyData.depthAll]
    have := h a
    have := depthAll_map f n h as
    omega
def zD (t : List Int) : PyData := .tuple (t.map PyData.int)
def triD (t : Tri) : PyData := .tuple [.int t.1, .int t.2.1, .int t.2.2]
def figD (f : List Tri) : PyData := .tuple (f.map triD)
def figsD (fs : List (List Tri)) : PyData := .tuple (fs.map figD)
theorem shaped_of {d : PyData} (h : PyData.canLay0 d = true) (n : PyData.depth d ≤ 64) : SeqAt.shaped d = true := by
  show (PyData.canLay0 _ && decide (PyData.depth _ ≤ 64)) = true
  rw [Bool.and_eq_true]
  exact ⟨h, decide_eq_true n⟩
theorem zD_lay (t : List Int) : PyData.canLay0 (zD t) = true ∧ PyData.depth (zD t) ≤ 1 := ⟨by simp [zD, PyData.canLay0, canLay_ints], by simp [zD, PyData.depth, depth_ints]⟩
theorem zD_eqv (a b : List Int) : PyData.eqv (zD a) (zD b) = decide (a = b) := eqvT a b
theorem triD_lay (t : Tri) : PyData.canLay0 (triD t) = true ∧ PyData.depth (triD t) ≤ 1 := ⟨by simp [triD, PyData.canLay0, PyData.canLayAll0], by simp [triD, PyData.depth, PyData.depthAll]⟩
theorem triD_eqv (a b : Tri) : PyData.eqv (triD a) (triD b) = decide (a = b) := by
  obtain ⟨a1, a2, a3⟩ := a
  obtain ⟨b1, b2, b3⟩ := b
  simp only [triD, PyData.eqv, PyData.eqvAll]
  by_cases h1 : a1 = b1 <;> by_cases h2 : a2 = b2 <;> by_cases h3 : a3 = b3 <;> simp [h1, h2, h3]
theorem figD_lay (f : List Tri) : PyData.canLay0 (figD f) = true ∧ PyData.depth (figD f) ≤ 2 := by
  refine ⟨?_, ?_⟩
  · simp only [figD, PyData.canLay0]
    exact layAll_map triD (fun a => (triD_lay a).1) f
  · simp only [figD, PyData.depth]
    have := depthAll_map triD 1 (fun a => (triD_lay a).2) f
    omega
theorem figD_eqv (a b : List Tri) : PyData.eqv (figD a) (figD b) = decide (a = b) := by
  simp only [figD, PyData.eqv]
  exact eqvAll_map triD triD_eqv a b
theorem figsD_sh (fs : List (List Tri)) : SeqAt.shaped (figsD fs) = true := by
  refine shaped_of ?_ ?_
  · simp only [figsD, PyData.canLay0]
    exact layAll_map figD (fun a => (figD_lay a).1) fs
  · simp only [figsD, PyData.depth]
    have := depthAll_map figD 2 (fun a => (figD_lay a).2) fs
    omega
theorem figsD_eqv (a b : List (List Tri)) : PyData.eqv (figsD a) (figsD b) = decide (a = b) := by
  simp only [figsD, PyData.eqv]
  exact eqvAll_map figD figD_eqv a b
theorem dpAll_of {K : PySem.W.Frag} {H : Hp} {α : Type} {R : V → α → Prop} (f : α → PyData) (h : ∀ v a, R v a → Dp K H v (f a)) : ∀ {xs : List V} {as : List α}, All2 R xs as → DpAll K H xs (as.map f)
  | [], [], _ => .nil
  | x :: xs, a :: as, r => .cons (h x a r.1) (dpAll_of f h r.2)
  | [], _ :: _, r => r.elim
  | _ :: _, [], r => r.elim
theorem fig_dp {K : PySem.W.Frag} {H : Hp} {v : V} {f : List Tri} (h : FigT K H v f) : Dp K H v (figD f) := by
  obtain ⟨c, ys, rfl, hc, hy⟩ := h
  exact .tup hc (dpAll_of triD (fun v t ⟨d, e, hd⟩ => by
    subst e
    exact .tup hd (.cons (.int _) (.cons (.int _) (.cons (.int _) .nil)))) hy)
theorem figD_sh (f : List Tri) : SeqAt.shaped (figD f) = true := shaped_of (figD_lay f).1 (by have := (figD_lay f).2; omega)
theorem figsL_sh (fs : List (List Tri)) : SeqAt.shaped (.list (fs.map figD)) = true := by
  refine shaped_of ?_ ?_
  · simp only [PyData.canLay0]
    exact layAll_map figD (fun a => (figD_lay a).1) fs
  · simp only [PyData.depth]
    have := depthAll_map figD 2 (fun a => (figD_lay a).2) fs
    omega
theorem figsL_dp {K : PySem.W.Frag} {H : Hp} {b : Addr} {xs : List V} {fs : List (List Tri)} (h1 : SqL K H b xs) (h2 : All2 (FigT K H) xs fs) : Dp K H (.ref b) (.list (fs.map figD)) := .lst h1 (dpAll_of figD (fun _ _ => fig_dp) h2)
/-- a figure among figures -/
theorem figs_any (fs : List (List Tri)) (f : List Tri) : ((fs.map figD).any fun z => PyData.eqv z (figD f)) = decide (f ∈ fs) := by
  rw [List.any_map, Bool.eq_iff_iff, List.any_eq_true, decide_eq_true_iff]
  constructor
  · rintro ⟨g, hg, e⟩
    have e : PyData.eqv (figD g) (figD f) = true := e
    rw [figD_eqv] at e
    rw [← of_decide_eq_true e]
    exact hg
  · intro h
    exact ⟨f, h, by show PyData.eqv (figD f) (figD f) = true; rw [figD_eqv]; exact decide_eq_true rfl⟩
/-! ### Book.__eq__ -/
theorem figs_dp {K : PySem.W.Frag} {H : Hp} {b : Addr} {xs : List V} {fs : List (List Tri)} (h1 : SqT K H b xs) (h2 : All2 (FigT K H) xs fs) : Dp K H (.ref b) (figsD fs) :=
  .tup h1 (dpAll_of figD (fun v f ⟨c, ys, e, hc, hy⟩ => by
    subst e
    exact .tup hc (dpAll_of triD (fun v t ⟨d, e, hd⟩ => by
      subst e
      exact .tup hd (.cons (.int _) (.cons (.int _) (.cons (.int _) .nil)))) hy)) h2)
/-- a class with an own __eq__, asked by isinstance -/
structure ClsE (K : PySem.W.Frag) (C f : Addr) : Prop extends EqTxt K C f where
  ac : PySem.W.findIn K (.ref C) "__class__" = some (some (.builtin "object.__class__"))
  gt : PySem.W.specialIn K (.builtin "object.__class__") "__get__" = some (some (.builtin "getset_descriptor.__get__"))
  tk : PySem.W.takesIn K (.builtin "object.__class__") = some true
def clsEB (K : PySem.W.Frag) (C f : Addr) : Bool :=
  He.eqO (PySem.W.findIn K (.ref C) "__eq__") (some (some (.ref f))) && (He.eqO (PySem.W.findIn K (.ref C) "__ne__") (some (some (.builtin "object.__ne__"))) && (PySem.W.isFn K (.ref f) && (decide (PySem.W.mroIn K C (.type "object") = some true) &&
  (He.eqO (PySem.W.findIn K (.ref C) "__class__") (some (some (.builtin "object.__class__"))) && (He.eqO (PySem.W.specialIn K (.builtin "object.__class__") "__get__") (some (some (.builtin "getset_descriptor.__get__"))) && decide (PySem.W.takesIn K (.builtin "object.__class__") = some true))))))
theorem clsEB_ok {K : PySem.W.Frag} {C f : Addr} (h : clsEB K C f = true) : ClsE K C f := by
  obtain ⟨h1, h⟩ := He.ba h
  obtain ⟨h2, h⟩ := He.ba h
  obtain ⟨h3, h⟩ := He.ba h
  obtain ⟨h4, h⟩ := He.ba h
  obtain ⟨h5, h⟩ := He.ba h
  obtain ⟨h6, h7⟩ := He.ba h
  exact ⟨⟨He.eqO_ok h1, He.eqO_ok h2, h3, of_decide_eq_true h4⟩, He.eqO_ok h5, He.eqO_ok h6, of_decide_eq_true h7⟩
theorem ClsE.ty {K : PySem.W.Frag} {C f : Addr} (E : ClsE K C f) (cl : Cls K C) {H : Hp} {a dx : Addr} {fs : List (Str × V)} (h : H a = some (.ins C dx fs)) : TyX K H (.ref a) (.ref C) := .base (.ins h cl E.ac E.gt E.tk E.ob)
theorem kit_self {K : PySem.W.Frag} {C : Addr} : PySem.W.kitOne K (.ref C) (.ref C) = some true := by
  unfold PySem.W.kitOne
  rw [if_pos (by simp)]
theorem first_self {K : PySem.W.Frag} {C : Addr} : PySem.W.notFirst K C (.ref C) = true := by
  unfold PySem.W.notFirst
  rw [Bool.or_eq_true]
  exact .inl (by simp)
abbrev sBEq : Stmt := inClass (topS 38) 9
abbrev nBEq : List Str := ["self", "other"]
theorem scBEq : FnScope nBEq ["self", "other"] (defScope sBEq) := ⟨rfl, rfl, rfl, by decide +kernel, rfl, by decide +kernel, by decide +kernel⟩
def spBEq (K : PySem.W.Frag) (C : Addr) : Sp := fun vs H Q _ => ∃ (p : Addr) (y : V) (cs : List Int) (fs : List (List Tri)), vs = [.ref p, y] ∧ BookAt K C H p cs fs ∧
  ((∃ (q : Addr) (cs' : List Int) (fs' : List (List Tri)), y = .ref q ∧ BookAt K C H q cs' fs' ∧ Q (.bl (decide (cs = cs' ∧ fs = fs'))) H) ∨ ∃ t, TyX K H y t ∧ PySem.W.kitOne K t (.ref C) = some false ∧ Q (.bl false) H)
theorem bkF_pal (a b : Addr) : List.lookup (Str.ofString "palette") (bkF a b) = some (V.ref a) := rfl
section
variable {P : Program} {w : World} {K : PySem.W.Frag} {mg : Str → Option Value} {base : Heap}
theorem ok_beq {f C : Addr} {fd : FuncData} {k : Nat} (F : Fun K "__eq__" "Book.__eq__" sBEq f fd) (T : BkTxt K mg C) (TE : ClsE K C f) (mi : mg "isinstance" = none) : FnOk P w K mg base CX0 (k + 1) f fd ["self", "other"] (spBEq K C) := by
  refine F.ok scBEq (fun vs H Q E h => ?_) (fun cdv A outer s H vs Q E hr h => ?_)
  · obtain ⟨p, y, cs, fs, rfl, _⟩ := h
    rfl
  · obtain ⟨p, y, cs, fs, rfl, ⟨dx, a, b, xs, hp, ha, hb, hA⟩, q⟩ := h
    refine ⟨_, pss_one (ps_ret (pe_and (pe_callB call_isi (by rfl) mi (by decide +kernel) (pa_cons (pv 1) (pa_cons (pe_glob (v := .ref C) (by rfl) T.mgC rfl) pa_nil)))
      (pe_and (pe_cmpR (op_eqD hr.units) (pe_fld (pv 0) rfl) (pe_fld (pv 1) rfl) (nomark _)) (pe_one (pe_cmpR (op_eqD hr.units) (pe_fld (pv 0) rfl) (pe_fld (pv 1) rfl) (nomark _)))))), ?_⟩
    rcases q with ⟨q0, cs', fs', rfl, ⟨dx', a', b', xs', hp', ha', hb', hA'⟩, q⟩ | ⟨t, ty, kt, q⟩
    · refine ⟨.ref q0, rfl, .ref q0, .ref C, _, _, true, rfl, .own C, TE.ty T.cl hp', kit_self, _, rfl, iteT ?_⟩
      refine ⟨.ref p, rfl, p, C, dx, _, _, rfl, hp, T.cl, T.nP, bkF_pal a b, .ref q0, rfl, q0, C, dx', _, _, rfl, hp', T.cl, T.nP, bkF_pal a' b', _, _, dpT ha, dpT ha', shT cs, shT cs', _, rfl, ?_⟩
      rw [eqvT]
      by_cases e : cs = cs'
      · rw [decide_eq_true e]
        refine iteT ⟨.ref p, rfl, p, C, dx, _, _, rfl, hp, T.cl, T.nS, bkF_shapesX a b, .ref q0, rfl, q0, C, dx', _, _, rfl, hp', T.cl, T.nS, bkF_shapesX a' b', _, _, figs_dp hb hA, figs_dp hb' hA', figsD_sh fs, figsD_sh fs', ?_⟩
        rw [figsD_eqv]
        rw [show decide (fs = fs') = decide (cs = cs' ∧ fs = fs') from by simp [e]]
        exact q
      · rw [decide_eq_false e]
        refine iteF ?_
        rw [show decide (cs = cs' ∧ fs = fs') = false from by simp [e]] at q
        exact q
    · exact ⟨y, rfl, y, .ref C, _, _, false, rfl, .own C, ty, kt, _, rfl, iteF q⟩
end
/-! ### Heap.__eq__ -/
def tiersD (ts : List (List Int)) : PyData := .tuple (ts.map zD)
theorem tiersD_sh (ts : List (List Int)) : SeqAt.shaped (tiersD ts) = true := by
  refine shaped_of ?_ ?_
  · simp only [tiersD, PyData.canLay0]
    exact layAll_map zD (fun a => (zD_lay a).1) ts
  · simp only [tiersD, PyData.depth]
    have := depthAll_map zD 1 (fun a => (zD_lay a).2) ts
    omega
theorem tiersD_eqv (a b : List (List Int)) : PyData.eqv (tiersD a) (tiersD b) = decide (a = b) := by
  simp only [tiersD, PyData.eqv]
  exact eqvAll_map zD zD_eqv a b
theorem TiersT.dp {K : PySem.W.Frag} {H : Hp} {t : Addr} {ts : List (List Int)} (h : TiersT K H t ts) : Dp K H (.ref t) (tiersD ts) := by
  obtain ⟨xs, h1, h2⟩ := h
  exact .tup h1 (dpAll_of zD (fun v a ⟨b, e, hb⟩ => by subst e; exact dpT hb) h2)
abbrev sHEq : Stmt := inClass (topS 55) 18
theorem scHEq : FnScope nBEq ["self", "other"] (defScope sHEq) := ⟨rfl, rfl, rfl, by decide +kernel, rfl, by decide +kernel, by decide +kernel⟩
def spHEq (K : PySem.W.Frag) (C CH : Addr) : Sp := fun vs H Q _ => ∃ (p bk : Addr) (y : V) (cs : List Int) (fs : List (List Tri)) (ts : List (List Int)), vs = [.ref p, y] ∧ HeapAt K CH H p bk ts ∧ BookAt K C H bk cs fs ∧
  ((∃ (q bk' : Addr) (cs' : List Int) (fs' : List (List Tri)) (ts' : List (List Int)), y = .ref q ∧ HeapAt K CH H q bk' ts' ∧ BookAt K C H bk' cs' fs' ∧ Q (.bl (decide ((cs = cs' ∧ fs = fs') ∧ ts = ts'))) H) ∨ ∃ t, TyX K H y t ∧ PySem.W.kitOne K t (.ref CH) = some false ∧ Q (.bl false) H)
section
variable {P : Program} {w : World} {K : PySem.W.Frag} {mg : Str → Option Value} {base : Heap}
theorem ok_heq {f C CH fE : Addr} {fd fdE : FuncData} {k : Nat} (F : Fun K "__eq__" "Heap.__eq__" sHEq f fd) (T : HpTxt K mg CH) (TE : ClsE K CH f) (TB : BkTxt K mg C) (TBE : ClsE K C fE) (mi : mg "isinstance" = none)
    (bE : Binds K fdE ["self", "other"] []) (GE : FnOk P w K mg base CX0 k fE fdE ["self", "other"] (spBEq K C)) : FnOk P w K mg base CX0 (k + 1) f fd ["self", "other"] (spHEq K C CH) := by
  refine F.ok scHEq (fun vs H Q E h => ?_) (fun cdv A outer s H vs Q E hr h => ?_)
  · obtain ⟨p, bk, y, cs, fs, ts, rfl, _⟩ := h
    rfl
  · obtain ⟨p, bk, y, cs, fs, ts, rfl, ⟨dx, t, hp, ht⟩, hK, q⟩ := h
    refine ⟨_, pss_one (ps_ret (pe_and (pe_callB call_isi (by rfl) mi (by decide +kernel) (pa_cons (pv 1) (pa_cons (pe_glob (v := .ref CH) (by rfl) T.mgC rfl) pa_nil)))
      (pe_and (pe_cmpR (op_eqOwn TBE.toEqTxt GE bE pass0 hr) (pe_fld (pv 0) rfl) (pe_fld (pv 1) rfl) (nomark _)) (pe_one (pe_cmpR (op_eqD hr.units) (pe_fld (pv 0) rfl) (pe_fld (pv 1) rfl) (nomark _)))))), ?_⟩
    rcases q with ⟨q0, bk', cs', fs', ts', rfl, ⟨dx', t', hp', ht'⟩, hK', q⟩ | ⟨ty0, ty, kt, q⟩
    · obtain ⟨e1, e2, e3, e4, hbk, _⟩ := id hK
      obtain ⟨e1', e2', e3', e4', hbk', _⟩ := id hK'
      refine ⟨.ref q0, rfl, .ref q0, .ref CH, _, _, true, rfl, .own CH, TE.ty T.cl hp', kit_self, _, rfl, iteT ?_⟩
      refine ⟨.ref p, rfl, p, CH, dx, _, _, rfl, hp, T.cl, T.nO, hpF_owner bk t, .ref q0, rfl, q0, CH, dx', _, _, rfl, hp', T.cl, T.nO, hpF_owner bk' t', bk, _, _, _, rfl, hbk, TBE.ty TB.cl hbk', first_self, bk, .ref bk', cs, fs, rfl, hK, .inl ⟨bk', cs', fs', rfl, hK', _, rfl, _, rfl, ?_⟩⟩
      by_cases e : cs = cs' ∧ fs = fs'
      · rw [decide_eq_true e]
        refine iteT ⟨.ref p, rfl, p, CH, dx, _, _, rfl, hp, T.cl, T.nT, hpF_tiers bk t, .ref q0, rfl, q0, CH, dx', _, _, rfl, hp', T.cl, T.nT, hpF_tiers bk' t', _, _, ht.dp, ht'.dp, tiersD_sh ts, tiersD_sh ts', ?_⟩
        rw [tiersD_eqv]
        rw [show decide (ts = ts') = decide ((cs = cs' ∧ fs = fs') ∧ ts = ts') from by simp [e]]
        exact q
      · rw [decide_eq_false e]
        refine iteF ?_
        rw [show decide ((cs = cs' ∧ fs = fs') ∧ ts = ts') = false from decide_eq_false (fun z => e z.1)] at q
        exact q
    · exact ⟨y, rfl, y, .ref CH, _, _, false, rfl, .own CH, ty, kt, _, rfl, iteF q⟩
end
/-! ### for i, (x, y) in enumerate(zip(xs, ys)) -/
/-- a zip, its first two fields at will -/
abbrev ZipX (h : Heap) (z TI TO : Addr) (f0 : Value) (f1 : Bool) : Prop :=
  h.get? z = some { cls := .type "zip", dict := none, data := .fields #[f0, .bool f1, .bool false, .ref TI, .ref TO], slots := #[] }
/-- its tuple is free: it has none, or the one that it had is gone -/
def FreeT (h : Heap) (f0 : Value) : Prop := f0 = .none ∨ ∃ T : Addr, f0 = rawInt T ∧ h.get? T = none
section
variable {P : Program} {w : World} {A : Around} {E : Value → Shared → Prop} {s : Shared}
theorem gone_is {a : Addr} {Q : Option Obj → Shared → Prop} (e : s.heap.get? a = none) (q : Q none s) : wpAny (model P w) A (loadIfAlive a) Q E s := by
  have q2 : Q (s.heap.get? a) s := by rw [e]; exact q
  exact fun _ _ _ => q2
theorem owned_free {z TI TO : Addr} {f0 : Value} {f1 : Bool} {Q : Bool → Shared → Prop} (pz : ZipX s.heap z TI TO f0 f1) (fr : FreeT s.heap f0) (q : Q true s) : wpAny (model P w) A (Builtin.SmallTypes.ownedTupleIsFree (.ref z)) Q E s := by
  unfold Builtin.SmallTypes.ownedTupleIsFree
  rcases fr with rfl | ⟨T, rfl, gT⟩
  · exact wpAny_bind (wpAny_field pz rfl (x := .none) rfl (wpAny_pure q))
  · refine wpAny_bind (wpAny_field pz rfl (x := rawInt T) rfl ?_)
    show wpAny _ _ (loadIfAlive ((T : Int).toNat) >>= _) _ _ _
    rw [Int.toNat_natCast]
    refine wpAny_bind (gone_is gT ?_)
    simp only [Option.isNone_none, if_true]
    exact wpAny_pure q
/-- the next pair, the zip's tuple being free -/
theorem zfree_item {z TI TO i1 i2 a b : Addr} {f0 : Value} {f1 : Bool} {m n : Nat} {xs ys : Array Value} {x y u v : Value} {Q : Value → Shared → Prop} (D : ZipApart z TI TO i1 i2 a b) (pz : ZipX s.heap z TI TO f0 f1) (fr : FreeT s.heap f0)
    (pI : IsPair s.heap TI (.ref i1) (.ref i2)) (pO : IsPair s.heap TO u v) (p1 : s.heap.IsListIter i1 a m) (p2 : s.heap.IsListIter i2 b n) (la : s.heap.IsList a xs) (lb : s.heap.IsList b ys) (ex : xs[m]? = some x) (ey : ys[n]? = some y)
    (q : ∀ h', IsZip h' z TI TO (rawInt s.heap.objs.size) → IsPair h' TO x y → h'.IsListIter i1 a (m + 1) → h'.IsListIter i2 b (n + 1) → IsPair h' s.heap.objs.size x y → h'.objs.size = s.heap.objs.size + 1 →
      (∀ c o, c ≠ z → c ≠ TO → c ≠ i1 → c ≠ i2 → s.heap.get? c = some o → h'.get? c = some o) → Q (.ref s.heap.objs.size) { s with heap := h' }) :
    wpAny (model P w) A (Builtin.«zip.__next__» ⟨[.ref z], []⟩) (fun fin s' => ∃ v, fin = .done (.ret v) ∧ Q v s') E s := by
  show wpAny _ _ (field (.ref z) 2 >>= _) _ _ _
  refine wpAny_bind (wpAny_field pz rfl (x := .bool false) rfl ?_)
  show wpAny _ _ (field (.ref z) 3 >>= _) _ _ _
  refine wpAny_bind (wpAny_field pz rfl (x := .ref TI) rfl (wpAny_bind (wpAny_seqItems pI rfl ?_)))
  show wpAny _ _ (Builtin.SmallTypes.ownedTupleIsFree (.ref z) >>= _) _ _ _
  refine wpAny_bind (owned_free pz fr ?_)
  simp only [if_true]
  refine wpAny_bind (wpAny_rule (wpAny_bind (wpAny_field pz rfl (x := .ref TO) rfl ?_)))
  refine wpAny_bind (wpAny_setField_rec pz (by simp) fun k1 z1 e1 => ?_)
  have z1 : ZipX k1 z TI TO .ellipsis f1 := z1
  refine wpAny_bind ?_
  simp only [List.zipIdx_cons, List.zipIdx_nil, List.forIn_cons, List.forIn_nil]
  refine wpAny_bind (wpAny_bind (wpAny_onRaise ?_))
  show wpAny _ _ (Builtin.SmallTypes.nextOf (.ref i1) >>= _) _ _ _
  refine wpAny_bind (wpAny_nextOf_list_item (p1.extBut e1.extBut D.i1z) (la.extBut e1.extBut D.l1z) ex fun k2 g2 e2 => wpAny_pure ?_)
  have o2 : IsPair k2 TO u v := e2.extBut _ _ D.TOi1 (e1.extBut _ _ D.TOz pO)
  refine wpAny_bind (wpAny_seqItems o2 rfl (wpAny_bind (wpAny_updateSeq_pair o2 fun k3 o3 e3 => ?_)))
  have o3 : IsPair k3 TO x v := o3
  refine wpAny_bind (wpAny_letGo (wpAny_pure (wpAny_bind (wpAny_bind (wpAny_onRaise ?_)))))
  show wpAny _ _ (Builtin.SmallTypes.nextOf (.ref i2) >>= _) _ _ _
  have p23 := ((p2.extBut e1.extBut D.i2z).extBut e2.extBut D.i12.symm).extBut e3.extBut D.TOi2.symm
  have lb3 := ((lb.extBut e1.extBut D.l2z).extBut e2.extBut D.l2i1).extBut e3.extBut D.l2TO
  refine wpAny_bind (wpAny_nextOf_list_item p23 lb3 ey fun k4 g4 e4 => wpAny_pure ?_)
  have o4 : IsPair k4 TO x v := e4.extBut _ _ D.TOi2 o3
  refine wpAny_bind (wpAny_seqItems o4 rfl (wpAny_bind (wpAny_updateSeq_pair o4 fun k5 o5 e5 => ?_)))
  have o5 : IsPair k5 TO x y := o5
  refine wpAny_bind (wpAny_letGo (wpAny_pure (wpAny_pure ?_)))
  refine wpAny_bind (wpAny_seqItems o5 rfl (wpAny_bind (wpAny_newTuple ?_)))
  have size : k5.objs.size = s.heap.objs.size := by rw [e5.1, e4.1, e3.1, e2.1, e1.1]
  have z5 : ZipX k5 z TI TO .ellipsis f1 := e5.extBut _ _ D.TOz.symm (e4.extBut _ _ D.i2z.symm (e3.extBut _ _ D.TOz.symm (e2.extBut _ _ D.i1z.symm z1)))
  have keep5 : ∀ c o, c ≠ z → c ≠ TO → c ≠ i1 → c ≠ i2 → s.heap.get? c = some o → k5.get? c = some o := fun c o n1 n2 n3 n4 g => e5.extBut _ _ n2 (e4.extBut _ _ n4 (e3.extBut _ _ n2 (e2.extBut _ _ n3 (e1.extBut _ _ n1 g))))
  have p15 : k5.IsListIter i1 a (m + 1) := ((g2.extBut e3.extBut D.TOi1.symm).extBut e4.extBut D.i12).extBut e5.extBut D.TOi1.symm
  have p25 : k5.IsListIter i2 b (n + 1) := g4.extBut e5.extBut D.TOi2.symm
  have zlt : z < k5.objs.size := Heap.lt_size z5
  show wpAny _ _ (Builtin.SmallTypes.ownedTupleHandOut (.ref z) (.ref k5.objs.size) >>= _) _ _ _
  refine wpAny_bind ?_
  unfold Builtin.SmallTypes.ownedTupleHandOut
  have z6 : ZipX (k5.push { cls := .type "tuple", data := .seq #[x, y] }) z TI TO .ellipsis f1 := Heap.get?_push_of_some _ z5
  refine wpAny_bind (wpAny_setField_rec z6 (by simp) fun k7 z7 e7 => ?_)
  have z7 : ZipX k7 z TI TO (rawInt k5.objs.size) f1 := z7
  refine wpAny_setField_rec z7 (by simp) fun k8 z8 e8 => ?_
  have z8 : IsZip k8 z TI TO (rawInt k5.objs.size) := z8
  have up : ∀ c o, c ≠ z → k5.get? c = some o → k8.get? c = some o := fun c o n1 g => e8.extBut _ _ n1 (e7.extBut _ _ n1 (Heap.get?_push_of_some _ g))
  have t8 : IsPair k8 k5.objs.size x y := e8.extBut _ _ (Nat.ne_of_gt zlt) (e7.extBut _ _ (Nat.ne_of_gt zlt) (Heap.get?_push_size _ rfl))
  have size8 : k8.objs.size = k5.objs.size + 1 := by rw [e8.1, e7.1, Heap.size_push]
  rw [size] at z8 t8 size8
  refine wpAny_pure ⟨_, rfl, ?_⟩
  show Q (.ref k5.objs.size) _
  rw [size]
  exact q k8 z8 (up _ _ D.TOz o5) (p15.at fun o g => up _ o D.i1z g) (p25.at fun o g => up _ o D.i2z g) t8 size8 fun c o n1 n2 n3 n4 g => up c o n1 (keep5 c o n1 n2 n3 n4 g)
/-- its end, the tuple being free -/
theorem zfree_end {z TI TO i1 i2 a b : Addr} {f0 : Value} {f1 : Bool} {m n : Nat} {xs ys : Array Value} {u v : Value} {Q : Fin → Shared → Prop} (calm : A.handled = none) (D : ZipApart z TI TO i1 i2 a b) (pz : ZipX s.heap z TI TO f0 f1) (fr : FreeT s.heap f0)
    (pI : IsPair s.heap TI (.ref i1) (.ref i2)) (pO : IsPair s.heap TO u v) (p1 : s.heap.IsListIter i1 a m) (p2 : s.heap.IsListIter i2 b n) (la : s.heap.IsList a xs) (lb : s.heap.IsList b ys) (last : xs[m]? = none ∨ ys[n]? = none)
    (q : ∀ h' x, (∀ c o, c ≠ z → c ≠ TO → c ≠ i1 → c ≠ i2 → s.heap.get? c = some o → h'.get? c = some o) → (∃ o, h'.get? x = some o ∧ o.cls = .type "StopIteration") → E (.ref x) { s with heap := h' }) :
    wpAny (model P w) A (Builtin.«zip.__next__» ⟨[.ref z], []⟩) Q E s := by
  show wpAny _ _ (field (.ref z) 2 >>= _) _ _ _
  refine wpAny_bind (wpAny_field pz rfl (x := .bool false) rfl ?_)
  show wpAny _ _ (field (.ref z) 3 >>= _) _ _ _
  refine wpAny_bind (wpAny_field pz rfl (x := .ref TI) rfl (wpAny_bind (wpAny_seqItems pI rfl ?_)))
  show wpAny _ _ (Builtin.SmallTypes.ownedTupleIsFree (.ref z) >>= _) _ _ _
  refine wpAny_bind (owned_free pz fr ?_)
  simp only [if_true]
  refine wpAny_bind (wpAny_rule (wpAny_bind (wpAny_field pz rfl (x := .ref TO) rfl ?_)))
  refine wpAny_bind (wpAny_setField_rec pz (by simp) fun k1 z1 e1 => ?_)
  have z1 : ZipX k1 z TI TO .ellipsis f1 := z1
  refine wpAny_bind ?_
  simp only [List.zipIdx_cons, List.zipIdx_nil, List.forIn_cons, List.forIn_nil]
  refine wpAny_bind (wpAny_bind (wpAny_onRaise ?_))
  show wpAny _ _ (Builtin.SmallTypes.nextOf (.ref i1) >>= _) _ _ _
  have fin : ∀ (k : Heap) (x : Addr), ZipX k z TI TO .ellipsis f1 → (∃ o, k.get? x = some o ∧ o.cls = .type "StopIteration") → (∀ c o, c ≠ z → c ≠ TO → c ≠ i1 → c ≠ i2 → s.heap.get? c = some o → k.get? c = some o) →
      wpAny (model P w) A (setField (.ref z) 0 .none) (fun _ s' => E (.ref x) s') E { s with heap := k } := fun k x zk ⟨o, ho, hc⟩ keep => by
    have ne : x ≠ z := fun e => by
      rw [e, zk] at ho
      cases ho
      simp at hc
    exact wpAny_setField_rec zk (by simp) fun k' _ e' => q k' x (fun c o n1 n2 n3 n4 g => e'.extBut _ _ n1 (keep c o n1 n2 n3 n4 g)) ⟨o, e'.extBut _ _ ne ho, hc⟩
  cases ex : xs[m]? with
  | none =>
    refine wpAny_bind (wpAny_nextOf_list_end calm (p1.extBut e1.extBut D.i1z) (la.extBut e1.extBut D.l1z) ex fun k2 x e2 hx => ?_)
    exact fin k2 x (e2 _ _ D.i1z.symm z1) hx fun c o n1 _ n3 _ g => e2 _ _ n3 (e1.extBut _ _ n1 g)
  | some x =>
    have ey : ys[n]? = none := last.resolve_left (by rw [ex]; exact fun z => nomatch z)
    refine wpAny_bind (wpAny_nextOf_list_item (p1.extBut e1.extBut D.i1z) (la.extBut e1.extBut D.l1z) ex fun k2 g2 e2 => wpAny_pure ?_)
    have o2 : IsPair k2 TO u v := e2.extBut _ _ D.TOi1 (e1.extBut _ _ D.TOz pO)
    refine wpAny_bind (wpAny_seqItems o2 rfl (wpAny_bind (wpAny_updateSeq_pair o2 fun k3 o3 e3 => ?_)))
    refine wpAny_bind (wpAny_letGo (wpAny_pure (wpAny_bind (wpAny_bind (wpAny_onRaise ?_)))))
    show wpAny _ _ (Builtin.SmallTypes.nextOf (.ref i2) >>= _) _ _ _
    have p23 := ((p2.extBut e1.extBut D.i2z).extBut e2.extBut D.i12.symm).extBut e3.extBut D.TOi2.symm
    have lb3 := ((lb.extBut e1.extBut D.l2z).extBut e2.extBut D.l2i1).extBut e3.extBut D.l2TO
    refine wpAny_bind (wpAny_nextOf_list_end calm p23 lb3 ey fun k4 x e4 hx => ?_)
    exact fin k4 x (e4 _ _ D.i2z.symm (e3.extBut _ _ D.TOz.symm (e2.extBut _ _ D.i1z.symm z1))) hx fun c o n1 n2 n3 n4 g => e4 _ _ n4 (e3.extBut _ _ n2 (e2.extBut _ _ n3 (e1.extBut _ _ n1 g)))
end
/-- a zip of two lists at its i-th turn, whatever became of its tuple -/
def ZSt (z TI TO i1 i2 a b : Addr) (i : Nat) (h : Heap) : Prop := ∃ f0 f1, ZipX h z TI TO f0 f1 ∧ (f0 = .none ∨ ∃ T : Addr, f0 = rawInt T) ∧ IsPair h TI (.ref i1) (.ref i2) ∧ (∃ u v, IsPair h TO u v) ∧ h.IsListIter i1 a i ∧ h.IsListIter i2 b i
theorem ZSt.keep {z TI TO i1 i2 a b : Addr} {i : Nat} {h h' : Heap} (st : ZSt z TI TO i1 i2 a b i h) (k : ∀ c ∈ [z, TI, TO, i1, i2], ∀ o, h.get? c = some o → h'.get? c = some o) : ZSt z TI TO i1 i2 a b i h' := by
  obtain ⟨f0, f1, pz, ff, pI, ⟨u, v, pO⟩, p1, p2⟩ := st
  exact ⟨f0, f1, k z (by simp) _ pz, ff, k TI (by simp) _ pI, ⟨u, v, k TO (by simp) _ pO⟩, p1.at fun o e => k i1 (by simp) o e, p2.at fun o e => k i2 (by simp) o e⟩
theorem ZSt.lt {z TI TO i1 i2 a b : Addr} {i : Nat} {h : Heap} (st : ZSt z TI TO i1 i2 a b i h) : ∀ c ∈ [z, TI, TO, i1, i2], ∃ o, h.get? c = some o ∧ ∀ v, o.data ≠ .cell v := by
  obtain ⟨f0, f1, pz, ff, pI, ⟨u, v, pO⟩, ⟨o1, h1, _, d1⟩, ⟨o2, h2, _, d2⟩⟩ := st
  intro c hc
  have hc : c = z ∨ c = TI ∨ c = TO ∨ c = i1 ∨ c = i2 := by simpa using hc
  rcases hc with e | e | e | e | e
  · rw [e]; exact ⟨_, pz, fun v q => nomatch q⟩
  · rw [e]; exact ⟨_, pI, fun v q => nomatch q⟩
  · rw [e]; exact ⟨_, pO, fun v q => nomatch q⟩
  · rw [e]; exact ⟨o1, h1, fun v q => by rw [d1] at q; cases q⟩
  · rw [e]; exact ⟨o2, h2, fun v q => by rw [d2] at q; cases q⟩
section
variable {P : Program} {w : World} {A : Around} {E : Value → Shared → Prop} {s : Shared}
theorem zst_item {z TI TO i1 i2 a b : Addr} {i : Nat} {xs ys : Array Value} {x y : Value} {Q : Value → Shared → Prop} (D : ZipApart z TI TO i1 i2 a b) (st : ZSt z TI TO i1 i2 a b i s.heap) (la : s.heap.IsList a xs) (lb : s.heap.IsList b ys) (ex : xs[i]? = some x) (ey : ys[i]? = some y)
    (q : ∀ h', ZSt z TI TO i1 i2 a b (i + 1) h' → IsPair h' s.heap.objs.size x y → h'.objs.size = s.heap.objs.size + 1 → (∀ c o, c ∉ [z, TI, TO, i1, i2] → s.heap.get? c = some o → h'.get? c = some o) → Q (.ref s.heap.objs.size) { s with heap := h' }) :
    wpAny (model P w) A (Builtin.SmallTypes.nextOf (.ref z)) Q E s := by
  obtain ⟨f0, f1, pz, ff, pI, ⟨u, v, pO⟩, p1, p2⟩ := st
  have ty : s.TypeIs (.ref z) "zip" := ⟨_, pz, rfl⟩
  unfold Builtin.SmallTypes.nextOf
  refine wpAny_bind (wpAny_callSpecial?_slot (name := Str.ofString "__next__") ty F.slot_zip_next (wpAny_call_entry F.slot_zip_next ty F.entry_zip_next ?_ (F.args_zip_next_1 _)))
  have free : FreeT s.heap f0 → wpAny (model P w) A.in1 (Builtin.«zip.__next__» ⟨[.ref z], []⟩) (fun fin s' => ∃ v, fin = .done (.ret v) ∧ wpAny (model P w) A (pure v) Q E s') E s := fun fr =>
    zfree_item D pz fr pI pO p1 p2 la lb ex ey fun h' a1 a2 a3 a4 a5 a6 kp => wpAny_pure (q h' ⟨_, _, a1, .inr ⟨_, rfl⟩, kp _ _ D.TIz D.TITO D.TIi1 D.TIi2 pI, ⟨x, y, a2⟩, a3, a4⟩ a5 a6 fun c o nc e => kp c o (fun z => nc (by simp [z])) (fun z => nc (by simp [z])) (fun z => nc (by simp [z])) (fun z => nc (by simp [z])) e)
  rcases ff with rfl | ⟨T, rfl⟩
  · exact free (.inl rfl)
  · cases eT : s.heap.get? T with
    | none => exact free (.inr ⟨T, rfl, eT⟩)
    | some oT =>
      refine zip_next_item_held D pz eT pI p1 p2 la lb ex ey fun h' a1 a3 a4 a5 a6 kp => ?_
      exact wpAny_pure (q h' ⟨_, _, a1, .inr ⟨_, rfl⟩, kp _ _ D.TIz D.TIi1 D.TIi2 pI, ⟨u, v, kp _ _ D.TOz D.TOi1 D.TOi2 pO⟩, a3, a4⟩ a5 a6 fun c o nc e => kp c o (fun z => nc (by simp [z])) (fun z => nc (by simp [z])) (fun z => nc (by simp [z])) e)
theorem zst_end {z TI TO i1 i2 a b : Addr} {i : Nat} {xs ys : Array Value} {Q : Value → Shared → Prop} (calm : A.handled = none) (D : ZipApart z TI TO i1 i2 a b) (st : ZSt z TI TO i1 i2 a b i s.heap) (la : s.heap.IsList a xs) (lb : s.heap.IsList b ys) (last : xs[i]? = none ∨ ys[i]? = none)
    (q : ∀ h' x, (∀ c o, c ∉ [z, TI, TO, i1, i2] → s.heap.get? c = some o → h'.get? c = some o) → (∃ o, h'.get? x = some o ∧ o.cls = .type "StopIteration") → E (.ref x) { s with heap := h' }) :
    wpAny (model P w) A (Builtin.SmallTypes.nextOf (.ref z)) Q E s := by
  obtain ⟨f0, f1, pz, ff, pI, ⟨u, v, pO⟩, p1, p2⟩ := st
  have ty : s.TypeIs (.ref z) "zip" := ⟨_, pz, rfl⟩
  have calm1 : A.in1.handled = none := by simp [calm]
  unfold Builtin.SmallTypes.nextOf
  refine wpAny_bind (wpAny_callSpecial?_slot (name := Str.ofString "__next__") ty F.slot_zip_next (wpAny_call_entry F.slot_zip_next ty F.entry_zip_next ?_ (F.args_zip_next_1 _)))
  rcases ff with rfl | ⟨T, rfl⟩
  · exact zfree_end calm1 D pz (.inl rfl) pI pO p1 p2 la lb last fun h' x kp hx => q h' x (fun c o nc e => kp c o (fun z => nc (by simp [z])) (fun z => nc (by simp [z])) (fun z => nc (by simp [z])) (fun z => nc (by simp [z])) e) hx
  · cases eT : s.heap.get? T with
    | none => exact zfree_end calm1 D pz (.inr ⟨T, rfl, eT⟩) pI pO p1 p2 la lb last fun h' x kp hx => q h' x (fun c o nc e => kp c o (fun z => nc (by simp [z])) (fun z => nc (by simp [z])) (fun z => nc (by simp [z])) (fun z => nc (by simp [z])) e) hx
    | some oT => exact zip_next_end_held calm1 D pz eT pI p1 p2 la lb last fun h' x kp hx => q h' x (fun c o nc e => kp c o (fun z => nc (by simp [z])) (fun z => nc (by simp [z])) (fun z => nc (by simp [z])) e) hx
/-- the next of an enumerate whose own tuple is let go, over whatever tells its next -/
theorem enum_over {e it : Addr} {i : Nat} {old : Value} {R : Value → Heap → Prop} {Q : Option Value → Shared → Prop} (pe : IsEnum s.heap e it i old)
    (next : ∀ (Q' : Value → Shared → Prop) (E' : Value → Shared → Prop), (∀ x h1, R x h1 → Q' x { s with heap := h1 }) → wpAny (model P w) A.in1 (Builtin.SmallTypes.nextOf (.ref it)) Q' E' s)
    (stay : ∀ x h1, R x h1 → IsEnum h1 e it i old)
    (q : ∀ x h1 h' tk, R x h1 → IsEnumOut h' e it ((i : Int) + 1) x h1.objs.size → h'.get? h1.objs.size = some { cls := .type "tuple", data := .seq #[.int i tk, x] } → (∀ c o, c ≠ e → h1.get? c = some o → h'.get? c = some o) → Q (some (.ref h1.objs.size)) { s with heap := h', toks := tk + 1 }) :
    wpAny (model P w) A (pyNext (.ref e)) Q E s := by
  have ty : s.TypeIs (.ref e) "enumerate" := ⟨_, pe, rfl⟩
  unfold pyNext
  refine wpAny_bind (wpAny_attempt (wpAny_callSpecial?_slot (name := Str.ofString "__next__") ty F.slot_enumerate_next (wpAny_call_entry F.slot_enumerate_next ty F.entry_enumerate_next ?_ (F.args_enumerate_next_1 _))))
  obtain ⟨hp, g, d, tk, os⟩ := s
  show wpAny _ _ (field (.ref e) 2 >>= _) _ _ _
  refine wpAny_bind (wpAny_field pe rfl (x := .ref it) rfl (wpAny_bind (next _ _ fun x h1 rx => ?_)))
  have pe1 := stay x h1 rx
  show wpAny _ _ (field (.ref e) 3 >>= _) _ _ ⟨h1, g, d, tk, os⟩
  refine wpAny_bind (wpAny_field pe1 rfl (x := rawInt i) rfl ?_)
  show wpAny _ _ (field (.ref e) 4 >>= _) _ _ ⟨h1, g, d, tk, os⟩
  refine wpAny_bind (wpAny_field pe1 rfl (x := .none) rfl ?_)
  show wpAny _ _ (mkInt i >>= _) _ _ ⟨h1, g, d, tk, os⟩
  refine wpAny_bind (wpAny_mkInt ?_)
  show wpAny _ _ (setField (.ref e) 3 (rawInt ((i : Int) + 1)) >>= _) _ _ ⟨h1, g, d, tk + 1, os⟩
  refine wpAny_bind (wpAny_setField_rec pe1 (by simp) fun h2 pe2 b2 => ?_)
  have pe2 : IsEnum h2 e it ((i : Int) + 1) old := pe2
  have b2 : Heap.SameBut e h1 h2 := b2
  show wpAny _ _ (setField (.ref e) 4 .none >>= _) _ _ ⟨h2, g, d, tk + 1, os⟩
  refine wpAny_bind (wpAny_setField_rec pe2 (by simp) fun h3 pe3 b3 => ?_)
  have pe3 : IsEnum h3 e it ((i : Int) + 1) old := pe3
  have b3 : Heap.SameBut e h2 h3 := b3
  show wpAny _ _ (newTuple [.int i tk, x] >>= _) _ _ ⟨h3, g, d, tk + 1, os⟩
  refine wpAny_bind (wpAny_newTuple ?_)
  have size : h3.objs.size = h1.objs.size := by rw [b3.1, b2.1]
  have elt : e < h1.objs.size := Heap.lt_size pe1
  have pe4 : IsEnum (h3.push { cls := .type "tuple", data := .seq #[.int i tk, x] }) e it ((i : Int) + 1) old := Heap.get?_push_of_some _ pe3
  have t4 : (h3.push { cls := .type "tuple", data := .seq #[.int i tk, x] }).get? h1.objs.size = some { cls := .type "tuple", data := .seq #[.int i tk, x] } := by rw [← size]; exact Heap.get?_push_size _ rfl
  have keep4 : ∀ c o, c ≠ e → h1.get? c = some o → (h3.push { cls := .type "tuple", data := .seq #[.int i tk, x] }).get? c = some o := fun c o n y => Heap.get?_push_of_some _ (b3.extBut c o n (b2.extBut c o n y))
  show wpAny _ _ (Builtin.SmallTypes.ownedTupleIsFree (.ref e) >>= _) _ _ ⟨h3.push { cls := .type "tuple", data := .seq #[.int i tk, x] }, g, d, tk + 1, os⟩
  rw [size]
  generalize h3.push { cls := .type "tuple", data := .seq #[.int i tk, x] } = h4 at pe4 t4 keep4
  refine wpAny_bind ?_
  unfold Builtin.SmallTypes.ownedTupleIsFree
  refine wpAny_bind (wpAny_field pe4 rfl (x := .none) rfl (wpAny_pure ?_))
  simp only [if_true]
  refine wpAny_bind (wpAny_rule (wpAny_bind (wpAny_field pe4 rfl (x := old) rfl ?_)))
  refine wpAny_bind (wpAny_setField_rec pe4 (by simp) fun h5 pe5 b5 => ?_)
  have pe5 : IsEnum h5 e it ((i : Int) + 1) x := pe5
  have b5 : Heap.SameBut e h4 h5 := b5
  show wpAny _ _ (Builtin.SmallTypes.ownedTupleHandOut (.ref e) (.ref h1.objs.size) >>= _) _ _ ⟨h5, g, d, tk + 1, os⟩
  refine wpAny_bind ?_
  unfold Builtin.SmallTypes.ownedTupleHandOut
  refine wpAny_bind (wpAny_setField_rec pe5 (by simp) fun h6 pe6 b6 => ?_)
  have pe6 : IsEnumOut h6 e it ((i : Int) + 1) x h1.objs.size := pe6
  have b6 : Heap.SameBut e h5 h6 := b6
  refine wpAny_setField_rec pe6 (by simp) fun h7 pe7 b7 => ?_
  have pe7 : IsEnumOut h7 e it ((i : Int) + 1) x h1.objs.size := pe7
  have b7 : Heap.SameBut e h6 h7 := b7
  have all : ∀ c o, c ≠ e → h4.get? c = some o → h7.get? c = some o := fun c o n y => b7.extBut c o n (b6.extBut c o n (b5.extBut c o n y))
  exact wpAny_bind (wpAny_letGo (wpAny_pure ⟨_, rfl, wpAny_pure (q x h1 h7 tk rx pe7 (all _ _ (Nat.ne_of_gt elt) t4) fun c o n y => all c o n (keep4 c o n y))⟩))
theorem enum_over_end {e it : Addr} {i : Int} {old : Value} {R : Heap → Prop} {Q : Option Value → Shared → Prop} (pe : IsEnum s.heap e it i old)
    (next : ∀ (Q' : Value → Shared → Prop) (E' : Value → Shared → Prop), (∀ h1 x, R h1 → (∃ o, h1.get? x = some o ∧ o.cls = .type "StopIteration") → E' (.ref x) { s with heap := h1 }) → wpAny (model P w) A.in1 (Builtin.SmallTypes.nextOf (.ref it)) Q' E' s)
    (q : ∀ h1, R h1 → Q none { s with heap := h1 }) : wpAny (model P w) A (pyNext (.ref e)) Q E s := by
  have ty : s.TypeIs (.ref e) "enumerate" := ⟨_, pe, rfl⟩
  unfold pyNext
  refine wpAny_bind (wpAny_attempt (wpAny_callSpecial?_slot (name := Str.ofString "__next__") ty F.slot_enumerate_next (wpAny_call_entry F.slot_enumerate_next ty F.entry_enumerate_next ?_ (F.args_enumerate_next_1 _))))
  show wpAny _ _ (field (.ref e) 2 >>= _) _ _ _
  refine wpAny_bind (wpAny_field pe rfl (x := .ref it) rfl (wpAny_bind (next _ _ fun h1 x r ⟨o, ho, hc⟩ => ?_)))
  refine wpAny_bind (wpAny_isInstance (T := "StopIteration") (b := true) ⟨o, ho, hc⟩ isSubtype_stop ?_)
  exact wpAny_pure (q h1 r)
end
/-! ### for x, y in zip(xs, ys), xs a tuple and ys a list -/
section
variable {P : Program} {w : World} {A : Around} {E : Value → Shared → Prop} {s : Shared}
/-- the next pair -/
theorem ztl_item {z TI TO i1 i2 a b : Addr} {m n : Nat} {xs ys : Array Value} {x y u v : Value} {Q : Value → Shared → Prop} (D : ZipApart z TI TO i1 i2 a b) (pz : ZipX s.heap z TI TO .none false)
    (pI : IsPair s.heap TI (.ref i1) (.ref i2)) (pO : IsPair s.heap TO u v) (p1 : s.heap.IsTupleIter i1 a m) (p2 : s.heap.IsListIter i2 b n) (la : s.heap.IsTuple a xs) (lb : s.heap.IsList b ys) (ex : xs[m]? = some x) (ey : ys[n]? = some y)
    (q : ∀ h', IsZip h' z TI TO (rawInt s.heap.objs.size) → IsPair h' TO x y → h'.IsTupleIter i1 a (m + 1) → h'.IsListIter i2 b (n + 1) → IsPair h' s.heap.objs.size x y → h'.objs.size = s.heap.objs.size + 1 →
      (∀ c o, c ∉ [z, TI, TO, i1, i2] → s.heap.get? c = some o → h'.get? c = some o) → h'.get? TI = s.heap.get? TI → Q (.ref s.heap.objs.size) { s with heap := h' }) :
    wpAny (model P w) A (Builtin.«zip.__next__» ⟨[.ref z], []⟩) (fun fin s' => ∃ v, fin = .done (.ret v) ∧ Q v s') E s := by
  show wpAny _ _ (field (.ref z) 2 >>= _) _ _ _
  refine wpAny_bind (wpAny_field pz rfl (x := .bool false) rfl ?_)
  show wpAny _ _ (field (.ref z) 3 >>= _) _ _ _
  refine wpAny_bind (wpAny_field pz rfl (x := .ref TI) rfl (wpAny_bind (wpAny_seqItems pI rfl ?_)))
  show wpAny _ _ (Builtin.SmallTypes.ownedTupleIsFree (.ref z) >>= _) _ _ _
  refine wpAny_bind (owned_free pz (.inl rfl) ?_)
  simp only [if_true]
  refine wpAny_bind (wpAny_rule (wpAny_bind (wpAny_field pz rfl (x := .ref TO) rfl ?_)))
  refine wpAny_bind (wpAny_setField_rec pz (by simp) fun k1 z1 e1 => ?_)
  have z1 : ZipX k1 z TI TO .ellipsis false := z1
  refine wpAny_bind ?_
  simp only [List.zipIdx_cons, List.zipIdx_nil, List.forIn_cons, List.forIn_nil]
  refine wpAny_bind (wpAny_bind (wpAny_onRaise ?_))
  show wpAny _ _ (Builtin.SmallTypes.nextOf (.ref i1) >>= _) _ _ _
  refine wpAny_bind (RZ.nextOf_tuple_item (p1.extBut e1.extBut D.i1z) (la.extBut e1.extBut D.l1z) ex fun k2 g2 e2 => wpAny_pure ?_)
  have o2 : IsPair k2 TO u v := e2.extBut _ _ D.TOi1 (e1.extBut _ _ D.TOz pO)
  refine wpAny_bind (wpAny_seqItems o2 rfl (wpAny_bind (wpAny_updateSeq_pair o2 fun k3 o3 e3 => ?_)))
  have o3 : IsPair k3 TO x v := o3
  refine wpAny_bind (wpAny_letGo (wpAny_pure (wpAny_bind (wpAny_bind (wpAny_onRaise ?_)))))
  show wpAny _ _ (Builtin.SmallTypes.nextOf (.ref i2) >>= _) _ _ _
  have p23 := ((p2.extBut e1.extBut D.i2z).extBut e2.extBut D.i12.symm).extBut e3.extBut D.TOi2.symm
  have lb3 := ((lb.extBut e1.extBut D.l2z).extBut e2.extBut D.l2i1).extBut e3.extBut D.l2TO
  refine wpAny_bind (wpAny_nextOf_list_item p23 lb3 ey fun k4 g4 e4 => wpAny_pure ?_)
  have o4 : IsPair k4 TO x v := e4.extBut _ _ D.TOi2 o3
  refine wpAny_bind (wpAny_seqItems o4 rfl (wpAny_bind (wpAny_updateSeq_pair o4 fun k5 o5 e5 => ?_)))
  have o5 : IsPair k5 TO x y := o5
  refine wpAny_bind (wpAny_letGo (wpAny_pure (wpAny_pure ?_)))
  refine wpAny_bind (wpAny_seqItems o5 rfl (wpAny_bind (wpAny_newTuple ?_)))
  have size : k5.objs.size = s.heap.objs.size := by rw [e5.1, e4.1, e3.1, e2.1, e1.1]
  have z5 : ZipX k5 z TI TO .ellipsis false := e5.extBut _ _ D.TOz.symm (e4.extBut _ _ D.i2z.symm (e3.extBut _ _ D.TOz.symm (e2.extBut _ _ D.i1z.symm z1)))
  have keep5 : ∀ c o, c ≠ z → c ≠ TO → c ≠ i1 → c ≠ i2 → s.heap.get? c = some o → k5.get? c = some o := fun c o n1 n2 n3 n4 g => e5.extBut _ _ n2 (e4.extBut _ _ n4 (e3.extBut _ _ n2 (e2.extBut _ _ n3 (e1.extBut _ _ n1 g))))
  have p15 : k5.IsTupleIter i1 a (m + 1) := ((g2.extBut e3.extBut D.TOi1.symm).extBut e4.extBut D.i12).extBut e5.extBut D.TOi1.symm
  have p25 : k5.IsListIter i2 b (n + 1) := g4.extBut e5.extBut D.TOi2.symm
  have zlt : z < k5.objs.size := Heap.lt_size z5
  show wpAny _ _ (Builtin.SmallTypes.ownedTupleHandOut (.ref z) (.ref k5.objs.size) >>= _) _ _ _
  refine wpAny_bind ?_
  unfold Builtin.SmallTypes.ownedTupleHandOut
  have z6 : ZipX (k5.push { cls := .type "tuple", data := .seq #[x, y] }) z TI TO .ellipsis false := Heap.get?_push_of_some _ z5
  refine wpAny_bind (wpAny_setField_rec z6 (by simp) fun k7 z7 e7 => ?_)
  have z7 : ZipX k7 z TI TO (rawInt k5.objs.size) false := z7
  refine wpAny_setField_rec z7 (by simp) fun k8 z8 e8 => ?_
  have z8 : IsZip k8 z TI TO (rawInt k5.objs.size) := z8
  have up : ∀ c o, c ≠ z → k5.get? c = some o → k8.get? c = some o := fun c o n1 g => e8.extBut _ _ n1 (e7.extBut _ _ n1 (Heap.get?_push_of_some _ g))
  have t8 : IsPair k8 k5.objs.size x y := e8.extBut _ _ (Nat.ne_of_gt zlt) (e7.extBut _ _ (Nat.ne_of_gt zlt) (Heap.get?_push_size _ rfl))
  have size8 : k8.objs.size = k5.objs.size + 1 := by rw [e8.1, e7.1, Heap.size_push]
  rw [size] at z8 t8 size8
  refine wpAny_pure ⟨_, rfl, ?_⟩
  show Q (.ref k5.objs.size) _
  rw [size]
  exact q k8 z8 (up _ _ D.TOz o5) (p15.at fun o g => up _ o D.i1z g) (p25.at fun o g => up _ o D.i2z g) t8 size8 (fun c o nc g => up c o (fun z => nc (by simp [z])) (keep5 c o (fun z => nc (by simp [z])) (fun z => nc (by simp [z])) (fun z => nc (by simp [z])) (fun z => nc (by simp [z])) g)) (by rw [pI]; exact up _ _ D.TIz (keep5 _ _ D.TIz D.TITO D.TIi1 D.TIi2 pI))
/-- its end -/
theorem ztl_end {z TI TO i1 i2 a b : Addr} {m n : Nat} {xs ys : Array Value} {u v : Value} {Q : Fin → Shared → Prop} (calm : A.handled = none) (D : ZipApart z TI TO i1 i2 a b) (pz : ZipX s.heap z TI TO .none false)
    (pI : IsPair s.heap TI (.ref i1) (.ref i2)) (pO : IsPair s.heap TO u v) (p1 : s.heap.IsTupleIter i1 a m) (p2 : s.heap.IsListIter i2 b n) (la : s.heap.IsTuple a xs) (lb : s.heap.IsList b ys) (last : xs[m]? = none ∨ ys[n]? = none)
    (q : ∀ h' x, (∀ c o, c ∉ [z, TI, TO, i1, i2] → s.heap.get? c = some o → h'.get? c = some o) → (∃ o, h'.get? x = some o ∧ o.cls = .type "StopIteration") → E (.ref x) { s with heap := h' }) :
    wpAny (model P w) A (Builtin.«zip.__next__» ⟨[.ref z], []⟩) Q E s := by
  show wpAny _ _ (field (.ref z) 2 >>= _) _ _ _
  refine wpAny_bind (wpAny_field pz rfl (x := .bool false) rfl ?_)
  show wpAny _ _ (field (.ref z) 3 >>= _) _ _ _
  refine wpAny_bind (wpAny_field pz rfl (x := .ref TI) rfl (wpAny_bind (wpAny_seqItems pI rfl ?_)))
  show wpAny _ _ (Builtin.SmallTypes.ownedTupleIsFree (.ref z) >>= _) _ _ _
  refine wpAny_bind (owned_free pz (.inl rfl) ?_)
  simp only [if_true]
  refine wpAny_bind (wpAny_rule (wpAny_bind (wpAny_field pz rfl (x := .ref TO) rfl ?_)))
  refine wpAny_bind (wpAny_setField_rec pz (by simp) fun k1 z1 e1 => ?_)
  have z1 : ZipX k1 z TI TO .ellipsis false := z1
  refine wpAny_bind ?_
  simp only [List.zipIdx_cons, List.zipIdx_nil, List.forIn_cons, List.forIn_nil]
  refine wpAny_bind (wpAny_bind (wpAny_onRaise ?_))
  show wpAny _ _ (Builtin.SmallTypes.nextOf (.ref i1) >>= _) _ _ _
  have fin : ∀ (k : Heap) (x : Addr), ZipX k z TI TO .ellipsis false → (∃ o, k.get? x = some o ∧ o.cls = .type "StopIteration") → (∀ c o, c ∉ [z, TI, TO, i1, i2] → s.heap.get? c = some o → k.get? c = some o) →
      wpAny (model P w) A (setField (.ref z) 0 .none) (fun _ s' => E (.ref x) s') E { s with heap := k } := fun k x zk ⟨o, ho, hc⟩ keep => by
    have ne : x ≠ z := fun e => by
      rw [e, zk] at ho
      cases ho
      simp at hc
    exact wpAny_setField_rec zk (by simp) fun k' _ e' => q k' x (fun c o nc g => e'.extBut _ _ (fun z => nc (by simp [z])) (keep c o nc g)) ⟨o, e'.extBut _ _ ne ho, hc⟩
  cases ex : xs[m]? with
  | none =>
    refine wpAny_bind (RZ.nextOf_tuple_end calm (p1.extBut e1.extBut D.i1z) (la.extBut e1.extBut D.l1z) ex fun k2 x e2 hx => ?_)
    exact fin k2 x (e2 _ _ D.i1z.symm z1) hx fun c o nc g => e2 _ _ (fun z => nc (by simp [z])) (e1.extBut _ _ (fun z => nc (by simp [z])) g)
  | some x =>
    have ey : ys[n]? = none := last.resolve_left (by rw [ex]; exact fun z => nomatch z)
    refine wpAny_bind (RZ.nextOf_tuple_item (p1.extBut e1.extBut D.i1z) (la.extBut e1.extBut D.l1z) ex fun k2 g2 e2 => wpAny_pure ?_)
    have o2 : IsPair k2 TO u v := e2.extBut _ _ D.TOi1 (e1.extBut _ _ D.TOz pO)
    refine wpAny_bind (wpAny_seqItems o2 rfl (wpAny_bind (wpAny_updateSeq_pair o2 fun k3 o3 e3 => ?_)))
    refine wpAny_bind (wpAny_letGo (wpAny_pure (wpAny_bind (wpAny_bind (wpAny_onRaise ?_)))))
    show wpAny _ _ (Builtin.SmallTypes.nextOf (.ref i2) >>= _) _ _ _
    have p23 := ((p2.extBut e1.extBut D.i2z).extBut e2.extBut D.i12.symm).extBut e3.extBut D.TOi2.symm
    have lb3 := ((lb.extBut e1.extBut D.l2z).extBut e2.extBut D.l2i1).extBut e3.extBut D.l2TO
    refine wpAny_bind (wpAny_nextOf_list_end calm p23 lb3 ey fun k4 x e4 hx => ?_)
    exact fin k4 x (e4 _ _ D.i2z.symm (e3.extBut _ _ D.TOz.symm (e2.extBut _ _ D.i1z.symm z1))) hx fun c o nc g => e4 _ _ (fun z => nc (by simp [z])) (e3.extBut _ _ (fun z => nc (by simp [z])) (e2.extBut _ _ (fun z => nc (by simp [z])) (e1.extBut _ _ (fun z => nc (by simp [z])) g)))
theorem ztl_next {z TI TO i1 i2 a b : Addr} {m n : Nat} {xs ys : Array Value} {x y u v : Value} {Q : Option Value → Shared → Prop} (D : ZipApart z TI TO i1 i2 a b) (pz : ZipX s.heap z TI TO .none false)
    (pI : IsPair s.heap TI (.ref i1) (.ref i2)) (pO : IsPair s.heap TO u v) (p1 : s.heap.IsTupleIter i1 a m) (p2 : s.heap.IsListIter i2 b n) (la : s.heap.IsTuple a xs) (lb : s.heap.IsList b ys) (ex : xs[m]? = some x) (ey : ys[n]? = some y)
    (q : ∀ h', IsZip h' z TI TO (rawInt s.heap.objs.size) → IsPair h' TO x y → h'.IsTupleIter i1 a (m + 1) → h'.IsListIter i2 b (n + 1) → IsPair h' s.heap.objs.size x y → h'.objs.size = s.heap.objs.size + 1 →
      (∀ c o, c ∉ [z, TI, TO, i1, i2] → s.heap.get? c = some o → h'.get? c = some o) → h'.get? TI = s.heap.get? TI → Q (some (.ref s.heap.objs.size)) { s with heap := h' }) :
    wpAny (model P w) A (pyNext (.ref z)) Q E s := by
  have ty : s.TypeIs (.ref z) "zip" := ⟨_, pz, rfl⟩
  unfold pyNext
  refine wpAny_bind (wpAny_attempt (wpAny_callSpecial?_slot (name := Str.ofString "__next__") ty F.slot_zip_next (wpAny_call_entry F.slot_zip_next ty F.entry_zip_next ?_ (F.args_zip_next_1 _))))
  exact ztl_item D pz pI pO p1 p2 la lb ex ey fun h' a1 a2 a3 a4 a5 a6 a7 a8 => wpAny_pure (q h' a1 a2 a3 a4 a5 a6 a7 a8)
theorem ztl_stop {z TI TO i1 i2 a b : Addr} {m n : Nat} {xs ys : Array Value} {u v : Value} {Q : Option Value → Shared → Prop} (calm : A.handled = none) (D : ZipApart z TI TO i1 i2 a b) (pz : ZipX s.heap z TI TO .none false)
    (pI : IsPair s.heap TI (.ref i1) (.ref i2)) (pO : IsPair s.heap TO u v) (p1 : s.heap.IsTupleIter i1 a m) (p2 : s.heap.IsListIter i2 b n) (la : s.heap.IsTuple a xs) (lb : s.heap.IsList b ys) (last : xs[m]? = none ∨ ys[n]? = none)
    (q : ∀ h', (∀ c o, c ∉ [z, TI, TO, i1, i2] → s.heap.get? c = some o → h'.get? c = some o) → Q none { s with heap := h' }) : wpAny (model P w) A (pyNext (.ref z)) Q E s := by
  have ty : s.TypeIs (.ref z) "zip" := ⟨_, pz, rfl⟩
  unfold pyNext
  refine wpAny_bind (wpAny_attempt (wpAny_callSpecial?_slot (name := Str.ofString "__next__") ty F.slot_zip_next (wpAny_call_entry F.slot_zip_next ty F.entry_zip_next ?_ (F.args_zip_next_1 _))))
  refine ztl_end calm D pz pI pO p1 p2 la lb last fun h' x kp hx => ?_
  obtain ⟨o, ho, hc⟩ := hx
  exact wpAny_bind (wpAny_isInstance (T := "StopIteration") (b := true) ⟨o, ho, hc⟩ isSubtype_stop (wpAny_pure (q _ kp)))
end
/-- a tuple at a and a list at b -/
def ItzM (K : PySem.W.Frag) (a b : Addr) : It :=
  ⟨fun i H => ∃ (xs ys : List V) (x y : V), SqT K H a xs ∧ SqL K H b ys ∧ xs[i]? = some x ∧ ys[i]? = some y,
    fun i H v H' => ∃ T x y, v = .ref T ∧ H T = none ∧ H' = upd H T (.tup [x, y]) ∧ (∀ xs, SqT K H a xs → xs[i]? = some x) ∧ ∀ ys, SqL K H b ys → ys[i]? = some y,
    fun i H => ∃ xs ys : List V, SqT K H a xs ∧ SqL K H b ys ∧ (xs.length ≤ i ∨ ys.length ≤ i)⟩
theorem turn_ztl {P : Program} {w : World} {K : PySem.W.Frag} {elts : List Expr} {kk : Nat} {tpos : Pos} {a b z TI TO i1 i2 : Addr} (D : ZipApart z TI TO i1 i2 a b) :
    Turn P w K (.Tuple elts kk tpos) (ItzM K a b) [z, TI, TO, i1, i2] z (fun i h => ZipX h z TI TO .none false ∧ IsPair h TI (.ref i1) (.ref i2) ∧ (∃ x y, IsPair h TO x y) ∧ h.IsTupleIter i1 a i ∧ h.IsListIter i2 b i) where
  mem := by simp
  obj := fun i h st c hc => by
    obtain ⟨pz, pI, ⟨x, y, pO⟩, ⟨o1, e1, _, d1⟩, ⟨o2, e2, _, d2⟩⟩ := st
    have hc : c = z ∨ c = TI ∨ c = TO ∨ c = i1 ∨ c = i2 := by simpa using hc
    rcases hc with e | e | e | e | e
    · rw [e]; exact ⟨_, pz, fun v t => nomatch t⟩
    · rw [e]; exact ⟨_, pI, fun v t => nomatch t⟩
    · rw [e]; exact ⟨_, pO, fun v t => nomatch t⟩
    · rw [e]; exact ⟨o1, e1, fun v t => by rw [d1] at t; cases t⟩
    · rw [e]; exact ⟨o2, e2, fun v t => by rw [d2] at t; cases t⟩
  keep := fun i h h' st k => by
    obtain ⟨pz, pI, ⟨x, y, pO⟩, p1, p2⟩ := st
    exact ⟨k z (by simp) _ pz, k TI (by simp) _ pI, ⟨x, y, k TO (by simp) _ pO⟩, p1.at fun o t => k i1 (by simp) o t, p2.at fun o t => k i2 (by simp) o t⟩
  item := by
    intro X hP hw hK hc i pins s σ H E I hf st hg
    subst hP hw hK
    obtain ⟨pz, pI, ⟨x0, y0, pO⟩, p1, p2⟩ := st
    obtain ⟨xs, ys, x, y, hqx, hqy, hx, hy⟩ := hg
    obtain ⟨its, rv, la, _⟩ := I.tuple hqx
    obtain ⟨its2, rv2, lb, _⟩ := I.list hqy
    obtain ⟨u, hu, ru⟩ := rv.get hx
    obtain ⟨u2, hu2, ru2⟩ := rv2.get hy
    have zlt : z < s.heap.objs.size := Heap.lt_size pz
    refine ztl_next D pz pI pO p1 p2 (show s.heap.IsTuple a its.toArray from la) lb.isList (x := u) (y := u2) (by simpa using hu) (by simpa using hu2) fun h' a1 a2 a3 a4 a5 a6 kp a8 => ?_
    refine ⟨_, rfl, wpAny_letOwnedTupleGo_zip (s := { s with heap := h' }) a1 fun h'' zz sb => ?_⟩
    have t2 : h''.get? s.heap.objs.size = some { cls := .type "tuple", data := .seq #[u, u2] } := (sb.2 _ (Nat.ne_of_gt zlt)).trans a5
    have new : ObjOk X.prog X.w (upd H s.heap.objs.size (.tup [x, y])) h'' s.heap.objs.size (.tup [x, y]) := ⟨by show 2 ≤ sizeLine; decide, [u, u2], .cons ru (.cons ru2 .nil), ⟨_, t2, rfl, _, rfl⟩⟩
    have I1 : Inv X pins σ (upd H s.heap.objs.size (.tup [x, y])) { s with heap := h'' } :=
      I.turnedNew (t' := s.toks) (ch := [z, TI, TO, i1, i2]) (fun c o nc t => (sb.2 c (fun e => nc (by simp [e]))).trans (kp c o nc t)) hf (Nat.le_refl _) new
    refine ⟨.ref s.heap.objs.size, _, I1, rfl, ⟨_, x, y, rfl, I.hok.fresh (Nat.le_refl _), rfl, fun l hl => by rw [I.tuple_inj hl hqx]; exact hx, fun l hl => by rw [I.list_inj hl hqy]; exact hy⟩, ⟨zz, ?_, ⟨u, u2, (sb.2 _ D.TOz).trans a2⟩, a3.at fun o t => (sb.2 _ D.i1z).trans t, a4.at fun o t => (sb.2 _ D.i2z).trans t⟩, fun c hcm => ?_⟩
    · exact ((sb.2 _ D.TIz).trans a8).trans pI
    · have clt : c < s.heap.objs.size := by
        have hcm : c = z ∨ c = TI ∨ c = TO ∨ c = i1 ∨ c = i2 := by simpa using hcm
        rcases hcm with e | e | e | e | e
        · rw [e]; exact zlt
        · rw [e]; exact Heap.lt_size pI
        · rw [e]; exact Heap.lt_size pO
        · rw [e]; obtain ⟨_, t, _⟩ := p1; exact Heap.lt_size t
        · rw [e]; obtain ⟨_, t, _⟩ := p2; exact Heap.lt_size t
      rw [upd_ne (Nat.ne_of_lt clt)]
      exact (hf c hcm).1
  done := by
    intro X hP hw hK hc i pins s σ H E I hf st hg
    subst hP hw hK
    obtain ⟨pz, pI, ⟨x0, y0, pO⟩, p1, p2⟩ := st
    obtain ⟨xs, ys, hqx, hqy, hend⟩ := hg
    obtain ⟨its, rv, la, _⟩ := I.tuple hqx
    obtain ⟨its2, rv2, lb, _⟩ := I.list hqy
    have l1 := rv.length
    have l2 := rv2.length
    have last : its.toArray[i]? = none ∨ its2.toArray[i]? = none := hend.imp (fun t => by simp; omega) (fun t => by simp; omega)
    exact ztl_stop (I.ok.hd hc) D pz pI pO p1 p2 (show s.heap.IsTuple a its.toArray from la) lb.isList last fun h' kp => ⟨rfl, I.turnedL (t' := s.toks) (ch := [z, TI, TO, i1, i2]) kp hf⟩
  self := fun A i s Q E st h => wpAny_pyIter_zip st.1 h
def hM1 (h : Heap) (a : Addr) : Heap := h.push { cls := .type "tuple_iterator", data := .fields #[.ref a, .int 0 0] }
def hM2 (h : Heap) (a b : Addr) : Heap := (hM1 h a).push { cls := .type "list_iterator", data := .fields #[.ref b, .int 0 0] }
def hM3 (h : Heap) (a b : Addr) : Heap := (hM2 h a b).push { cls := .type "tuple", data := .seq #[.ref h.objs.size, .ref (hM1 h a).objs.size] }
def hM4 (h : Heap) (a b : Addr) : Heap := (hM3 h a b).push { cls := .type "tuple", data := .seq #[.none, .none] }
def hM5 (h : Heap) (a b : Addr) : Heap := (hM4 h a b).push { cls := .type "zip", data := .fields #[.none, .bool false, .bool false, .ref (hM2 h a b).objs.size, .ref (hM3 h a b).objs.size] }
theorem meets_ztl (a b : Addr) (xs ys : Array Value) :
    Meets (Builtin.«zip.__new__» ⟨[.type "zip", .ref a, .ref b], []⟩) (fun _ R s => s.heap.IsTuple a xs ∧ s.heap.IsList b ys ∧ R (.ok (.ret (.ref (hM4 s.heap a b).objs.size))) { s with heap := hM5 s.heap a b }) :=
  .of_wp fun prog w A R s h => by
    obtain ⟨hp, g, d, tk, os⟩ := s
    obtain ⟨la, lb, h⟩ := h
    have sub := sub_zip
    have qa : Heap.IsTuple (Shared.heap ⟨hp, g, d, tk, os⟩) a xs := la
    have qb : Heap.IsList (Shared.heap ⟨hp.push { cls := .type "tuple_iterator", data := .fields #[.ref a, .int 0 0] }, g, d, tk, os⟩) b ys := Heap.IsList.push lb _
    wp_walk using wpAny_pyIter_tuple qa, wpAny_pyIter_list qb
    exact ⟨_, rfl, h⟩
section
variable {P : Program} {w : World} {A : Around} {E : Value → Shared → Prop} {s : Shared}
theorem call_ztl {a b : Addr} {xs ys : Array Value} {Q : Value → Shared → Prop} (la : s.heap.IsTuple a xs) (lb : s.heap.IsList b ys)
    (q : ∀ h', ZipX h' (s.heap.objs.size + 4) (s.heap.objs.size + 2) (s.heap.objs.size + 3) .none false → IsPair h' (s.heap.objs.size + 2) (.ref s.heap.objs.size) (.ref (s.heap.objs.size + 1)) →
      IsPair h' (s.heap.objs.size + 3) .none .none → h'.IsTupleIter s.heap.objs.size a 0 → h'.IsListIter (s.heap.objs.size + 1) b 0 → (∀ c o, s.heap.get? c = some o → h'.get? c = some o) → Q (.ref (s.heap.objs.size + 4)) { s with heap := h' }) :
    wpAny (model P w) A (call (.type "zip") [.ref a, .ref b]) Q E s := by
  refine callType_new F.called_zip (by decide) (F.typeCall_zip_2 _ _) (F.newCall_zip_2 _ _) (fun obj => F.args_object_init_3 obj _ _) F.entry_zip_new (meets_ztl a b xs ys) ⟨la, lb, ?_⟩
  have z1 : (hM1 s.heap a).objs.size = s.heap.objs.size + 1 := Heap.size_push ..
  have z2 : (hM2 s.heap a b).objs.size = s.heap.objs.size + 2 := by unfold hM2; rw [Heap.size_push, z1]
  have z3 : (hM3 s.heap a b).objs.size = s.heap.objs.size + 3 := by unfold hM3; rw [Heap.size_push, z2]
  have z4 : (hM4 s.heap a b).objs.size = s.heap.objs.size + 4 := by unfold hM4; rw [Heap.size_push, z3]
  have up : ∀ (k : Heap) (o : Obj) c x, k.get? c = some x → (k.push o).get? c = some x := fun k o c x e => Heap.get?_push_of_some _ e
  have g5 : (hM5 s.heap a b).get? (hM4 s.heap a b).objs.size = some _ := Heap.get?_push_size _ rfl
  have g4 : (hM5 s.heap a b).get? (hM3 s.heap a b).objs.size = some _ := up _ _ _ _ (Heap.get?_push_size _ rfl)
  have g3 : (hM5 s.heap a b).get? (hM2 s.heap a b).objs.size = some _ := up _ _ _ _ (up _ _ _ _ (Heap.get?_push_size _ rfl))
  have g2 : (hM5 s.heap a b).get? (hM1 s.heap a).objs.size = some _ := up _ _ _ _ (up _ _ _ _ (up _ _ _ _ (Heap.get?_push_size _ rfl)))
  have g1 : (hM5 s.heap a b).get? s.heap.objs.size = some _ := up _ _ _ _ (up _ _ _ _ (up _ _ _ _ (up _ _ _ _ (Heap.get?_push_size _ rfl))))
  show _ ∧ _
  rw [z2, z3, z4] at g5
  rw [z1, z2] at g3
  rw [z3] at g4
  rw [z1] at g2
  rw [z4]
  exact ⟨⟨_, g5, rfl⟩, q _ g5 g3 g4 ⟨_, g1, rfl, rfl⟩ ⟨_, g2, rfl, rfl⟩ fun c o x => up _ _ _ _ (up _ _ _ _ (up _ _ _ _ (up _ _ _ _ (up _ _ _ _ x))))⟩
end
def iZM (K : PySem.W.Frag) (ta : TA) : TI := fun σ H R => ta σ H fun vs H1 => ∃ a b xs ys, vs = [.ref a, .ref b] ∧ SqT K H1 a xs ∧ SqL K H1 b ys ∧ R (ItzM K a b) H1
theorem pi_ztl {X : Cx} {e e2 : Expr} {ta : TA} {p pos tpos : Pos} {elts : List Expr} {kk : Nat} (hg : Gl X "zip") (hm : X.mg "zip" = none) (ha : PA X [e, e2] ta)
    (hs : starEach [e, e2] X.env = (false, eval e X.env) :: starEach [e2] X.env := by rfl) (hpl : (backTo pos (starEach [e2] X.env)).any (·.1) = false := by rfl) :
    PI X (.Tuple elts kk tpos) (.Call (.Name "zip" p) [e, e2] [] pos) (iZM X.K ta) := by
  refine ⟨fun pins s σ H R I h => ?_⟩
  refine Call_ (ld_blt I hg hm PyProof.Rows.boot_zip (PyProof.Rows.callWith_type1 (thn (ha.run pos pins s σ H _ I h) fun us s1 ⟨vs, H1, I1, r1, q1⟩ => ?_) hs hpl))
  obtain ⟨a, b, xs, ys, ex, hqx, hqy, q⟩ := q1
  subst ex
  cases r1 with
  | cons r rr =>
    cases rr with
    | cons r' rr =>
      cases rr
      cases r
      cases r'
      obtain ⟨its, rv, la, _⟩ := I1.tuple hqx
      obtain ⟨its2, rv2, lb, _⟩ := I1.list hqy
      have lta : a < s1.heap.objs.size := la.lt
      have ltb : b < s1.heap.objs.size := lb.lt
      refine call_ztl (show s1.heap.IsTuple a its.toArray from la) lb.isList fun h' pz pI pO p1 p2 kp => wpAny_pyIter_zip pz ?_
      have I2 : Inv X pins σ H1 { s1 with heap := h' } := I1.kept (t' := s1.toks) kp
      refine ⟨s1.heap.objs.size + 4, [s1.heap.objs.size + 4, s1.heap.objs.size + 2, s1.heap.objs.size + 3, s1.heap.objs.size, s1.heap.objs.size + 1], _, _, H1, rfl, I2, turn_ztl (PySem.W.ktu_apart s1.heap.objs.size a b lta ltb), ⟨pz, pI, ⟨_, _, pO⟩, p1, p2⟩, fun c hc => ?_, q⟩
      have le : s1.heap.objs.size ≤ c := by
        have hc : c = s1.heap.objs.size + 4 ∨ c = s1.heap.objs.size + 2 ∨ c = s1.heap.objs.size + 3 ∨ c = s1.heap.objs.size ∨ c = s1.heap.objs.size + 1 := by simpa using hc
        rcases hc with z | z | z | z | z <;> rw [z] <;> first | exact Nat.le_add_right _ _ | exact Nat.le_refl _
      exact I1.fpOk le (I1.hok.fresh le)
section
variable {K : PySem.W.Frag} {a b : Addr} {xs ys : List V}
theorem walk_ztl {n : Nat} (hx : xs.length = n) (hy : ys.length = n) : L2.Walk (ItzM K a b) n (fun H => SqT K H a xs ∧ SqL K H b ys) (YPair (fun i => xs[i]?) (fun i => ys[i]?)) :=
  ⟨fun i _ hi g => ⟨xs, ys, xs[i], ys[i], g.1, g.2, by simp, by simp⟩, fun _ g => ⟨xs, ys, g.1, g.2, .inl (by omega)⟩, fun i H v H' _ g y => by
    obtain ⟨T, x, z, g1, g2, g3, g4, g5⟩ := y
    exact ⟨T, x, z, g1, g2, g3, g4 xs g.1, g5 ys g.2⟩⟩
end
/-! ### for i, x in enumerate(xs), xs a tuple -/
theorem enum_newT (a : Addr) (items : Array Value) : Meets (Builtin.«enumerate.__new__» ⟨[.type "enumerate", .ref a], []⟩) (fun _ R s => s.heap.IsTuple a items ∧
    R (.ok (.ret (.ref (s.heap.push { cls := .type "tuple_iterator", data := .fields #[.ref a, .int 0 0] }).objs.size))) { s with heap := (s.heap.push { cls := .type "tuple_iterator", data := .fields #[.ref a, .int 0 0] }).push { cls := .type "enumerate", data := .fields #[.none, .bool false, .ref s.heap.objs.size, rawInt 0, .none, .none] } }) :=
  .of_wp fun prog w A R s h => by
    obtain ⟨hp, g, d, tk, os⟩ := s
    obtain ⟨hl, h⟩ := h
    have hsub := sub_enumerate
    have pt : (Shared.heap ⟨hp, g, d, tk, os⟩).IsTuple a items := hl
    obtain ⟨⟨cls, dd, data, sl⟩, ho, hc, n, hd⟩ := id hl
    simp only at hc hd
    subst hc hd
    wp_walk using AutoSeq1.wpAny_loadPart' ho
    refine wpAny_stack_any fun st => wpAny_pure ?_
    split
    · rename_i c _ _ _ _ _
      cases (c == Value.type "enumerate") <;> (wp_walk using AutoSeq1.wpAny_loadPart' ho, wpAny_pyIter_tuple pt; exact ⟨_, rfl, h⟩)
    · wp_walk using AutoSeq1.wpAny_loadPart' ho, wpAny_pyIter_tuple pt
      exact ⟨_, rfl, h⟩
theorem enum_callT {prog : Program} {w : World} {A : Around} {E : Value → Shared → Prop} {s : Shared} {a : Addr} {items : Array Value} {Q : Value → Shared → Prop} (pt : s.heap.IsTuple a items)
    (q : ∀ h', IsEnum h' (s.heap.objs.size + 1) s.heap.objs.size 0 .none → h'.IsTupleIter s.heap.objs.size a 0 → (∀ b o, s.heap.get? b = some o → h'.get? b = some o) → Q (.ref (s.heap.objs.size + 1)) { s with heap := h' }) :
    wpAny (model prog w) A (call (.type "enumerate") [.ref a]) Q E s := by
  refine callType_new F.called_enumerate (by decide) (F.typeCall_enumerate_1 _) (F.newCall_enumerate_1 _) (fun obj => F.args_object_init_2 obj _) F.entry_enumerate_new (enum_newT a items) ⟨pt, ?_⟩
  have sz : (s.heap.push { cls := .type "tuple_iterator", data := .fields #[.ref a, .int 0 0] }).objs.size = s.heap.objs.size + 1 := Heap.size_push ..
  have pe : IsEnum ((s.heap.push { cls := .type "tuple_iterator", data := .fields #[.ref a, .int 0 0] }).push { cls := .type "enumerate", data := .fields #[.none, .bool false, .ref s.heap.objs.size, rawInt 0, .none, .none] }) (s.heap.objs.size + 1) s.heap.objs.size 0 .none := by
    rw [← sz]
    exact Heap.get?_push_size _ rfl
  have pi : ((s.heap.push { cls := .type "tuple_iterator", data := .fields #[.ref a, .int 0 0] }).push { cls := .type "enumerate", data := .fields #[.none, .bool false, .ref s.heap.objs.size, rawInt 0, .none, .none] }).IsTupleIter s.heap.objs.size a 0 := ⟨_, Heap.get?_push_of_some _ (Heap.get?_push_size _ rfl), rfl, rfl⟩
  rw [sz]
  exact ⟨⟨_, pe, rfl⟩, q _ pe pi fun b o x => Heap.get?_push_of_some _ (Heap.get?_push_of_some _ x)⟩
/-- the i-th turn: a new pair of i and the item -/
def Itet (K : PySem.W.Frag) (a : Addr) : It :=
  ⟨fun i H => ∃ (xs : List V) (x : V), SqT K H a xs ∧ xs[i]? = some x,
    fun i H v H' => ∃ T x, v = .ref T ∧ H T = none ∧ H' = upd H T (.tup [.int (i : Nat), x]) ∧ ∀ xs, SqT K H a xs → xs[i]? = some x,
    fun i H => ∃ xs : List V, SqT K H a xs ∧ xs.length ≤ i⟩
theorem turn_et {P : Program} {w : World} {K : PySem.W.Frag} {elts : List Expr} {kk : Nat} {tpos : Pos} {a e it : Addr} (ne : e ≠ it) :
    Turn P w K (.Tuple elts kk tpos) (Itet K a) [e, it] e (fun i h => (∃ old, IsEnum h e it ((i : Nat) : Int) old) ∧ h.IsTupleIter it a i) where
  mem := List.mem_cons_self
  obj := fun i h st c hc => by
    obtain ⟨⟨old, pe⟩, ⟨o1, h1, _, d1⟩⟩ := st
    have hc : c = e ∨ c = it := by simpa using hc
    rcases hc with q | q
    · rw [q]; exact ⟨_, pe, fun v q => nomatch q⟩
    · rw [q]; exact ⟨o1, h1, fun v q => by rw [d1] at q; cases q⟩
  keep := fun i h h' st k => by
    obtain ⟨⟨old, pe⟩, pi⟩ := st
    exact ⟨⟨old, k e (by simp) _ pe⟩, pi.at fun o q => k it (by simp) o q⟩
  item := by
    intro X hP hw hK hc i pins s σ H E I hf st hg
    subst hP hw hK
    obtain ⟨⟨old, pe⟩, pi⟩ := st
    obtain ⟨xs, x, hq, hx⟩ := hg
    obtain ⟨its, rv, p, _⟩ := I.tuple hq
    obtain ⟨u, hu, ru⟩ := rv.get hx
    have elt : e < s.heap.objs.size := Heap.lt_size pe
    have ilt : it < s.heap.objs.size := by
      obtain ⟨o1, h1, _⟩ := pi
      exact Heap.lt_size h1
    refine enum_over (R := fun v h1 => v = u ∧ h1.IsTupleIter it a (i + 1) ∧ Heap.SameBut it s.heap h1) pe
      (fun Q' E' hq' => RZ.nextOf_tuple_item pi p (by simpa using hu) fun h1 a1 a2 => hq' _ h1 ⟨rfl, a1, a2⟩) (fun v h1 r => r.2.2.extBut _ _ ne pe) fun v h1 h' tk r pe' tp k2 => ?_
    obtain ⟨rfl, p1, sb1⟩ := r
    refine ⟨_, rfl, wpAny_letOwnedTupleGo_enum (s := { s with heap := h', toks := tk + 1 }) pe' fun h'' pe'' sb => ?_⟩
    have sb : Heap.SameBut e h' h'' := sb
    have sz : h1.objs.size = s.heap.objs.size := sb1.1
    have k3 : ∀ c o, c ≠ e → h1.get? c = some o → h''.get? c = some o := fun c o n q => (sb.2 c n).trans (k2 c o n q)
    have t2 : h''.get? h1.objs.size = some { cls := .type "tuple", data := .seq #[.int i tk, v] } := (sb.2 _ (by rw [sz]; exact Nat.ne_of_gt elt)).trans tp
    have new : ObjOk X.prog X.w (upd H s.heap.objs.size (.tup [.int (i : Nat), x])) h'' s.heap.objs.size (.tup [.int (i : Nat), x]) := ⟨by show 2 ≤ sizeLine; decide, [.int i tk, v], .cons ⟨_, rfl⟩ (.cons ru .nil), ⟨_, by rw [← sz]; exact t2, rfl, _, rfl⟩⟩
    have I1 : Inv X pins σ (upd H s.heap.objs.size (.tup [.int (i : Nat), x])) { s with heap := h'', toks := tk + 1 } :=
      I.turnedNew (t' := tk + 1) (ch := [e, it]) (fun c o nc q => k3 c o (fun z => nc (by simp [z])) (sb1.extBut _ _ (fun z => nc (by simp [z])) q)) hf (Nat.le_refl _) new
    refine ⟨.ref s.heap.objs.size, _, I1, by rw [sz]; rfl, ⟨_, x, rfl, I.hok.fresh (Nat.le_refl _), rfl, fun l hl => by rw [I.tuple_inj hl hq]; exact hx⟩, ⟨⟨_, pe''⟩, p1.at fun o q => k3 it o ne.symm q⟩, fun c hcm => ?_⟩
    have clt : c < s.heap.objs.size := by
      have hc : c = e ∨ c = it := by simpa using hcm
      rcases hc with q | q
      · rw [q]; exact elt
      · rw [q]; exact ilt
    rw [upd_ne (Nat.ne_of_lt clt)]
    exact (hf c hcm).1
  done := by
    intro X hP hw hK hc i pins s σ H E I hf st hg
    subst hP hw hK
    obtain ⟨⟨old, pe⟩, pi⟩ := st
    obtain ⟨xs, hq, hend⟩ := hg
    obtain ⟨its, rv, p, _⟩ := I.tuple hq
    have l1 := rv.length
    exact enum_over_end (R := fun h1 => ∀ c o, c ≠ it → s.heap.get? c = some o → h1.get? c = some o) pe
      (fun Q' E' hq' => RZ.nextOf_tuple_end (by simp [I.ok.hd hc]) pi p (by simp; omega) fun h' x kp hx => hq' h' x (fun c o n q => kp c o n q) hx)
      fun h1 kp => ⟨rfl, I.turnedL (t' := s.toks) (ch := [e, it]) (fun c o nc q => kp c o (fun z => nc (by simp [z])) q) hf⟩
  self := fun A i s Q E st h => let ⟨⟨_, pe⟩, _⟩ := st; wpAny_pyIter_enum pe h
def iEnumT (K : PySem.W.Frag) (ta : TA) : TI := fun σ H R => ta σ H fun vs H1 => ∃ a xs, vs = [.ref a] ∧ SqT K H1 a xs ∧ R (Itet K a) H1
theorem pi_enumT {X : Cx} {e : Expr} {ta : TA} {p pos tpos : Pos} {elts : List Expr} {kk : Nat} (hg : Gl X "enumerate") (hm : X.mg "enumerate" = none) (ha : PA X [e] ta) (hs : starEach [e] X.env = [(false, eval e X.env)] := by rfl) :
    PI X (.Tuple elts kk tpos) (.Call (.Name "enumerate" p) [e] [] pos) (iEnumT X.K ta) := by
  refine ⟨fun pins s σ H R I h => ?_⟩
  refine Call_ (ld_blt I hg hm boot_enumerate (PyProof.Rows.callWith_type1 (thn (ha.run pos pins s σ H _ I h) fun us s1 z => ?_) hs rfl))
  obtain ⟨vs, H1, I1, r1, a, xs, rfl, hq, q⟩ := z
  cases r1 with
  | cons r rr =>
    cases rr
    cases r
    obtain ⟨its, rv, pt, _⟩ := I1.tuple hq
    refine enum_callT pt fun h' pe pi keep => wpAny_pyIter_enum pe ?_
    have I2 : Inv X pins σ H1 { s1 with heap := h' } := I1.kept (t' := s1.toks) keep
    refine ⟨s1.heap.objs.size + 1, [s1.heap.objs.size + 1, s1.heap.objs.size], _, _, H1, rfl, I2, turn_et (a := a) (Nat.succ_ne_self _), ⟨⟨.none, pe⟩, pi⟩, fun c hc => ?_, q⟩
    have le : s1.heap.objs.size ≤ c := by
      have hc : c = s1.heap.objs.size + 1 ∨ c = s1.heap.objs.size := by simpa using hc
      rcases hc with z | z
      · rw [z]; exact Nat.le_add_right _ _
      · rw [z]; exact Nat.le_refl _
    exact I1.fpOk le (I1.hok.fresh le)
section
variable {K : PySem.W.Frag} {a : Addr} {xs : List V}
def YET (xs : List V) (i : Nat) (H : Hp) (v : V) (H' : Hp) : Prop := ∃ T x, v = .ref T ∧ H T = none ∧ H' = upd H T (.tup [.int (i : Nat), x]) ∧ xs[i]? = some x
theorem walk_et : Walk (Itet K a) xs.length (fun H => SqT K H a xs) (YET xs) := by
  refine ⟨fun i _ hi q => ⟨xs, xs[i], q, by simp [hi]⟩, fun _ q => ⟨xs, q, Nat.le_refl _⟩, fun i H v H' _ q y => ?_⟩
  obtain ⟨T, x, g1, g2, g3, g4⟩ := y
  exact ⟨T, x, g1, g2, g3, g4 xs q⟩
end
/-! ### for i, x in enumerate(xs), xs a list or a tuple -/
def iEnumA (K : PySem.W.Frag) (ta : TA) : TI := fun σ H R => ta σ H fun vs H1 => ∃ a, vs = [.ref a] ∧ ((∃ xs, SqL K H1 a xs) ∧ R (Ite K a) H1 ∨ (∃ xs, SqT K H1 a xs) ∧ R (Itet K a) H1)
theorem pi_enumA {X : Cx} {e : Expr} {ta : TA} {p pos tpos : Pos} {elts : List Expr} {kk : Nat} (hg : Gl X "enumerate") (hm : X.mg "enumerate" = none) (ha : PA X [e] ta) (hs : starEach [e] X.env = [(false, eval e X.env)] := by rfl) :
    PI X (.Tuple elts kk tpos) (.Call (.Name "enumerate" p) [e] [] pos) (iEnumA X.K ta) := by
  refine ⟨fun pins s σ H R I h => ?_⟩
  refine Call_ (ld_blt I hg hm boot_enumerate (PyProof.Rows.callWith_type1 (thn (ha.run pos pins s σ H _ I h) fun us s1 z => ?_) hs rfl))
  obtain ⟨vs, H1, I1, r1, a, rfl, q⟩ := z
  cases r1 with
  | cons r rr =>
    cases rr
    cases r
    have foot : ∀ c ∈ [s1.heap.objs.size + 1, s1.heap.objs.size], FpOk X pins H1 c := fun c hc => by
      have hc : c = s1.heap.objs.size + 1 ∨ c = s1.heap.objs.size := by simpa using hc
      have le : s1.heap.objs.size ≤ c := by
        rcases hc with z | z
        · rw [z]; exact Nat.le_add_right _ _
        · rw [z]; exact Nat.le_refl _
      exact I1.fpOk le (I1.hok.fresh le)
    rcases q with ⟨⟨xs, hq⟩, q⟩ | ⟨⟨xs, hq⟩, q⟩
    · obtain ⟨its, rv, pl, _⟩ := I1.list hq
      refine call_enumerate_list pl.isList fun h' pe pi _ keep => wpAny_pyIter_enum pe ?_
      exact ⟨s1.heap.objs.size + 1, [s1.heap.objs.size + 1, s1.heap.objs.size], _, _, H1, rfl, I1.kept (t' := s1.toks) keep, turn_enum a (s1.heap.objs.size + 1) s1.heap.objs.size, ⟨⟨.none, pe⟩, pi, Nat.succ_ne_self _⟩, foot, q⟩
    · obtain ⟨its, rv, pt, _⟩ := I1.tuple hq
      refine enum_callT pt fun h' pe pi keep => wpAny_pyIter_enum pe ?_
      exact ⟨s1.heap.objs.size + 1, [s1.heap.objs.size + 1, s1.heap.objs.size], _, _, H1, rfl, I1.kept (t' := s1.toks) keep, turn_et (a := a) (Nat.succ_ne_self _), ⟨⟨.none, pe⟩, pi⟩, foot, q⟩
/-- a for over it; T the pair of each turn -/
theorem for_enumA {K : PySem.W.Frag} {H0 H1 : Hp} {a : Addr} {xs : List V} {g : TG} {tb : L2.TS} {D : Ends} {σ : L2.St} (h : SqA K H0 a xs) (s1 : Same H0 H1) (Pv : Nat → L2.St → Hp → Prop) (h0 : Pv 0 σ H1) (hl : ∀ i σ H, i ≤ xs.length → Pv i σ H → Same H0 H)
    (hs : ∀ (i : Nat) (y : V) (σ : L2.St) (H : Hp) (T : Addr), xs[i]? = some y → Pv i σ H → H T = none → g (.ref T) σ (upd H T (.tup [.int (i : Nat), y])) fun σ2 H2 => tb { D with nx := Pv (i + 1), ct := Pv (i + 1), bk := D.nx } σ2 H2) (hd : ∀ σ H, Pv xs.length σ H → D.nx σ H) :
    (∃ xs, SqL K H1 a xs) ∧ (∃ W : Nat → Nat → L2.St → Hp → Prop, (∃ m, W 0 m σ H1) ∧ ∀ i m σ H, W i m σ H →
      ((Ite K a).stop i H ∧ D.nx σ H) ∨ ((Ite K a).go i H ∧ ∃ N : L2.St → Hp → Prop, (∀ σ' H', N σ' H' → ∃ m', m' < m ∧ W (i + 1) m' σ' H') ∧ ∀ x H', (Ite K a).yld i H x H' → g x σ H' fun σ2 H2 => tb { D with nx := N, ct := N, bk := D.nx } σ2 H2)) ∨
    (∃ xs, SqT K H1 a xs) ∧ (∃ W : Nat → Nat → L2.St → Hp → Prop, (∃ m, W 0 m σ H1) ∧ ∀ i m σ H, W i m σ H →
      ((Itet K a).stop i H ∧ D.nx σ H) ∨ ((Itet K a).go i H ∧ ∃ N : L2.St → Hp → Prop, (∀ σ' H', N σ' H' → ∃ m', m' < m ∧ W (i + 1) m' σ' H') ∧ ∀ x H', (Itet K a).yld i H x H' → g x σ H' fun σ2 H2 => tb { D with nx := N, ct := N, bk := D.nx } σ2 H2)) := by
  rcases h with h | h
  · refine .inl ⟨⟨_, s1.seq h⟩, for_it (walk_enum (K := K) (a := a) (xs := xs)) Pv h0 (fun i σ H hi hP => (hl i σ H hi hP).seq h) (fun i v σ H H' hi hP hY => ?_) hd⟩
    obtain ⟨T, x, y, rfl, nT, rfl, hx, hy⟩ := hY
    obtain rfl : V.int (i : Nat) = x := Option.some.inj hx
    exact hs i y σ H T hy hP nT
  · refine .inr ⟨⟨_, Same.tup s1 h⟩, for_it (walk_et (K := K) (a := a) (xs := xs)) Pv h0 (fun i σ H hi hP => Same.tup (hl i σ H hi hP) h) (fun i v σ H H' hi hP hY => ?_) hd⟩
    obtain ⟨T, y, rfl, nT, rfl, hy⟩ := hY
    exact hs i y σ H T hy hP nT
/-! ### tearboard.deeds: are_notes, check_row, least_rows (rows handed in) -/
def notesB (cs : List Int) (i : Nat) (xs : List Int) : Bool := xs.all fun x => decide (0 ≤ x) && decide (x < cs.getD i 0)
/-- a row that may be handed in for this pad -/
def rowB (cs : List Int) (i : Nat) (r : Row2) : Bool := decide (r.1.length ≤ 400) && decide (r.2.length ≤ 12) && notesB cs i r.1 && notesB cs i r.2
abbrev nAn : List Str := ["book", "pad", "notes", "colours", "note"]
theorem scAn : FnScope nAn ["book", "pad", "notes"] (defScope sAn) := ⟨rfl, rfl, rfl, by decide +kernel, rfl, by decide +kernel, by decide +kernel⟩
def spAn (K : PySem.W.Frag) (C : Addr) : Sp := fun vs H Q _ => ∃ (p a : Addr) (cs : List Int) (fs : List (List Tri)) (i : Nat) (xs : List Int), vs = [.ref p, .int (i : Nat), .ref a] ∧ BookAt K C H p cs fs ∧ i < cs.length ∧ SqA K H a (xs.map V.int) ∧ xs.length ≤ 1000 ∧ ∀ H', Same H H' → Q (.bl (notesB cs i xs)) H'
abbrev nCr : List Str := ["book", "pad", "lead", "turn", "fits"]
theorem scCr : FnScope nCr ["book", "pad", "lead", "turn"] (defScope sCr) := ⟨rfl, rfl, rfl, by decide +kernel, rfl, by decide +kernel, by decide +kernel⟩
def spCr (K : PySem.W.Frag) (C CR : Addr) : Sp := fun vs H Q E => ∃ (p a b : Addr) (cs : List Int) (fs : List (List Tri)) (i : Nat) (r : Row2), vs = [.ref p, .int (i : Nat), .ref a, .ref b] ∧ BookAt K C H p cs fs ∧ i < cs.length ∧ SqA K H a (r.1.map V.int) ∧ SqA K H b (r.2.map V.int) ∧ r.1.length ≤ 1000 ∧ r.2.length ≤ 1000 ∧
  (rowB cs i r = true → ∀ H', Same H H' → Q .non H') ∧ (rowB cs i r = false → refuseN 8 CR [(i : Int)] H E)
theorem SqA.seq {K : PySem.W.Frag} {H H' : Hp} {a : Addr} {xs : List V} (h : SqA K H a xs) (s : Same H H') : SqA K H' a xs := by
  rcases h with h | h
  · exact .inl (s.seq h)
  · exact .inr (Same.tup s h)
section
variable {P : Program} {w : World} {K : PySem.W.Frag} {mg : Str → Option Value} {base : Heap}
theorem ok_an {f fC C : Addr} {fd fdC : FuncData} {k : Nat} (F : Fun K "are_notes" "are_notes" sAn f fd) (ma : mg "all" = none) (T : BkTxt K mg C) (bC : Binds K fdC ["self"] []) (mC : Meth K C "colours" fC) (GC : FnOk P w K mg base CX0 k fC fdC ["self"] (spCols K C)) :
    FnOk P w K mg base CX0 (k + 1) f fd ["book", "pad", "notes"] (spAn K C) := by
  refine F.ok scAn (fun vs H Q E h => ?_) (fun cdv A outer s H vs Q E hr h => ?_)
  · obtain ⟨p, a, cs, fs, i, xs, rfl, _⟩ := h
    rfl
  · obtain ⟨p, a, cs, fs, i, xs, rfl, hB, hi, ha, hl, q⟩ := h
    refine ⟨_, pss_cons (ps_set (i := 3) scAn.nd rfl (.inr rfl) (pe_ix ix_tup (pe_meth0 (pv 0) T.cl mC GC hr bC .nil pass0) (pv 1) (fun _ _ => rfl)))
      (pss_one (ps_ret (pe_callB (cr_all rfl) (by rfl) ma (by decide +kernel) (pa_cons (pe_lc (own := [("note", 4)]) (g := gName 4) (tt := tYes) rfl scAn.nd (pi_seq (pv 2)) (blkOk_by (own := [("note", 4)]) (N := nAn) (sc := defScope sAn) (by decide +kernel)) (fun _ _ _ _ _ => pg_name (i := 4) scAn.nd rfl (.inl rfl)) (fun _ _ _ _ _ => pts_nil) (fun _ _ _ _ _ => pe_chain op_le op_lt pe_int (pv 4) (pv 3))) pa_nil)))), ?_⟩
    obtain ⟨dx, a0, b0, xs0, hp, _⟩ := id hB
    refine ⟨.ref p, rfl, p, dx, _, rfl, hp, rfl, p, cs, fs, rfl, hB, fun ct hct => ?_⟩
    refine ⟨.int i, rfl, ct, _, (i : Int), .int cs[i], rfl, rfl, hct, atI_nat (by rw [List.getElem?_map, List.getElem?_eq_getElem hi]; rfl), ?_⟩
    have hcg : cs.getD i 0 = cs[i] := by rw [List.getD_eq_getElem?_getD, List.getElem?_eq_getElem hi]; rfl
    refine ⟨.ref a, rfl, a, rfl, lc_seq (K := K) ha (Same.refl H) (fun D j H' => Same H H' ∧ H' D = some (.lst (((xs.take j).map fun x => decide (0 ≤ x) && decide (x < cs.getD i 0)).map V.bl))) (fun D nD => ⟨same_upd nD, upd_same⟩) (fun D nD j H' _ hP => hP.1) (fun D nD j x H' hx hP => ?_) (fun D nD H1 hP => ?_)⟩
    · obtain ⟨sm, hD⟩ := hP
      rw [List.getElem?_map] at hx
      cases hz : xs[j]? with
      | none => rw [hz] at hx; cases hx
      | some z =>
        rw [hz] at hx
        obtain rfl := Option.some.inj hx
        have store : ∀ b : Bool, b = (decide (0 ≤ z) && decide (z < cs.getD i 0)) → ∃ acc, H' D = some (.lst acc) ∧ acc.length < sizeLine ∧ (Same H (upd H' D (.lst (acc ++ [.bl b]))) ∧ (upd H' D (.lst (acc ++ [.bl b]))) D = some (.lst (((xs.take (j + 1)).map fun x => decide (0 ≤ x) && decide (x < cs.getD i 0)).map V.bl))) := fun b eb => by
          refine ⟨_, hD, ?_, Same.offUpd sm nD, ?_⟩
          · rw [List.length_map, List.length_map, List.length_take]
            exact small1000 (by omega)
          · rw [upd_same, take_snoc hz, List.map_append, List.map_append, eb]
            rfl
        refine ⟨rfl, yesT ⟨.int z, rfl, 0, z, rfl, rfl, _, rfl, ite2 (fun e1 => ?_) (fun e1 => ?_)⟩⟩
        · refine ⟨.int cs[i], rfl, z, cs[i], rfl, rfl, store _ ?_⟩
          rw [show decide (0 ≤ z) = true from e1, hcg]
          rfl
        · refine store _ ?_
          rw [show decide (0 ≤ z) = false from Bool.eq_false_iff.mpr e1]
          rfl
    · obtain ⟨s1, hD⟩ := hP
      rw [List.length_map, List.take_length] at hD
      refine ⟨D, _, rfl, SqL.of hD, ?_⟩
      have e : (xs.map fun x => decide (0 ≤ x) && decide (x < cs.getD i 0)).all id = notesB cs i xs := by
        rw [List.all_map]
        rfl
      rw [e]
      exact q H1 s1
theorem ok_cr {f fA C CR : Addr} {fd fdA : FuncData} {k : Nat} {tkL tkR : Tok} (F : Fun K "check_row" "check_row" sCr f fd) (ml : mg "len" = none) (mML : mg "MOST_LEAD" = some (.int 400 tkL)) (mMR : mg "MOST_ROUND" = some (.int 12 tkR))
    (FA : Fun K "are_notes" "are_notes" sAn fA fdA) (bA : Binds K fdA ["book", "pad", "notes"] []) (gA : mg "are_notes" = some (.ref fA)) (GA : FnOk P w K mg base CX0 (k + 1) fA fdA ["book", "pad", "notes"] (spAn K C)) (R : exc1 8 "BadRow" "at" CR P w K mg base k) :
    FnOk P w K mg base (L2.CX P w) (k + 2) f fd ["book", "pad", "lead", "turn"] (spCr K C CR) := by
  refine F.okX scCr (fun vs H Q E h => ?_) (fun cdv A outer s H vs Q E hr h => ?_)
  · obtain ⟨p, a, b, cs, fs, i, r, rfl, _⟩ := h
    rfl
  · obtain ⟨p, a, b, cs, fs, i, r, rfl, hB, hi, ha, hb, hl1, hl2, q, q1⟩ := h
    refine ⟨_, C8.pss_cut (ps_set (i := 4) scCr.nd rfl (.inl rfl) (pe_and (pe_cmpR op_le (pe_callB call_lenQ (by rfl) ml PySem.boot_len (pa_cons (pv 2) pa_nil)) (pe_glob (v := .int 400) (by rfl) mML ⟨_, rfl⟩) (nomark _)) (pe_one (pe_cmpR op_le (pe_callB call_lenQ (by rfl) ml PySem.boot_len (pa_cons (pv 3) pa_nil)) (pe_glob (v := .int 12) (by rfl) mMR ⟨_, rfl⟩) (nomark _)))))
      (pss_one (ps_if (PW.pt (pw_or (pt_not (pt_val (pv 4))) (pw_or (pt_not (pt_val (pe_call GA hr (by rfl) gA FA.kp bA .nil pass0 (pa_cons (pv 0) (pa_cons (pv 1) (pa_cons (pv 2) pa_nil)))))) (pw_or1 (pt_not (pt_val (pe_call GA hr (by rfl) gA FA.kp bA .nil pass0 (pa_cons (pv 0) (pa_cons (pv 1) (pa_cons (pv 3) pa_nil)))))))))) (pss_one (ps_raise rfl (takes_of rfl rfl rfl rfl) (pmk_ref R hr (by rfl) (pa_cons (pv 1) pa_nil)))) pss_nil)), ?_⟩
    have hbad : rowB cs i r = false → ∀ (σ : L2.St) (H' : Hp), σ[1]? = some (some (.int (i : Nat))) → Same H H' → tRef CR 1 (fun ws => [("at", ws.getD 0 .non), ("word", .str "BadRow")]) (tCons (tVar 1) tNil) σ H' fun cls d H' => E cls d H' := fun e σ H' hσ sm =>
      ⟨_, hσ, rfl, (show (1 : Nat) ≤ 1000 by decide), fun dd H2 h1 h2 h3 => q1 e dd H2 (sm.trans (same_ref h1 h2)) h3⟩
    refine ⟨fun σ' H' => σ' = [some (.ref p), some (.int (i : Nat)), some (.ref a), some (.ref b), some (.bl (decide (r.1.length ≤ 400) && decide (r.2.length ≤ 12)))] ∧ H' = H, ?_, ?_⟩
    · refine ⟨.ref a, rfl, a, _, rfl, ha, _, 400, rfl, rfl, _, rfl, ?_⟩
      rw [List.length_map]
      have h1 : decide (((r.1.length : Nat) : Int) ≤ 400) = decide (r.1.length ≤ 400) := decide_eq_decide.mpr (by omega)
      have h2 : decide (((r.2.length : Nat) : Int) ≤ 12) = decide (r.2.length ≤ 12) := decide_eq_decide.mpr (by omega)
      rw [h1]
      cases decide (r.1.length ≤ 400) with
      | false => exact iteF ⟨rfl, rfl⟩
      | true =>
        refine iteT ⟨.ref b, rfl, b, _, rfl, hb, _, 12, rfl, rfl, ?_⟩
        rw [List.length_map]
        exact ⟨by show [some (V.ref p), some (V.int ↑i), some (V.ref a), some (V.ref b), some (V.bl (decide (((r.2.length : Nat) : Int) ≤ 12)))] = _; rw [h2]; rfl, rfl⟩
    · rintro σ' H' ⟨rfl, rfl⟩
      have e0 : rowB cs i r = ((decide (r.1.length ≤ 400) && decide (r.2.length ≤ 12)) && notesB cs i r.1 && notesB cs i r.2) := rfl
      refine ⟨_, rfl, _, rfl, ?_⟩
      cases hf : (decide (r.1.length ≤ 400) && decide (r.2.length ≤ 12)) with
      | false =>
        refine iteT (iteT (hbad (by rw [e0, hf]; rfl) _ _ rfl (Same.refl _)))
      | true =>
        refine iteF ⟨.ref p, rfl, .int i, rfl, .ref a, rfl, p, a, cs, fs, i, r.1, rfl, hB, hi, ha, hl1, fun H1 s1 => ⟨_, rfl, ?_⟩⟩
        cases hn : notesB cs i r.1 with
        | false =>
          refine iteT (iteT (hbad (by rw [e0, hf, hn]; rfl) _ _ rfl s1))
        | true =>
          refine iteF ⟨.ref p, rfl, .int i, rfl, .ref b, rfl, p, b, cs, fs, i, r.2, rfl, hB.same s1, hi, hb.seq s1, hl2, fun H2 s2 => ⟨_, rfl, ?_⟩⟩
          cases hm : notesB cs i r.2 with
          | false =>
            refine iteT (hbad (by rw [e0, hf, hn, hm]; rfl) _ _ rfl (s1.trans s2))
          | true =>
            exact iteF (q (by rw [e0, hf, hn, hm]; rfl) H2 (s1.trans s2))
end
abbrev nLrs : List Str := ["book", "rows", "pad", "lead", "turn"]
theorem scLrs : FnScope nLrs ["book", "rows"] (defScope sLrs) := ⟨rfl, rfl, rfl, by decide +kernel, rfl, by decide +kernel, by decide +kernel⟩
/-- a row as it is handed in: a tuple of two lists or tuples -/
def HandR (K : PySem.W.Frag) (H : Hp) (v : V) (r : Row2) : Prop := ∃ p la ta, v = .ref p ∧ SqT K H p [.ref la, .ref ta] ∧ SqA K H la (r.1.map V.int) ∧ SqA K H ta (r.2.map V.int)
theorem HandR.same {K : PySem.W.Frag} {H H' : Hp} {v : V} {r : Row2} (h : HandR K H v r) (s : Same H H') : HandR K H' v r := by
  obtain ⟨p, la, ta, e, h1, h2, h3⟩ := h
  exact ⟨p, la, ta, e, Same.tup s h1, h2.seq s, h3.seq s⟩
/-- these are the least rows of the first so many -/
def LRs (rs ls : List Row2) (n : Nat) : Prop := ls.length = n ∧ ∀ j r, j < n → rs[j]? = some r → ∃ l, ls[j]? = some l ∧ LR r.1 r.2 l.1 l.2
theorem LRs.snoc {rs ls : List Row2} {i : Nat} {r l : Row2} (h : LRs rs ls i) (hr : rs[i]? = some r) (hl : LR r.1 r.2 l.1 l.2) : LRs rs (ls ++ [l]) (i + 1) := by
  refine ⟨by rw [List.length_append, h.1]; rfl, fun j r' hj e => ?_⟩
  by_cases hji : j < i
  · obtain ⟨l', e1, e2⟩ := h.2 j r' hji e
    exact ⟨l', by rw [List.getElem?_append_left (by rw [h.1]; exact hji)]; exact e1, e2⟩
  · obtain rfl : j = i := by omega
    rw [hr] at e
    obtain rfl := Option.some.inj e
    refine ⟨l, ?_, hl⟩
    rw [List.getElem?_append_right (by rw [h.1]; exact Nat.le_refl _), h.1, Nat.sub_self]
    rfl
def spLrs (K : PySem.W.Frag) (C CR : Addr) : Sp := fun vs H Q E => ∃ (p a : Addr) (cs : List Int) (fs : List (List Tri)) (xs : List V) (rs : List Row2), vs = [.ref p, .ref a] ∧ BookAt K C H p cs fs ∧ SqA K H a xs ∧ All2 (HandR K H) xs rs ∧ (∀ r ∈ rs, r.1.length ≤ 1000 ∧ r.2.length ≤ 1000) ∧ rs.length ≤ 100 ∧
  (rs.length ≠ cs.length → refuseN 8 CR [-1] H E) ∧ (rs.length = cs.length → (∀ i r, rs[i]? = some r → rowB cs i r = false → (∀ j s, j < i → rs[j]? = some s → rowB cs j s = true) → refuseN 8 CR [(i : Int)] H E) ∧
    ((∀ i r, rs[i]? = some r → rowB cs i r = true) → ∀ H' q ls, Same H H' → RowsT K H' q ls → LRs rs ls rs.length → Q (.ref q) H'))
section
variable {P : Program} {w : World} {K : PySem.W.Frag} {mg : Str → Option Value} {base : Heap}
theorem ok_lrs {f fC fL fP C CR : Addr} {fd fdC fdL fdP : FuncData} {k : Nat} (F : Fun K "least_rows" "least_rows" sLrs f fd) (ml : mg "len" = none) (me : mg "enumerate" = none) (mt : mg "tuple" = none)
    (FC : Fun K "check_row" "check_row" sCr fC fdC) (bC : Binds K fdC ["book", "pad", "lead", "turn"] []) (gC : mg "check_row" = some (.ref fC)) (GC : FnOk P w K mg base (L2.CX P w) (k + 1) fC fdC ["book", "pad", "lead", "turn"] (spCr K C CR))
    (FL : Fun K "least_row" "least_row" sLR fL fdL) (bL : Binds K fdL ["lead", "turn"] []) (gL : mg "least_row" = some (.ref fL)) (GL : FnOk P w K mg base CX0 (k + 1) fL fdL ["lead", "turn"] (spLR K))
    (T : BkTxt K mg C) (bP : Binds K fdP ["self"] []) (mP : Meth K C "pads" fP) (GP : FnOk P w K mg base CX0 (k + 1) fP fdP ["self"] (spPadsM K C)) (R : exc1 8 "BadRow" "at" CR P w K mg base k) :
    FnOk P w K mg base (L2.CX P w) (k + 2) f fd ["book", "rows"] (spLrs K C CR) := by
  refine F.okX scLrs (fun vs H Q E h => ?_) (fun cdv A outer s H vs Q E hr h => ?_)
  · obtain ⟨p, a, cs, fs, xs, rs, rfl, _⟩ := h
    rfl
  · obtain ⟨p, a, cs, fs, xs, rs, rfl, hB, ha, hA, hrl, hl, q0, q⟩ := h
    refine ⟨_, pss_cons (ps_if (pt_cmp (pc_isN (pv 1))) (pss_one (ps_ret (pe_op op_repS (pe_tup (pa_cons (pe_tup (pa_cons (pe_tup pa_nil) (pa_cons (pe_tup pa_nil) pa_nil))) pa_nil)) (pe_meth0 (pv 0) T.cl mP GP hr bP .nil pass0)))) pss_nil)
      (pss_cons (ps_if (pt_cmpR op_ne (pe_callB call_lenQ (by rfl) ml PySem.boot_len (pa_cons (pv 1) pa_nil)) (pe_meth0 (pv 0) T.cl mP GP hr bP .nil pass0) (nomark _)) (pss_one (ps_raise rfl (takes_of rfl rfl rfl rfl) (pmk_ref R hr (by rfl) (pa_cons (pe_un un_neg pe_int) pa_nil)))) pss_nil)
      (pss_cons (ps_for (passes_of rfl) rfl (pi_enumA (by rfl) me (pa_cons (pv 1) pa_nil)) (pg_tup (by rfl) (pgs_cons (pg_name (i := 2) scLrs.nd rfl (.inl rfl)) (pgs_cons (pg_tup (by rfl) (pgs_cons (pg_name (i := 3) scLrs.nd rfl (.inl rfl)) (pgs_cons (pg_name (i := 4) scLrs.nd rfl (.inl rfl)) pgs_nil))) pgs_nil))) (pss_one (ps_expr (pe_call GC hr (by rfl) gC FC.kp bC .nil (passes_call (takes_of rfl rfl rfl rfl) (fun _ _ _ _ h => h)) (pa_cons (pv 0) (pa_cons (pv 2) (pa_cons (pv 3) (pa_cons (pv 4) pa_nil))))))))
      (pss_one (ps_ret (pe_callTy call_tupS (by rfl) mt (by decide +kernel) (pa_cons (pe_lc (own := [("lead", 3), ("turn", 4)]) (g := g2 K 3 4) (tt := tYes) rfl scLrs.nd (pi_seq (pv 1)) (blkOk_by (own := [("lead", 3), ("turn", 4)]) (N := nLrs) (sc := defScope sLrs) (by decide +kernel)) (fun _ _ _ _ _ => pg_tup (by rfl) (pgs_cons (pg_name (i := 3) scLrs.nd rfl (.inl rfl)) (pgs_cons (pg_name (i := 4) scLrs.nd rfl (.inl rfl)) pgs_nil))) (fun _ _ _ _ _ => pts_nil) (fun _ _ _ _ _ => pe_call GL hr (by rfl) gL FL.kp bL .nil pass0 (pa_cons (pv 3) (pa_cons (pv 4) pa_nil)))) pa_nil)))))), ?_⟩
    obtain ⟨dx, a0, b0, xs0, hp, _⟩ := id hB
    refine ⟨.ref a, rfl, _, rfl, ite2 (fun e => absurd (of_decide_eq_true e) (fun z => nomatch z)) (fun _ => ?_)⟩
    have hxl := hA.len
    refine ⟨.ref a, rfl, a, _, rfl, ha, .ref p, rfl, p, dx, _, rfl, hp, rfl, p, cs, fs, rfl, hB, rfl, _, rfl, ite2 (fun e => ?_) (fun e => ?_)⟩
    · have hne : rs.length ≠ cs.length := fun z => by
        rw [hxl, z, decide_eq_true rfl] at e
        cases e
      exact ⟨_, rfl, rfl, (show (1 : Nat) ≤ 1000 by decide), fun dd H2 h1 h2 h3 => q0 hne dd H2 (same_ref h1 h2) h3⟩
    have hle : rs.length = cs.length := by
      by_cases z : ((xs.length : Nat) : Int) = ((cs.length : Nat) : Int)
      · omega
      · exfalso
        apply e
        rw [decide_eq_false (fun y => z (V.int.inj y))]
        rfl
    obtain ⟨q1, q2⟩ := q hle
    refine ⟨.ref a, rfl, a, rfl, for_enumA (K := K) ha (Same.refl H) (fun i σ H' => ∃ (y2 y3 y4 : Option V), σ = [some (.ref p), some (.ref a), y2, y3, y4] ∧ Same H H' ∧ ∀ j s, j < i → rs[j]? = some s → rowB cs j s = true) ⟨none, none, none, rfl, Same.refl H, fun j s hj => absurd hj (Nat.not_lt_zero j)⟩ (fun i σ H' _ hP => ?_) (fun i y σ H' T hy hP nT => ?_) (fun σ H' hP => ?_)⟩
    · obtain ⟨_, _, _, _, sm, _⟩ := hP
      exact sm
    · obtain ⟨y2, y3, y4, rfl, sm, hall⟩ := hP
      have u1 := same_upd (o := .tup [.int (i : Nat), y]) nT
      obtain ⟨r, hr0, ra, la, ta, rfl, hra, hla, hta⟩ := hA.get hy
      have s1 := sm.trans u1
      have hi : i < cs.length := by rw [← hle]; exact (List.getElem?_eq_some_iff.mp hr0).1
      have hm := hrl r (List.mem_of_getElem? hr0)
      refine ⟨T, _, rfl, SqT.of upd_same, rfl, _, _, rfl, _, _, rfl, ra, _, rfl, Same.tup s1 hra, rfl, _, _, rfl, _, _, rfl, rfl, rfl, ?_⟩
      refine ⟨.ref p, rfl, .int i, rfl, .ref la, rfl, .ref ta, rfl, p, la, ta, cs, fs, i, r, rfl, hB.same s1, hi, hla.seq s1, hta.seq s1, hm.1, hm.2, fun hok H2 s2 => ?_, fun hb => (q1 i r hr0 hb hall).later s1⟩
      refine ⟨_, _, _, rfl, s1.trans s2, fun j s hj e2 => ?_⟩
      by_cases z : j < i
      · exact hall j s z e2
      · obtain rfl : j = i := by omega
        rw [hr0] at e2
        obtain rfl := Option.some.inj e2
        exact hok
    · obtain ⟨y2, y3, y4, rfl, sm, hall⟩ := hP
      rw [hxl] at hall
      have q3 := q2 fun i r hr0 => hall i r (List.getElem?_eq_some_iff.mp hr0).1 hr0
      refine ⟨.ref a, rfl, a, rfl, lc_seq (K := K) (ha.seq sm) (Same.refl H') (fun D j H2 => Same H' H2 ∧ ∃ zs ls, H2 D = some (.lst zs) ∧ All2 (fun v r => ∃ a, v = .ref a ∧ RowAt K H2 a r.1 r.2) zs ls ∧ LRs rs ls j) (fun D nD => ⟨same_upd nD, [], [], upd_same, True.intro, rfl, fun j r hj => absurd hj (Nat.not_lt_zero j)⟩) (fun D nD j H2 _ hP => hP.1) (fun D nD j x H2 hx hP => ?_) (fun D nD H1 hP => ?_)⟩
      · obtain ⟨sm2, zs, ls, hD, hz, hL⟩ := hP
        obtain ⟨r, hr0, ra, la, ta, rfl, hra, hla, hta⟩ := hA.get hx
        have s2 := sm.trans sm2
        have hm := hrl r (List.mem_of_getElem? hr0)
        have hjl : j < rs.length := (List.getElem?_eq_some_iff.mp hr0).1
        refine ⟨ra, _, rfl, Same.tup s2 hra, rfl, _, _, rfl, _, _, rfl, rfl, rfl, yesT ⟨.ref la, rfl, .ref ta, rfl, la, ta, r.1, r.2, rfl, hla.seq s2, hta.seq s2, hm.1, hm.2, fun H3 pr c d s3 hlr hrow => ?_⟩⟩
        have hD3 := s3 _ _ hD
        have hzl := hz.len
        refine ⟨_, hD3, small1000 (by rw [hzl, hL.1]; omega), Same.offUpd (sm2.trans s3) nD, zs ++ [.ref pr], ls ++ [(c, d)], upd_same, ?_, hL.snoc hr0 hlr⟩
        exact All2.snoc ⟨pr, rfl, hrow.ts (TS.upd hD3)⟩ (hz.mono fun v r ⟨a, e1, e2⟩ => ⟨a, e1, (e2.same s3).ts (TS.upd hD3)⟩)
      · obtain ⟨sm2, zs, ls, hD, hz, hL⟩ := hP
        refine ⟨D, zs, rfl, .inl (SqL.of hD), fun z H3 s3 hz3 => ?_⟩
        exact q3 H3 z ls ((sm.trans sm2).trans s3) ⟨zs, hz3, hz.mono fun v r ⟨a, e1, e2⟩ => ⟨a, e1, e2.same s3⟩⟩ (by rw [← hxl]; exact hL)
end
/-! ### check_book -/
abbrev exc0 (nm : Str) (C : Addr) (P : Program) (w : World) (K : PySem.W.Frag) (mg : Str → Option Value) (base : Heap) (k : Nat) : Prop := ExcK P w K mg base k nm C 0 (fun _ => [("word", .str nm)])
/-- a heap of a row of a book's figures -/
structure HpOf (K : PySem.W.Frag) (C CH : Addr) (H : Hp) (p bk : Addr) (cs : List Int) (fs : List (List Tri)) (row : List Int) : Prop where
  hp : HeapAt K CH H p bk (tiersM fs row)
  bk : BookAt K C H bk cs fs
  good : ∀ f ∈ fs, GoodF cs f
  len : cs.length ≤ 100
  inn : ∀ x ∈ row, InF fs x
theorem HpOf.same {K : PySem.W.Frag} {C CH : Addr} {H H' : Hp} {p bk : Addr} {cs : List Int} {fs : List (List Tri)} {row : List Int} (h : HpOf K C CH H p bk cs fs row) (e : Same H H') : HpOf K C CH H' p bk cs fs row :=
  ⟨h.hp.same e, h.bk.same e, h.good, h.len, h.inn⟩
abbrev sHChk : Stmt := inClass (topS 55) 16
theorem scHChk : FnScope nBEq ["self", "other"] (defScope sHChk) := ⟨rfl, rfl, rfl, by decide +kernel, rfl, by decide +kernel, by decide +kernel⟩
def spHChk (K : PySem.W.Frag) (C CH CO : Addr) : Sp := fun vs H Q E => ∃ (p q bk bk' : Addr) (cs cs' : List Int) (fs fs' : List (List Tri)) (ts ts' : List (List Int)), vs = [.ref p, .ref q] ∧ HeapAt K CH H p bk ts ∧ HeapAt K CH H q bk' ts' ∧ BookAt K C H bk cs fs ∧ BookAt K C H bk' cs' fs' ∧
  (cs = cs' ∧ fs = fs' → Q .non H) ∧ (¬ (cs = cs' ∧ fs = fs') → refuseN 7 CO [] H E)
section
variable {P : Program} {w : World} {K : PySem.W.Frag} {mg : Str → Option Value} {base : Heap}
theorem ok_hchk {f C CH CO fE fB : Addr} {fd fdE fdB : FuncData} {k : Nat} (F : Fun K "check_book" "Heap.check_book" sHChk f fd) (T : HpTxt K mg CH) (TB : BkTxt K mg C) (TBE : ClsE K C fE) (R : exc0 "OtherBook" CO P w K mg base k)
    (bE : Binds K fdE ["self", "other"] []) (GE : FnOk P w K mg base CX0 k fE fdE ["self", "other"] (spBEq K C)) (bB : Binds K fdB ["self"] []) (mB : Meth K CH "book" fB) (GB : FnOk P w K mg base CX0 (k + 1) fB fdB ["self"] (spHBook K CH)) :
    FnOk P w K mg base (L2.CX P w) (k + 2) f fd ["self", "other"] (spHChk K C CH CO) := by
  refine F.okX scHChk (fun vs H Q E h => ?_) (fun cdv A outer s H vs Q E hr h => ?_)
  · obtain ⟨p, q, bk, bk', cs, cs', fs, fs', ts, ts', rfl, _⟩ := h
    rfl
  · obtain ⟨p, q, bk, bk', cs, cs', fs, fs', ts, ts', rfl, ⟨dx, t, hp, ht⟩, hQ, hK, hK', q0, q1⟩ := h
    refine ⟨_, pss_one (ps_if (pt_cmpR (op_neOwn TBE.toEqTxt GE bE pass0 hr) (pe_fld (pv 0) rfl) (pe_meth0 (pv 1) T.cl mB GB hr bB .nil pass0) (nomark _)) (pss_one (ps_raise rfl (takes_of rfl rfl rfl rfl) (pmk_ref0 R hr (by rfl)))) pss_nil), ?_⟩
    obtain ⟨dx', t', hp', ht'⟩ := id hQ
    obtain ⟨e1, e2, e3, e4, hbk, _⟩ := id hK
    obtain ⟨e1', e2', e3', e4', hbk', _⟩ := id hK'
    refine ⟨.ref p, rfl, p, CH, dx, _, _, rfl, hp, T.cl, T.nO, hpF_owner bk t, .ref q, rfl, q, dx', _, rfl, hp', rfl, q, bk', ts', rfl, hQ, bk, _, _, _, rfl, hbk, TBE.ty TB.cl hbk', first_self, bk, .ref bk', cs, fs, rfl, hK, .inl ⟨bk', cs', fs', rfl, hK', _, rfl, _, rfl, ?_⟩⟩
    by_cases e : cs = cs' ∧ fs = fs'
    · rw [decide_eq_true e]
      exact iteF (q0 e)
    · rw [decide_eq_false e]
      exact iteT ⟨rfl, Nat.zero_le _, fun dd H2 h1 h2 h3 => q1 e dd H2 (same_ref h1 h2) h3⟩
end
/-! ### shape where the figure is there; on; columns -/
def spShpC (K : PySem.W.Frag) (C : Addr) : Sp := fun vs H Q _ => ∃ (p : Addr) (cs : List Int) (fs : List (List Tri)) (z : Int), vs = [.ref p, .int z] ∧ BookAt K C H p cs fs ∧ InF fs z ∧ ∀ v, FigT K H v (fs.getD z.toNat []) → Q v H
abbrev sHOn : Stmt := inClass (topS 55) 6
abbrev nHOn : List Str := ["self", "pad", "figure"]
theorem scHOn : FnScope nHOn ["self", "pad"] (defScope sHOn) := ⟨rfl, rfl, rfl, by decide +kernel, rfl, by decide +kernel, by decide +kernel⟩
def spHOn (K : PySem.W.Frag) (C CH CP : Addr) : Sp := fun vs H Q E => ∃ (p bk : Addr) (z : Int) (cs : List Int) (fs : List (List Tri)) (ts : List (List Int)), vs = [.ref p, .int z] ∧ HeapAt K CH H p bk ts ∧ BookAt K C H bk cs fs ∧ (∀ f ∈ fs, GoodF cs f) ∧ cs.length ≤ 100 ∧ (∀ x ∈ ts.flatten, InF fs x) ∧ ts.flatten.length ≤ 1000 ∧
  (0 ≤ z ∧ z < (cs.length : Nat) → ∀ H' l, Same H H' → H l = none → H' l = some (.lst ((onPad (pdF fs) z ts.flatten).map V.int)) → Q (.ref l) H') ∧ (¬ (0 ≤ z ∧ z < (cs.length : Nat)) → refuseN 23 CP [z] H E)
def spHOnC (K : PySem.W.Frag) (C CH : Addr) : Sp := fun vs H Q _ => ∃ (p bk : Addr) (z : Int) (cs : List Int) (fs : List (List Tri)) (ts : List (List Int)), vs = [.ref p, .int z] ∧ HeapAt K CH H p bk ts ∧ BookAt K C H bk cs fs ∧ (∀ f ∈ fs, GoodF cs f) ∧ cs.length ≤ 100 ∧ (∀ x ∈ ts.flatten, InF fs x) ∧ ts.flatten.length ≤ 1000 ∧
  (0 ≤ z ∧ z < (cs.length : Nat)) ∧ ∀ H' l, Same H H' → H l = none → H' l = some (.lst ((onPad (pdF fs) z ts.flatten).map V.int)) → Q (.ref l) H'
theorem onPad_snoc {pd : Int → List Int} {p : Int} {r : List Int} {i : Nat} {x : Int} (h : r[i]? = some x) : onPad pd p (r.take (i + 1)) = onPad pd p (r.take i) ++ if p ∈ pd x then [x] else [] := by
  rw [take_snoc h, onPad_append]
  by_cases e : p ∈ pd x
  · rw [if_pos e, onPad_in e]
  · rw [if_neg e, onPad_out e]
theorem inV_mem (p : Int) (qs : List Int) : inV (.int p) (qs.map V.int) = decide (p ∈ qs) := by
  rw [inV_ints]
  by_cases h : p ∈ qs
  · rw [decide_eq_true h, List.any_eq_true]
    exact ⟨p, h, decide_eq_true rfl⟩
  · rw [decide_eq_false h, List.any_eq_false]
    intro x hx z
    exact h (by rw [← of_decide_eq_true z]; exact hx)
section
variable {P : Program} {w : World} {K : PySem.W.Frag} {mg : Str → Option Value} {base : Heap}
theorem shpC {fS C CN : Addr} {fdS : FuncData} {k : Nat} (G : FnOk P w K mg base (L2.CX P w) k fS fdS ["self", "at"] (spShpX K C CN)) : FnOk P w K mg base CX0 k fS fdS ["self", "at"] (spShpC K C) := calm G fun vs H Q E h => by
  obtain ⟨p, cs, fs, z, rfl, hK, hz, q⟩ := h
  refine ⟨p, cs, fs, z, rfl, hK, fun i e hi v hv => q v ?_, fun bad => absurd hz bad⟩
  rw [show z.toNat = i by omega]
  exact hv
theorem ok_hon {f C CH CP fP fR fS fM : Addr} {fd fdP fdR fdS fdM : FuncData} {k : Nat} (F : Fun K "on" "Heap.on" sHOn f fd) (T : HpTxt K mg CH) (TB : BkTxt K mg C) (R : exc1 23 "NoPad" "pad" CP P w K mg base k)
    (FP : Fun K "pads_of" "pads_of" sPadsOf fP fdP) (bP : Binds K fdP ["figure"] []) (gP : mg "pads_of" = some (.ref fP)) (GP : FnOk P w K mg base CX0 (k + 1) fP fdP ["figure"] (spPads K))
    (bR : Binds K fdR ["self"] []) (mR : Meth K CH "row" fR) (GR : FnOk P w K mg base CX0 (k + 1) fR fdR ["self"] (spHRow K CH))
    (bS : Binds K fdS ["self", "at"] []) (mS : Meth K C "shape" fS) (GS : FnOk P w K mg base CX0 (k + 1) fS fdS ["self", "at"] (spShpC K C))
    (bM : Binds K fdM ["self"] []) (mM : Meth K C "pads" fM) (GM : FnOk P w K mg base CX0 (k + 1) fM fdM ["self"] (spPadsM K C)) :
    FnOk P w K mg base (L2.CX P w) (k + 2) f fd ["self", "pad"] (spHOn K C CH CP) := by
  refine F.okX scHOn (fun vs H Q E h => ?_) (fun cdv A outer s H vs Q E hr h => ?_)
  · obtain ⟨p, bk, z, cs, fs, ts, rfl, _⟩ := h
    rfl
  · obtain ⟨p, bk, z, cs, fs, ts, rfl, hH, hK, hG, hc, hin, hl, q, q1⟩ := h
    refine ⟨_, pss_cons (ps_if (pt_not (pt_chain op_le op_lt pe_int (pv 1) (pe_meth0 (pe_fld (pv 0) rfl) TB.cl mM GM hr bM .nil pass0))) (pss_one (ps_raise rfl (takes_of rfl rfl rfl rfl) (pmk_ref R hr (by rfl) (pa_cons (pv 1) pa_nil)))) pss_nil)
      (pss_one (ps_ret (pe_lc (own := [("figure", 2)]) (g := gName 2) rfl scHOn.nd (pi_list (pe_meth0 (pv 0) T.cl mR GR hr bR .nil pass0))
        (blkOk_by (own := [("figure", 2)]) (N := nHOn) (sc := defScope sHOn) (by decide +kernel)) (fun _ _ _ _ _ => pg_name (i := 2) scHOn.nd rfl (.inl rfl))
        (fun _ _ _ _ _ => pts_one (pt_cmpR (r := rIn K false) op_in_seq (pv 1) (pe_call GP hr (by rfl) gP FP.kp bP .nil pass0 (pa_cons (pe_meth (ta := tFld K (tVar 0) "owner") (pe_fld (pv 0) rfl) TB.cl mS GS hr bS .nil pass0 (pa_cons (pv 2) pa_nil)) pa_nil)) (by rfl)))
        (fun _ _ _ _ _ => pv 2)))), ?_⟩
    obtain ⟨dx, t, hp, ht⟩ := id hH
    obtain ⟨dk, ak, bk2, xk, hbk, _⟩ := id hK
    have bad : ¬ (0 ≤ z ∧ z < (cs.length : Nat)) → ∀ σ : L2.St, σ[1]? = some (some (.int z)) → tRef CP 1 (fun ws => [("pad", ws.getD 0 .non), ("word", .str "NoPad")]) (tCons (tVar 1) tNil) σ H fun cls d H' => E cls d H' := fun e σ hσ =>
      ⟨.int z, hσ, rfl, (show (1 : Nat) ≤ 1000 by decide), fun dd H2 h1 h2 h3 => q1 e dd H2 (same_ref h1 h2) h3⟩
    refine ⟨.int z, rfl, 0, z, rfl, rfl, _, rfl, ?_⟩
    by_cases e0 : 0 ≤ z
    rotate_left
    · rw [decide_eq_false e0]
      exact iteF ⟨_, rfl, iteT (bad (fun y => e0 y.1) _ rfl)⟩
    rw [decide_eq_true e0]
    refine iteT ⟨.ref p, rfl, p, CH, dx, _, _, rfl, hp, T.cl, T.nO, hpF_owner bk t, bk, dk, _, rfl, hbk, rfl, bk, cs, fs, rfl, hK, z, _, rfl, rfl, _, rfl, ?_⟩
    by_cases e1 : z < ((cs.length : Nat) : Int)
    rotate_left
    · rw [decide_eq_false e1]
      exact iteT (bad (fun y => e1 y.2) _ rfl)
    rw [decide_eq_true e1]
    refine iteF ⟨.ref p, rfl, p, dx, _, rfl, hp, rfl, p, bk, ts, rfl, hH, hl, fun H1 l1 s1 n1 h1 => ?_⟩
    refine ⟨l1, rfl, ⟨_, SqL.of h1⟩, fun D nD => ?_⟩
    refine lc_list (K := K) (a := l1) (xs := ts.flatten.map V.int) (fun i H' => Same H1 H' ∧ H' D = some (.lst ((onPad (pdF fs) z (ts.flatten.take i)).map V.int))) ⟨same_upd nD, upd_same⟩ (fun i H' _ hP => hP.1.seq (SqL.of h1)) (fun i x H' hx hP => ?_) (fun H2 hP => ?_)
    · obtain ⟨sm, hD⟩ := hP
      rw [List.getElem?_map] at hx
      cases hp2 : ts.flatten[i]? with
      | none => rw [hp2] at hx; cases hx
      | some fg =>
        rw [hp2] at hx
        obtain rfl := Option.some.inj hx
        have hF := hin fg (List.mem_of_getElem? hp2)
        obtain ⟨F0, hF0, hGF, eF, epd⟩ := pdF_in hG hF
        have hFl := hGF.len
        have s2 := s1.trans sm
        refine ⟨rfl, .int z, rfl, .ref p, rfl, p, CH, dx, _, _, rfl, s2 _ _ hp, T.cl, T.nO, hpF_owner bk t, bk, dk, _, rfl, s2 _ _ hbk, rfl, .int fg, rfl, bk, cs, fs, fg, rfl, hK.same s2, hF, fun v hv => ?_⟩
        rw [eF] at hv
        refine ⟨v, F0, rfl, hv, by omega, fun H3 pA s3 npA hpA => ?_⟩
        rw [← epd] at hpA
        refine ⟨pA, _, rfl, .inl (SqL.of hpA), rfl, flat_ints _, _, rfl, ?_⟩
        show if inV (V.int z) ((pdF fs fg).map V.int) = true then _ else _
        rw [inV_mem]
        by_cases e : z ∈ pdF fs fg
        · rw [decide_eq_true e]
          have hD3 := s3 _ _ hD
          refine iteT ⟨.int fg, rfl, _, hD3, ?_, Same.offUpd (sm.trans s3) nD, ?_⟩
          · rw [List.length_map]
            refine small1000 (Nat.le_trans (List.length_filter_le ..) ?_)
            rw [List.length_take]
            omega
          · rw [upd_same, onPad_snoc hp2, if_pos e, List.map_append]
            rfl
        · rw [decide_eq_false e]
          refine iteF ⟨sm.trans s3, ?_⟩
          rw [onPad_snoc hp2, if_neg e, List.append_nil]
          exact s3 _ _ hD
    · obtain ⟨sm, hD⟩ := hP
      rw [List.length_map, List.take_length] at hD
      exact q ⟨e0, e1⟩ H2 D (s1.trans sm) (s1.free nD) hD
theorem honC {f C CH CP : Addr} {fd : FuncData} {k : Nat} (G : FnOk P w K mg base (L2.CX P w) k f fd ["self", "pad"] (spHOn K C CH CP)) : FnOk P w K mg base CX0 k f fd ["self", "pad"] (spHOnC K C CH) := calm G fun vs H Q E h => by
  obtain ⟨p, bk, z, cs, fs, ts, rfl, hH, hK, hG, hc, hin, hl, hz, q⟩ := h
  exact ⟨p, bk, z, cs, fs, ts, rfl, hH, hK, hG, hc, hin, hl, fun _ => q, fun bad => absurd hz bad⟩
end
abbrev sHCols : Stmt := inClass (topS 55) 7
abbrev nHCols : List Str := ["self", "pad"]
theorem scHCols : FnScope nHCols ["self"] (defScope sHCols) := ⟨rfl, rfl, rfl, by decide +kernel, rfl, by decide +kernel, by decide +kernel⟩
def colsM (fs : List (List Tri)) (n : Nat) (r : List Int) : List (List Int) := (List.range n).map fun (p : Nat) => onPad (pdF fs) (p : Int) r
def spHCols (K : PySem.W.Frag) (C CH : Addr) : Sp := fun vs H Q _ => ∃ (p bk : Addr) (cs : List Int) (fs : List (List Tri)) (ts : List (List Int)), vs = [.ref p] ∧ HeapAt K CH H p bk ts ∧ BookAt K C H bk cs fs ∧ (∀ f ∈ fs, GoodF cs f) ∧ cs.length ≤ 100 ∧ (∀ x ∈ ts.flatten, InF fs x) ∧ ts.flatten.length ≤ 1000 ∧
  ∀ H' l xs, Same H H' → H l = none → H' l = some (.lst xs) → All2 (fun v t => ∃ a, v = .ref a ∧ H a = none ∧ H' a = some (.lst (t.map V.int))) xs (colsM fs cs.length ts.flatten) → Q (.ref l) H'
section
variable {P : Program} {w : World} {K : PySem.W.Frag} {mg : Str → Option Value} {base : Heap}
theorem ok_hcols {f C CH fO fM : Addr} {fd fdO fdM : FuncData} {k : Nat} (F : Fun K "columns" "Heap.columns" sHCols f fd) (T : HpTxt K mg CH) (TB : BkTxt K mg C) (mr : mg "range" = none)
    (bO : Binds K fdO ["self", "pad"] []) (mO : Meth K CH "on" fO) (GO : FnOk P w K mg base CX0 k fO fdO ["self", "pad"] (spHOnC K C CH))
    (bM : Binds K fdM ["self"] []) (mM : Meth K C "pads" fM) (GM : FnOk P w K mg base CX0 k fM fdM ["self"] (spPadsM K C)) :
    FnOk P w K mg base CX0 (k + 1) f fd ["self"] (spHCols K C CH) := by
  refine F.ok scHCols (fun vs H Q E h => ?_) (fun cdv A outer s H vs Q E hr h => ?_)
  · obtain ⟨p, bk, cs, fs, ts, rfl, _⟩ := h
    rfl
  · obtain ⟨p, bk, cs, fs, ts, rfl, hH, hK, hG, hc, hin, hl, q⟩ := h
    refine ⟨_, pss_one (ps_ret (pe_lc (own := [("pad", 1)]) (g := gName 1) (tt := tYes) rfl scHCols.nd (pi_range1 (by rfl) mr (pa_cons (pe_meth0 (pe_fld (pv 0) rfl) TB.cl mM GM hr bM .nil pass0) pa_nil))
        (blkOk_by (own := [("pad", 1)]) (N := nHCols) (sc := defScope sHCols) (by decide +kernel)) (fun _ _ _ _ _ => pg_name (i := 1) scHCols.nd rfl (.inl rfl)) (fun _ _ _ _ _ => pts_nil)
        (fun _ _ _ _ _ => pe_meth (pv 0) T.cl mO GO hr bO .nil pass0 (pa_cons (pv 1) pa_nil)))), ?_⟩
    obtain ⟨dx, t, hp, ht⟩ := id hH
    obtain ⟨dk, ak, bk2, xk, hbk, _⟩ := id hK
    refine ⟨.ref p, rfl, p, CH, dx, _, _, rfl, hp, T.cl, T.nO, hpF_owner bk t, bk, dk, _, rfl, hbk, rfl, bk, cs, fs, rfl, hK, ((cs.length : Nat) : Int), rfl, by omega, by omega, fun D nD => ?_⟩
    refine lc_range (lo := 0) (n := ((cs.length : Nat) : Int).toNat) (fun i H' => Same H H' ∧ ∃ zs, H' D = some (.lst zs) ∧ All2 (fun v t => ∃ a, v = .ref a ∧ a ≠ D ∧ H a = none ∧ H' a = some (.lst (t.map V.int))) zs ((colsM fs cs.length ts.flatten).take i)) ⟨same_upd nD, [], upd_same, True.intro⟩ (fun i H' hi hP => ?_) (fun H' hP => ?_)
    · obtain ⟨sm, zs, hD, hz⟩ := hP
      rw [Int.toNat_natCast] at hi
      have hzl := hz.len
      rw [List.length_take] at hzl
      refine ⟨rfl, yesT ⟨.ref p, rfl, p, dx, _, rfl, sm _ _ hp, rfl, .int (0 + (i : Int)), rfl, p, bk, 0 + (i : Int), cs, fs, ts, rfl, hH.same sm, hK.same sm, hG, hc, hin, hl, ⟨by omega, by omega⟩, fun H2 l s2 nl hl2 => ?_⟩⟩
      have hD2 := s2 _ _ hD
      have hlD : l ≠ D := fun z => by rw [z, hD] at nl; cases nl
      refine ⟨_, hD2, small1000 (by omega), Same.offUpd (sm.trans s2) nD, zs ++ [.ref l], upd_same, ?_⟩
      have ec : (colsM fs cs.length ts.flatten)[i]? = some (onPad (pdF fs) (0 + (i : Int)) ts.flatten) := by
        unfold colsM
        rw [List.getElem?_map, List.getElem?_range hi, Int.zero_add]
        rfl
      rw [take_snoc ec]
      exact All2.snoc ⟨l, rfl, hlD, sm.free nl, by rw [upd_ne hlD]; exact hl2⟩ (hz.mono fun v t ⟨a, e1, e2, e3, e4⟩ => ⟨a, e1, e2, e3, by rw [upd_ne e2]; exact s2 _ _ e4⟩)
    · obtain ⟨sm, zs, hD, hz⟩ := hP
      rw [Int.toNat_natCast, List.take_of_length_le (by unfold colsM; rw [List.length_map, List.length_range]; exact Nat.le_refl _)] at hz
      exact q H' D zs sm nD hD (hz.mono fun v t ⟨a, e1, e2, e3, e4⟩ => ⟨a, e1, e3, e4⟩)
end
/-! ### where nothing is refused: Heap(..), plus; a new book -/
theorem BookAt.offL {K : PySem.W.Frag} {C : Addr} {H H' : Hp} {b q : Addr} {ys : List V} {cs : List Int} {fs : List (List Tri)} (h : BookAt K C H q cs fs) (e : Off b H H') (hb : H b = some (.lst ys)) (n : q ≠ b) : BookAt K C H' q cs fs := by
  obtain ⟨dx, a, b', xs, h1, h2, h3, h4⟩ := h
  have t : TS K H H' := TS.but e hb
  exact ⟨dx, a, b', xs, e _ _ n h1, t _ _ h2, t _ _ h3, h4.mono fun _ _ => FigT.ts t⟩
def spHInitC (K : PySem.W.Frag) (C CH : Addr) : Sp := fun vs H Q _ => ∃ (p dx bk rv : Addr) (cs : List Int) (fs : List (List Tri)) (row : List Int), vs = [.ref p, .ref bk, .ref rv] ∧ H p = some (.ins CH dx []) ∧ BookAt K C H bk cs fs ∧ (∀ f ∈ fs, GoodF cs f) ∧ cs.length ≤ 100 ∧ SqA K H rv (row.map V.int) ∧ row.length ≤ 1000 ∧
  (∀ x ∈ row, InF fs x) ∧ ∀ H', Off p H H' → HeapAt K CH H' p bk (tiersM fs row) → Q .non H'
theorem not_bad {fs : List (List Tri)} {row : List Int} (hin : ∀ x ∈ row, InF fs x) {z : Int} (hz : firstBad fs row = some z) : False := by
  have h1 := List.find?_some hz
  have h2 := hin z (List.mem_of_find?_eq_some hz)
  simp [h2] at h1
theorem hmakeC {K : PySem.W.Frag} {C CH : Addr} {H1 : Hp} {bk rv : Addr} {cs : List Int} {fs : List (List Tri)} {row : List Int} {Q : VK} {E : XK} (hK : BookAt K C H1 bk cs fs) (hG : ∀ f ∈ fs, GoodF cs f) (hc : cs.length ≤ 100) (hr : SqA K H1 rv (row.map V.int)) (hl : row.length ≤ 1000) (hin : ∀ x ∈ row, InF fs x)
    {x dx : Addr} (nx : H1 x = none) (ndx : H1 dx = none) (nxd : dx ≠ x) (q : ∀ H', Same H1 H' → HpOf K C CH H' x bk cs fs row → Q .non H') : spHInitC K C CH [.ref x, .ref bk, .ref rv] (upd (upd H1 dx (.own x)) x (.ins CH dx [])) Q E := by
  have v1 := same_upd (o := .own x) ndx
  have nx1 : (upd H1 dx (.own x)) x = none := by
    rw [upd_ne nxd.symm]
    exact nx
  have v2 := same_upd (o := .ins CH dx []) nx1
  have v12 := v1.trans v2
  refine ⟨x, dx, bk, rv, cs, fs, row, rfl, upd_same, hK.same v12, hG, hc, same_any v12 hr, hl, hin, fun H' off hh => ?_⟩
  have s14 : Same H1 H' := fun bb oo ee => off bb oo (ne_of_none ee nx) (v12 _ _ ee)
  exact q H' s14 ⟨hh, hK.same s14, hG, hc, hin⟩
theorem bmake {K : PySem.W.Frag} {C : Addr} {H1 : Hp} {p d : Addr} {cs : List Int} {xs : List V} {fs : List (List Tri)} {Q : VK} {E : XK} (hp : SqL K H1 p (cs.map V.int)) (hd : SqL K H1 d xs) (hA : All2 (FigT K H1) xs fs) (hC : GoodC cs) (hG : GoodB cs fs) (hl : fs.length ≤ 12)
    {x dx : Addr} (nx : H1 x = none) (ndx : H1 dx = none) (nxd : dx ≠ x) (q : ∀ H', Same H1 H' → BookAt K C H' x cs fs → Q .non H') : spInit K C [.ref x, .ref p, .ref d] (upd (upd H1 dx (.own x)) x (.ins C dx [])) Q E := by
  have v1 := same_upd (o := .own x) ndx
  have nx1 : (upd H1 dx (.own x)) x = none := by
    rw [upd_ne nxd.symm]
    exact nx
  have v2 := same_upd (o := .ins C dx []) nx1
  have v12 := v1.trans v2
  refine ⟨x, dx, p, d, cs, xs, fs, rfl, upd_same, v12.seq hp, v12.seq hd, hA.mono fun _ _ => FigT.ts (TS.of v12), hC, hG, hl, fun H' off hb => ?_⟩
  have s14 : Same H1 H' := fun bb oo ee => off bb oo (ne_of_none ee nx) (v12 _ _ ee)
  exact q H' s14 hb
section
variable {P : Program} {w : World} {K : PySem.W.Frag} {mg : Str → Option Value} {base : Heap}
theorem hinitC {f C CH CN : Addr} {fd : FuncData} {k : Nat} (G : FnOk P w K mg base (L2.CX P w) k f fd ["self", "book", "row"] (spHInit K C CH CN)) : FnOk P w K mg base CX0 k f fd ["self", "book", "row"] (spHInitC K C CH) := calm G fun vs H Q E h => by
  obtain ⟨p, dx, bk, rv, cs, fs, row, rfl, hp, hK, hG, hc, hr, hl, hin, q⟩ := h
  exact ⟨p, dx, bk, rv, cs, fs, row, rfl, hp, hK, hG, hc, hr, hl, fun _ => q, fun z hz => (not_bad hin hz).elim⟩
end
/-! ### Walks and Board: __init__, stand, rows, standing, stands -/
structure WkTxt (K : PySem.W.Frag) (mg : Str → Option Value) (C : Addr) : Prop where
  cl : Cls K C
  nO : NoAttr K C "owner"
  nG : NoAttr K C "ground"
  nGo : NoAttr K C "gone"
  mgC : mg "Walks" = some (.ref C)
structure BoTxt (K : PySem.W.Frag) (mg : Str → Option Value) (C : Addr) : Prop where
  cl : Cls K C
  nOw : NoAttr K C "owner"
  nPa : NoAttr K C "past"
  nFu : NoAttr K C "future"
  nMf : NoAttr K C "many_found"
  nPi : NoAttr K C "piles"
  nBe : NoAttr K C "beginning"
  nWh : NoAttr K C "is_whole"
  nWa : NoAttr K C "walks"
  mgC : mg "Board" = some (.ref C)
def wkF (o g d : V) : List (Str × V) := [("owner", o), ("ground", g), ("gone", d)]
def boF (o pa fu mf pi be wh wa : V) : List (Str × V) := [("owner", o), ("past", pa), ("future", fu), ("many_found", mf), ("piles", pi), ("beginning", be), ("is_whole", wh), ("walks", wa)]
theorem scWInit : FnScope ["self", "book", "rows"] ["self", "book", "rows"] (defScope sWInit) := ⟨rfl, rfl, rfl, by decide +kernel, rfl, by decide +kernel, by decide +kernel⟩
def spWInit (CW : Addr) : Sp := fun vs H Q _ => ∃ (p dx : Addr) (bk pl : V), vs = [.ref p, bk, pl] ∧ H p = some (.ins CW dx []) ∧ ∀ H' g, Off p H H' → H g = none → H' g = some (.dK []) → H' p = some (.ins CW dx (wkF bk pl (.ref g))) → Q .non H'
abbrev nBoSt : List Str := ["self", "piles", "beginning", "is_whole"]
theorem scBoSt : FnScope nBoSt nBoSt (defScope sBoSt) := ⟨rfl, rfl, rfl, by decide +kernel, rfl, by decide +kernel, by decide +kernel⟩
/-- what stand makes of a board's fields -/
def stF (fl : List (Str × V)) (pl be wh wa : V) : List (Str × V) := putF "walks" wa (putF "is_whole" wh (putF "beginning" be (putF "piles" pl fl)))
def spBoSt (CB CW : Addr) : Sp := fun vs H Q _ => ∃ (p dx : Addr) (bk pl be wh : V) (fl : List (Str × V)), vs = [.ref p, pl, be, wh] ∧ H p = some (.ins CB dx fl) ∧ fl.length ≤ 900 ∧ fl.lookup ("owner" : Str) = some bk ∧
  ∀ H' (x dw g : Addr), Off p H H' → H x = none → H' x = some (.ins CW dw (wkF bk pl (.ref g))) → H' g = some (.dK []) → H' p = some (.ins CB dx (stF fl pl be wh (.ref x))) → Q .non H'
section
variable {P : Program} {w : World} {K : PySem.W.Frag} {mg : Str → Option Value} {base : Heap}
theorem ok_winit {f CW : Addr} {fd : FuncData} {k : Nat} (F : Fun K "__init__" "Walks.__init__" sWInit f fd) (T : WkTxt K mg CW) : FnOk P w K mg base CX0 (k + 1) f fd ["self", "book", "rows"] (spWInit CW) := by
  refine F.ok scWInit (fun vs H Q E h => ?_) (fun cdv A outer s H vs Q E hr h => ?_)
  · obtain ⟨p, dx, bk, pl, rfl, _⟩ := h
    rfl
  · obtain ⟨p, dx, bk, pl, rfl, hp, q⟩ := h
    refine ⟨_, pss_cons (ps_fld (pv 0) (pv 1) rfl)
      (pss_cons (ps_fld (pv 0) (pv 2) rfl)
      (pss_one (ps_fld (pv 0) pe_dnewK rfl))), ?_⟩
    refine ⟨bk, rfl, .ref p, rfl, p, CW, dx, _, rfl, hp, T.cl, T.nO, (show 0 < 1000 by decide), ?_⟩
    have o1 : Off p H (upd H p (.ins CW dx (putF "owner" bk []))) := Off.upd
    refine ⟨pl, rfl, .ref p, rfl, p, CW, dx, _, rfl, upd_same, T.cl, T.nG, (show 1 < 1000 by decide), ?_⟩
    have o2 : Off p H (upd (upd H p (.ins CW dx (putF "owner" bk []))) p (.ins CW dx (putF "ground" pl (putF "owner" bk [])))) := o1.trans Off.upd
    have hp2 : (upd (upd H p (.ins CW dx (putF "owner" bk []))) p (.ins CW dx (putF "ground" pl (putF "owner" bk [])))) p = some (.ins CW dx (putF "ground" pl (putF "owner" bk []))) := upd_same
    generalize upd (upd H p (.ins CW dx (putF "owner" bk []))) p (.ins CW dx (putF "ground" pl (putF "owner" bk []))) = H2 at o2 hp2 ⊢
    intro g ng
    have u := same_upd (o := .dK []) ng
    have hgp : g ≠ p := fun z => by rw [z, hp2] at ng; cases ng
    have ngH : H g = none := by
      cases e : H g with
      | none => rfl
      | some o => rw [o2 g o hgp e] at ng; cases ng
    refine ⟨.ref p, rfl, p, CW, dx, _, rfl, u _ _ hp2, T.cl, T.nGo, (show 2 < 1000 by decide), ?_⟩
    exact q _ g ((o2.trans (Off.same u)).trans Off.upd) ngH (by rw [upd_ne hgp]; exact upd_same) upd_same
theorem ok_bost {f CB CW fW : Addr} {fd fdW : FuncData} {k : Nat} (F : Fun K "stand" "Board.stand" sBoSt f fd) (T : BoTxt K mg CB) (TW : WkTxt K mg CW) (MW : Mk K CW fW) (GW : FnOk P w K mg base CX0 k fW fdW ["self", "book", "rows"] (spWInit CW)) (bW : Binds K fdW ["self", "book", "rows"] []) :
    FnOk P w K mg base CX0 (k + 2) f fd nBoSt (spBoSt CB CW) := by
  refine F.ok scBoSt (fun vs H Q E h => ?_) (fun cdv A outer s H vs Q E hr h => ?_)
  · obtain ⟨p, dx, bk, pl, be, wh, fl, rfl, _⟩ := h
    rfl
  · obtain ⟨p, dx, bk, pl, be, wh, fl, rfl, hp, hfl, hown, q⟩ := h
    refine ⟨_, pss_cons (ps_fld (pv 0) (pv 1) rfl)
      (pss_cons (ps_fld (pv 0) (pv 2) rfl)
      (pss_cons (ps_fld (pv 0) (pv 3) rfl)
      (pss_one (ps_fld (pv 0) (pe_make MW GW hr (by rfl) TW.mgC bW .nil pass0 (pa_cons (pe_fld (pv 0) rfl) (pa_cons (pv 1) pa_nil))) rfl)))), ?_⟩
    have l1 := length_putF "piles" pl fl
    have l2 := length_putF "beginning" be (putF "piles" pl fl)
    have l3 := length_putF "is_whole" wh (putF "beginning" be (putF "piles" pl fl))
    refine ⟨pl, rfl, .ref p, rfl, p, CB, dx, _, rfl, hp, T.cl, T.nPi, by omega, ?_⟩
    refine ⟨be, rfl, .ref p, rfl, p, CB, dx, _, rfl, upd_same, T.cl, T.nBe, by omega, ?_⟩
    refine ⟨wh, rfl, .ref p, rfl, p, CB, dx, _, rfl, upd_same, T.cl, T.nWh, by omega, ?_⟩
    have o3 : Off p H (upd (upd (upd H p (.ins CB dx (putF "piles" pl fl))) p (.ins CB dx (putF "beginning" be (putF "piles" pl fl)))) p (.ins CB dx (putF "is_whole" wh (putF "beginning" be (putF "piles" pl fl))))) := (Off.upd.trans Off.upd).trans Off.upd
    have hp3 : (upd (upd (upd H p (.ins CB dx (putF "piles" pl fl))) p (.ins CB dx (putF "beginning" be (putF "piles" pl fl)))) p (.ins CB dx (putF "is_whole" wh (putF "beginning" be (putF "piles" pl fl))))) p = some (.ins CB dx (putF "is_whole" wh (putF "beginning" be (putF "piles" pl fl)))) := upd_same
    generalize upd (upd (upd H p (.ins CB dx (putF "piles" pl fl))) p (.ins CB dx (putF "beginning" be (putF "piles" pl fl)))) p (.ins CB dx (putF "is_whole" wh (putF "beginning" be (putF "piles" pl fl)))) = H3 at o3 hp3 ⊢
    have hlk : (putF "is_whole" wh (putF "beginning" be (putF "piles" pl fl))).lookup ("owner" : Str) = some bk := by
      rw [lookup_putF, if_neg (by decide), lookup_putF, if_neg (by decide), lookup_putF, if_neg (by decide)]
      exact hown
    refine ⟨.ref p, rfl, p, CB, dx, _, bk, rfl, hp3, T.cl, T.nOw, hlk, pl, rfl, fun x dw nx ndw nxd => ?_⟩
    have v1 := same_upd (o := .own x) ndw
    have nx1 : (upd H3 dw (.own x)) x = none := by
      rw [upd_ne nxd.symm]
      exact nx
    have v12 := v1.trans (same_upd (o := .ins CW dw []) nx1)
    have hxp : x ≠ p := fun z => by rw [z, hp3] at nx; cases nx
    have nxH : H x = none := by
      cases e : H x with
      | none => rfl
      | some o => rw [o3 x o hxp e] at nx; cases nx
    refine ⟨x, dw, bk, pl, rfl, upd_same, fun H5 g o5 ng hg hx5 => ⟨rfl, ?_⟩⟩
    have s35 : Same H3 H5 := fun b o e => o5 b o (ne_of_none e nx) (v12 _ _ e)
    refine ⟨.ref p, rfl, p, CB, dx, _, rfl, s35 _ _ hp3, T.cl, T.nWa, by omega, ?_⟩
    have hgp : g ≠ p := fun z => by
      rw [z, s35 _ _ hp3] at hg
      cases hg
    exact q _ x dw g ((o3.trans (Off.same s35)).trans Off.upd) nxH (by rw [upd_ne hxp]; exact hx5) (by rw [upd_ne hgp]; exact hg) upd_same
end
/-! ### Board: __init__, rows, standing, stands -/
/-- a board with this book and these rows -/
def BoardAt (K : PySem.W.Frag) (C CB : Addr) (H : Hp) (p : Addr) (cs : List Int) (fs : List (List Tri)) (rs : List Row2) : Prop := ∃ (dx bk pl : Addr) (pa fu mf be wh wa : V), H p = some (.ins CB dx (boF (.ref bk) pa fu mf (.ref pl) be wh wa)) ∧ BookAt K C H bk cs fs ∧ RowsT K H pl rs
theorem BoardAt.same {K : PySem.W.Frag} {C CB : Addr} {H H' : Hp} {p : Addr} {cs : List Int} {fs : List (List Tri)} {rs : List Row2} (h : BoardAt K C CB H p cs fs rs) (s : Same H H') : BoardAt K C CB H' p cs fs rs := by
  obtain ⟨dx, bk, pl, pa, fu, mf, be, wh, wa, h1, h2, h3⟩ := h
  exact ⟨dx, bk, pl, pa, fu, mf, be, wh, wa, s _ _ h1, h2.same s, h3.ts (TS.of s)⟩
/-- all of a board: its book at bk, its list of past rows at pa, its rows, those of the steps back and of the steps again -/
def BoX (K : PySem.W.Frag) (C CB CH : Addr) (H : Hp) (p pa bk : Addr) (cs : List Int) (fs : List (List Tri)) (rs : List Row2) (ps qs : List (List Row2)) : Prop := ∃ (dx pl fu be : Addr) (mf wa : V) (wh : Bool) (xs ys : List V) (row : List Int),
  H p = some (.ins CB dx (boF (.ref bk) (.ref pa) (.ref fu) mf (.ref pl) (.ref be) (.bl wh) wa)) ∧ BookAt K C H bk cs fs ∧ RowsT K H pl rs ∧ H pa = some (.lst xs) ∧ All2 (fun v r => ∃ a, v = V.ref a ∧ RowsT K H a r) xs ps ∧ H fu = some (.lst ys) ∧ All2 (fun v r => ∃ a, v = V.ref a ∧ RowsT K H a r) ys qs ∧ HpOf K C CH H be bk cs fs row ∧ fu ≠ pa
theorem BoX.board {K : PySem.W.Frag} {C CB CH : Addr} {H : Hp} {p pa bk : Addr} {cs : List Int} {fs : List (List Tri)} {rs : List Row2} {ps qs : List (List Row2)} (h : BoX K C CB CH H p pa bk cs fs rs ps qs) : BoardAt K C CB H p cs fs rs := by
  obtain ⟨dx, pl, fu, be, mf, wa, wh, xs, ys, row, h1, h2, h3, _⟩ := h
  exact ⟨dx, bk, pl, _, _, _, _, _, _, h1, h2, h3⟩
theorem BoX.same {K : PySem.W.Frag} {C CB CH : Addr} {H H' : Hp} {p pa bk : Addr} {cs : List Int} {fs : List (List Tri)} {rs : List Row2} {ps qs : List (List Row2)} (h : BoX K C CB CH H p pa bk cs fs rs ps qs) (s : Same H H') : BoX K C CB CH H' p pa bk cs fs rs ps qs := by
  obtain ⟨dx, pl, fu, be, mf, wa, wh, xs, ys, row, h1, h2, h3, h4, h5, h6, h7, h8, h9⟩ := h
  exact ⟨dx, pl, fu, be, mf, wa, wh, xs, ys, row, s _ _ h1, h2.same s, h3.ts (TS.of s), s _ _ h4, h5.mono fun _ _ ⟨a, e, h⟩ => ⟨a, e, h.ts (TS.of s)⟩, s _ _ h6, h7.mono fun _ _ ⟨a, e, h⟩ => ⟨a, e, h.ts (TS.of s)⟩, h8.same s, h9⟩
theorem HeapAt.offI {K : PySem.W.Frag} {CH C : Addr} {H H' : Hp} {p x bk dx : Addr} {fl : List (Str × V)} {ts : List (List Int)} (h : HeapAt K CH H x bk ts) (hp : H p = some (.ins C dx fl)) (hl : fl.length ≠ 2) (o : Off p H H') : HeapAt K CH H' x bk ts := by
  obtain ⟨d2, t, h1, h2⟩ := h
  have hx : x ≠ p := fun z => by
    rw [z, hp] at h1
    injection h1 with h1
    injection h1 with _ _ e
    rw [e] at hl
    exact hl rfl
  exact ⟨d2, t, o _ _ hx h1, h2.ts (TS.ins o hp)⟩
/-- a refusal amid making the object at p -/
def refuseO (n : Nat) (C p : Addr) (ws : List Int) (H : Hp) (E : XK) : Prop := ∀ (d : Addr) (H' : Hp), Off p H H' → H' d = some (.xd (rFs n (ws.map V.int))) → E (.ref C) (some d) H'
abbrev nBoIn : List Str := ["self", "book", "rows"]
theorem scBoIn : FnScope nBoIn ["self", "book", "rows"] (defScope sBoIn) := ⟨rfl, rfl, rfl, by decide +kernel, rfl, by decide +kernel, by decide +kernel⟩
def spBoIn (K : PySem.W.Frag) (C CB CH CR : Addr) : Sp := fun vs H Q E => ∃ (p dx bk a : Addr) (cs : List Int) (fs : List (List Tri)) (xs : List V) (rs : List Row2), vs = [.ref p, .ref bk, .ref a] ∧ H p = some (.ins CB dx []) ∧ BookAt K C H bk cs fs ∧ (∀ f ∈ fs, GoodF cs f) ∧ cs.length ≤ 100 ∧ SqA K H a xs ∧ All2 (HandR K H) xs rs ∧ (∀ r ∈ rs, r.1.length ≤ 1000 ∧ r.2.length ≤ 1000) ∧ rs.length ≤ 100 ∧
  (rs.length ≠ cs.length → refuseO 8 CR p [-1] H E) ∧ (rs.length = cs.length → (∀ i r, rs[i]? = some r → rowB cs i r = false → (∀ j s, j < i → rs[j]? = some s → rowB cs j s = true) → refuseO 8 CR p [(i : Int)] H E) ∧
    ((∀ i r, rs[i]? = some r → rowB cs i r = true) → ∀ H' ls pa, Off p H H' → H pa = none → BoX K C CB CH H' p pa bk cs fs ls [] [] → LRs rs ls rs.length → Q .non H'))
theorem refuse_off {n : Nat} {C p : Addr} {ws : List Int} {H H' : Hp} {E : XK} (h : refuseO n C p ws H E) (o : Off p H H') : refuseN n C ws H' E := fun d H2 s hd => h d H2 (o.trans (Off.same s)) hd
theorem sqA_offI {K : PySem.W.Frag} {H H' : Hp} {p C dx b : Addr} {fl : List (Str × V)} {xs : List V} (q : SqA K H b xs) (e : Off p H H') (h : H p = some (.ins C dx fl)) : SqA K H' b xs := sqA_off e h q
theorem HandR.offI {K : PySem.W.Frag} {H H' : Hp} {p C dx : Addr} {fl : List (Str × V)} {v : V} {r : Row2} (q : HandR K H v r) (e : Off p H H') (h : H p = some (.ins C dx fl)) : HandR K H' v r := by
  obtain ⟨x, la, ta, e1, h1, h2, h3⟩ := q
  exact ⟨x, la, ta, e1, TS.ins e h _ _ h1, sqA_off e h h2, sqA_off e h h3⟩
theorem scBoRw : FnScope ["self"] ["self"] (defScope sBoRw) := ⟨rfl, rfl, rfl, by decide +kernel, rfl, by decide +kernel, by decide +kernel⟩
def spBoRw (K : PySem.W.Frag) (C CB : Addr) : Sp := fun vs H Q _ => ∃ (p : Addr) (cs : List Int) (fs : List (List Tri)) (rs : List Row2), vs = [.ref p] ∧ BoardAt K C CB H p cs fs rs ∧ ∀ H' d xs, Same H H' → H d = none → H' d = some (.lst xs) → All2 (fun v r => ∃ a, v = .ref a ∧ RowAt K H' a r.1 r.2) xs rs → Q (.ref d) H'
abbrev sBoSg : Stmt := inClass (topS 122) 21
theorem scBoSg : FnScope ["self"] ["self"] (defScope sBoSg) := ⟨rfl, rfl, rfl, by decide +kernel, rfl, by decide +kernel, by decide +kernel⟩
def spBoSg (K : PySem.W.Frag) (C CB : Addr) : Sp := fun vs H Q _ => ∃ (p : Addr) (cs : List Int) (fs : List (List Tri)) (rs : List Row2), vs = [.ref p] ∧ BoardAt K C CB H p cs fs rs ∧ (∀ f ∈ fs, OkR rs f) ∧ fs.length ≤ 100 ∧ rs.length ≤ 100 ∧
  ∀ H' q, Same H H' → H q = none → H' q = some (.lst ((nI (upM rs fs fs.length)).map V.int)) → Q (.ref q) H'
abbrev sBoSs : Stmt := inClass (topS 122) 22
theorem scBoSs : FnScope ["self", "figure"] ["self", "figure"] (defScope sBoSs) := ⟨rfl, rfl, rfl, by decide +kernel, rfl, by decide +kernel, by decide +kernel⟩
def spBoSs (K : PySem.W.Frag) (C CB CN : Addr) : Sp := fun vs H Q E => ∃ (p : Addr) (cs : List Int) (fs : List (List Tri)) (rs : List Row2) (z : Int), vs = [.ref p, .int z] ∧ BoardAt K C CB H p cs fs rs ∧ (∀ f ∈ fs, OkR rs f) ∧ fs.length ≤ 100 ∧ rs.length ≤ 100 ∧
  (0 ≤ z → z < (fs.length : Int) → ∀ H', Same H H' → Q (.bl (stM rs (fs.getD z.toNat []))) H') ∧ (¬ (0 ≤ z ∧ z < (fs.length : Int)) → refuseN 24 CN [z] H E)
section
variable {P : Program} {w : World} {K : PySem.W.Frag} {mg : Str → Option Value} {base : Heap}
theorem ok_boin {f CB CW C CH CR fL fH fSt tD : Addr} {fd fdL fdH fdSt : FuncData} {k : Nat} {dsH : List Value} {kws : List (Str × V)} (F : FunD K "__init__" "Board.__init__" (defArgs sBoIn) (defBody sBoIn) (defScope sBoIn) [] kws f fd) (T : BoTxt K mg CB) (TH : HpTxt K mg CH)
    (FL : Fun K "least_rows" "least_rows" sLrs fL fdL) (bL : Binds K fdL ["book", "rows"] []) (gL : mg "least_rows" = some (.ref fL)) (GL : FnOk P w K mg base (L2.CX P w) (k + 1) fL fdL ["book", "rows"] (spLrs K C CR))
    (MH : Mk K CH fH) (GH : FnOk P w K mg base CX0 k fH fdH ["self", "book", "row"] (spHInitC K C CH)) (bH : Binds K fdH ["self", "book", "row"] dsH) (vH : Vals [.ref tD] dsH) (tT : ∀ H, SqT K H tD [])
    (bSt : Binds K fdSt nBoSt []) (mSt : Meth K CB "stand" fSt) (GSt : FnOk P w K mg base CX0 (k + 1) fSt fdSt nBoSt (spBoSt CB CW)) :
    FnOk P w K mg base (L2.CX P w) (k + 2) f fd ["self", "book", "rows"] (spBoIn K C CB CH CR) := by
  refine F.ok (CX := L2.CX P w) scBoIn (fun vs H Q E h => ?_) (fun cdv A outer s H vs Q E hr h => ?_)
  · obtain ⟨p, dx, bk, a, cs, fs, xs, rs, rfl, _⟩ := h
    rfl
  · obtain ⟨p, dx, bk, a, cs, fs, xs, rs, rfl, hp, hB, hG, hc, ha, hA, hrl, hl, q0, q⟩ := h
    refine ⟨_, pss_cons (ps_fld (pv 0) (pv 1) rfl)
      (pss_cons (ps_fld (pv 0) (pe_lst pa_nil) rfl)
      (pss_cons (ps_fld (pv 0) (pe_lst pa_nil) rfl)
      (pss_cons (ps_fld (pv 0) pe_int rfl)
      (pss_one (ps_expr (pe_meth (pv 0) T.cl mSt GSt hr bSt .nil pass0 (pa_cons (pe_call GL hr (by rfl) gL FL.kp bL .nil (passes_call (takes_of rfl rfl rfl rfl) (fun _ _ _ _ h => h)) (pa_cons (pv 1) (pa_cons (pv 2) pa_nil))) (pa_cons (pe_make MH GH hr (by rfl) TH.mgC bH vH pass0 (pa_cons (pv 1) pa_nil)) (pa_cons pe_bl pa_nil))))))))), ?_⟩
    have hbp : bk ≠ p := fun z => by
      obtain ⟨d1, a1, b1, x1, h1, _⟩ := hB
      rw [z, hp] at h1
      cases h1
    refine ⟨.ref bk, rfl, .ref p, rfl, p, CB, dx, _, rfl, hp, T.cl, T.nOw, (show 0 < 1000 by decide), ?_⟩
    have o1 : Off p H (upd H p (.ins CB dx (putF "owner" (.ref bk) []))) := Off.upd
    have hp1 : (upd H p (.ins CB dx (putF "owner" (.ref bk) []))) p = some (.ins CB dx [("owner", .ref bk)]) := upd_same
    generalize upd H p (.ins CB dx (putF "owner" (.ref bk) [])) = H1 at o1 hp1 ⊢
    refine ⟨Nat.zero_le _, fun l1 n1 => ?_⟩
    have u1 := same_upd (o := .lst []) n1
    refine ⟨.ref p, rfl, p, CB, dx, _, rfl, u1 _ _ hp1, T.cl, T.nPa, (show 1 < 1000 by decide), ?_⟩
    have o2 : Off p H (upd (upd H1 l1 (.lst [])) p (.ins CB dx (putF "past" (.ref l1) [("owner", .ref bk)]))) := (o1.trans (Off.same u1)).trans Off.upd
    have hp2 : (upd (upd H1 l1 (.lst [])) p (.ins CB dx (putF "past" (.ref l1) [("owner", .ref bk)]))) p = some (.ins CB dx [("owner", .ref bk), ("past", .ref l1)]) := upd_same
    have nl1p : l1 ≠ p := fun z => by rw [z, hp1] at n1; cases n1
    have h2l1 : (upd (upd H1 l1 (.lst [])) p (.ins CB dx (putF "past" (.ref l1) [("owner", .ref bk)]))) l1 = some (.lst []) := by rw [upd_ne nl1p, upd_same]
    have l1H : H l1 = none := by
      cases e1 : H l1 with
      | none => rfl
      | some o =>
        rw [o1 l1 o nl1p e1] at n1
        cases n1
    generalize upd (upd H1 l1 (.lst [])) p (.ins CB dx (putF "past" (.ref l1) [("owner", .ref bk)])) = H2 at o2 hp2 h2l1 ⊢
    refine ⟨Nat.zero_le _, fun l2 n2 => ?_⟩
    have u2 := same_upd (o := .lst []) n2
    refine ⟨.ref p, rfl, p, CB, dx, _, rfl, u2 _ _ hp2, T.cl, T.nFu, (show 2 < 1000 by decide), ?_⟩
    have o3 : Off p H (upd (upd H2 l2 (.lst [])) p (.ins CB dx (putF "future" (.ref l2) [("owner", .ref bk), ("past", .ref l1)]))) := (o2.trans (Off.same u2)).trans Off.upd
    have hp3 : (upd (upd H2 l2 (.lst [])) p (.ins CB dx (putF "future" (.ref l2) [("owner", .ref bk), ("past", .ref l1)]))) p = some (.ins CB dx [("owner", .ref bk), ("past", .ref l1), ("future", .ref l2)]) := upd_same
    have nl2p : l2 ≠ p := fun z => by rw [z, hp2] at n2; cases n2
    have nl21 : l2 ≠ l1 := fun z => by rw [z, h2l1] at n2; cases n2
    have h3l1 : (upd (upd H2 l2 (.lst [])) p (.ins CB dx (putF "future" (.ref l2) [("owner", .ref bk), ("past", .ref l1)]))) l1 = some (.lst []) := by rw [upd_ne nl1p]; exact u2 _ _ h2l1
    have h3l2 : (upd (upd H2 l2 (.lst [])) p (.ins CB dx (putF "future" (.ref l2) [("owner", .ref bk), ("past", .ref l1)]))) l2 = some (.lst []) := by rw [upd_ne nl2p, upd_same]
    generalize upd (upd H2 l2 (.lst [])) p (.ins CB dx (putF "future" (.ref l2) [("owner", .ref bk), ("past", .ref l1)])) = H3 at o3 hp3 h3l1 h3l2 ⊢
    refine ⟨.ref p, rfl, p, CB, dx, _, rfl, hp3, T.cl, T.nMf, (show 3 < 1000 by decide), ?_⟩
    have o4 : Off p H (upd H3 p (.ins CB dx (putF "many_found" (.int 0) [("owner", .ref bk), ("past", .ref l1), ("future", .ref l2)]))) := o3.trans Off.upd
    have hp4 : (upd H3 p (.ins CB dx (putF "many_found" (.int 0) [("owner", .ref bk), ("past", .ref l1), ("future", .ref l2)]))) p = some (.ins CB dx [("owner", .ref bk), ("past", .ref l1), ("future", .ref l2), ("many_found", .int 0)]) := upd_same
    have h4l1 : (upd H3 p (.ins CB dx (putF "many_found" (.int 0) [("owner", .ref bk), ("past", .ref l1), ("future", .ref l2)]))) l1 = some (.lst []) := by rw [upd_ne nl1p]; exact h3l1
    have h4l2 : (upd H3 p (.ins CB dx (putF "many_found" (.int 0) [("owner", .ref bk), ("past", .ref l1), ("future", .ref l2)]))) l2 = some (.lst []) := by rw [upd_ne nl2p]; exact h3l2
    generalize upd H3 p (.ins CB dx (putF "many_found" (.int 0) [("owner", .ref bk), ("past", .ref l1), ("future", .ref l2)])) = H4 at o4 hp4 h4l1 h4l2 ⊢
    have hB4 := hB.off o4 hp hbp
    refine ⟨.ref p, rfl, p, dx, _, rfl, hp4, rfl, ?_⟩
    refine ⟨.ref bk, rfl, .ref a, rfl, bk, a, cs, fs, xs, rs, rfl, hB4, sqA_off o4 hp ha, hA.mono fun _ _ h => h.offI o4 hp, hrl, hl, fun e => refuse_off (q0 e) o4, fun e => ⟨fun i r e1 e2 e3 => refuse_off ((q e).1 i r e1 e2 e3) o4, fun hok H5 pl ls s5 hR hL => ?_⟩⟩
    refine ⟨.ref bk, rfl, fun x dxx nx ndx nxd => ?_⟩
    refine hmakeC (C := C) (cs := cs) (fs := fs) (row := []) (hB4.same s5) hG hc (.inr (tT _)) (Nat.zero_le _) (fun z hz => nomatch hz) nx ndx nxd (fun H6 s6 P6 => ⟨rfl, ?_⟩)
    have s46 := s5.trans s6
    refine ⟨p, dx, .ref bk, .ref pl, .ref x, .bl false, _, rfl, s46 _ _ hp4, (show 4 ≤ 900 by decide), rfl, fun H7 wk dw g o7 nw hw hg hp7 => ?_⟩
    have o17 : Off p H H7 := (o4.trans (Off.same s46)).trans o7
    have a7 : H7 l1 = some (.lst []) := o7 _ _ nl1p (s46 _ _ h4l1)
    have b7 : H7 l2 = some (.lst []) := o7 _ _ nl2p (s46 _ _ h4l2)
    have hx7 : HpOf K C CH H7 x bk cs fs [] := ⟨P6.hp.offI (s46 _ _ hp4) (show (4 : Nat) ≠ 2 by decide) o7, hB.off o17 hp hbp, hG, hc, P6.inn⟩
    exact (q e).2 hok H7 ls l1 o17 l1H ⟨dx, pl, l2, x, _, _, _, [], [], [], hp7, hB.off o17 hp hbp, (hR.ts (TS.of s6)).ts (TS.ins o7 (s46 _ _ hp4)), a7, True.intro, b7, True.intro, hx7, nl21⟩ hL
end
/-! ### Board.rows, standing, stands -/
theorem inV_nats (z : Int) (ns : List Nat) : inV (.int z) ((nI ns).map V.int) = decide (∃ n ∈ ns, (n : Int) = z) := by
  rw [inV_ints]
  unfold nI
  rw [List.any_map]
  apply Bool.eq_iff_iff.mpr
  rw [List.any_eq_true, decide_eq_true_iff]
  exact ⟨fun ⟨n, h1, h2⟩ => ⟨n, h1, of_decide_eq_true h2⟩, fun ⟨n, h1, h2⟩ => ⟨n, h1, decide_eq_true h2⟩⟩
theorem inV_up (rs : List Row2) (fs : List (List Tri)) (i : Nat) (hi : i < fs.length) : inV (.int (i : Nat)) ((nI (upM rs fs fs.length)).map V.int) = stM rs (fs.getD i []) := by
  rw [inV_nats]
  cases h : stM rs (fs.getD i []) with
  | true =>
    exact decide_eq_true ⟨i, List.mem_filter.mpr ⟨List.mem_range.mpr hi, h⟩, rfl⟩
  | false =>
    refine decide_eq_false fun ⟨n, h1, h2⟩ => ?_
    obtain rfl : n = i := by omega
    have h3 := (List.mem_filter.mp h1).2
    rw [h] at h3
    cases h3
section
variable {P : Program} {w : World} {K : PySem.W.Frag} {mg : Str → Option Value} {base : Heap}
theorem ok_borw {f C CB : Addr} {fd : FuncData} {k : Nat} (F : Fun K "rows" "Board.rows" sBoRw f fd) (T : BoTxt K mg CB) (mL : mg "list" = none) : FnOk P w K mg base CX0 (k + 1) f fd ["self"] (spBoRw K C CB) := by
  refine F.ok scBoRw (fun vs H Q E h => ?_) (fun cdv A outer s H vs Q E hr h => ?_)
  · obtain ⟨p, cs, fs, rs, rfl, _⟩ := h
    rfl
  · obtain ⟨p, cs, fs, rs, rfl, ⟨dx, bk, pl, pa, fu, mf, be, wh, wa, hp, hB, xs, hx, hA⟩, q⟩ := h
    refine ⟨_, pss_one (ps_ret (pe_callTy call_list_of (by rfl) mL (by decide +kernel) (pa_cons (pe_fld (pv 0) rfl) pa_nil))), ?_⟩
    refine ⟨.ref p, rfl, p, CB, dx, _, _, rfl, hp, T.cl, T.nPi, rfl, pl, xs, rfl, .inr hx, fun l nl => ?_⟩
    have u := same_upd (o := .lst xs) nl
    exact q _ l xs u nl upd_same (hA.mono fun v r ⟨a, e1, e2⟩ => ⟨a, e1, e2.same u⟩)
theorem ok_bosg {f fS C CB : Addr} {fd fdS : FuncData} {k : Nat} (F : Fun K "standing" "Board.standing" sBoSg f fd) (T : BoTxt K mg CB) (FS : Fun K "standing_on" "standing_on" sSon fS fdS) (bS : Binds K fdS ["book", "rows"] []) (gS : mg "standing_on" = some (.ref fS)) (GS : FnOk P w K mg base CX0 k fS fdS ["book", "rows"] (spSon K C)) :
    FnOk P w K mg base CX0 (k + 1) f fd ["self"] (spBoSg K C CB) := by
  refine F.ok scBoSg (fun vs H Q E h => ?_) (fun cdv A outer s H vs Q E hr h => ?_)
  · obtain ⟨p, cs, fs, rs, rfl, _⟩ := h
    rfl
  · obtain ⟨p, cs, fs, rs, rfl, ⟨dx, bk, pl, pa, fu, mf, be, wh, wa, hp, hB, hR⟩, hok, hfl, hrl, q⟩ := h
    refine ⟨_, pss_one (ps_ret (pe_call GS hr (by rfl) gS FS.kp bS .nil pass0 (pa_cons (pe_fld (pv 0) rfl) (pa_cons (pe_fld (pv 0) rfl) pa_nil)))), ?_⟩
    exact ⟨.ref p, rfl, p, CB, dx, _, _, rfl, hp, T.cl, T.nOw, rfl, .ref p, rfl, p, CB, dx, _, _, rfl, hp, T.cl, T.nPi, rfl, bk, pl, cs, fs, rs, rfl, hB, hR, hok, hfl, hrl, q⟩
theorem ok_boss {f fG fSh C CB CN : Addr} {fd fdG fdSh : FuncData} {k : Nat} (F : Fun K "stands" "Board.stands" sBoSs f fd) (T : BoTxt K mg CB) (TB : BkTxt K mg C) (bG : Binds K fdG ["self"] []) (mG : Meth K CB "standing" fG) (GG : FnOk P w K mg base CX0 k fG fdG ["self"] (spBoSg K C CB))
    (bSh : Binds K fdSh ["self", "at"] []) (mSh : Meth K C "shape" fSh) (GSh : FnOk P w K mg base (L2.CX P w) k fSh fdSh ["self", "at"] (spShpX K C CN)) : FnOk P w K mg base (L2.CX P w) (k + 1) f fd ["self", "figure"] (spBoSs K C CB CN) := by
  refine F.okX scBoSs (fun vs H Q E h => ?_) (fun cdv A outer s H vs Q E hr h => ?_)
  · obtain ⟨p, cs, fs, rs, z, rfl, _⟩ := h
    rfl
  · obtain ⟨p, cs, fs, rs, z, rfl, hBo, hok, hfl, hrl, q, q1⟩ := h
    obtain ⟨dx, bk, pl, pa, fu, mf, be, wh, wa, hp, hB, hR⟩ := id hBo
    obtain ⟨dx2, a0, b0, xs0, hp2, _⟩ := id hB
    refine ⟨_, pss_cons (ps_expr (pe_meth (pe_fld (pv 0) rfl) TB.cl mSh GSh hr bSh .nil (passes_call (takes_of rfl rfl rfl rfl) (fun _ _ _ _ h => h)) (pa_cons (pv 1) pa_nil)))
      (pss_one (ps_ret (pe_cmpR (r := rIn K false) op_in_seq (pv 1) (pe_meth0 (pv 0) T.cl mG GG hr bG .nil pass0) (by rfl)))), ?_⟩
    refine ⟨.ref p, rfl, p, CB, dx, _, _, rfl, hp, T.cl, T.nOw, rfl, bk, dx2, _, rfl, hp2, rfl, .int z, rfl, bk, cs, fs, z, rfl, hB, fun i ei hi v hv => ?_, fun e => ?_⟩
    · subst ei
      refine ⟨.int (i : Nat), rfl, .ref p, rfl, p, dx, _, rfl, hp, rfl, p, cs, fs, rs, rfl, hBo, hok, hfl, hrl, fun H1 d s1 nd hd => ?_⟩
      refine ⟨d, _, rfl, .inl (SqL.of hd), rfl, flat_ints _, ?_⟩
      have e := inV_up rs fs i hi
      have z := q (by omega) (by omega) H1 s1
      rw [Int.toNat_natCast] at z
      show Q (.bl (inV (.int (i : Nat)) _)) H1
      rw [e]
      exact z
    · exact q1 e
end
/-! ### an item of a list, by its place -/
section
variable {X : Cx}
theorem get_list : PGet X (rIxL X.K) := by
  intro pins s σ H x y v u Q I rx ry h
  obtain ⟨p, xs, i, z, rfl, rfl, hq, he, q⟩ := h
  cases rx
  obtain ⟨t, rfl⟩ := ry
  obtain ⟨its, r, pl, hz⟩ := I.list hq
  obtain ⟨j, h1, h2, h3, h4, h5⟩ := atI_get he
  obtain ⟨w, ew, rw'⟩ := r.get h2
  have hl := r.length
  have hn := line63
  have fin : EP X pins σ Q w s := ⟨z, H, I, rw', q⟩
  by_cases h0 : 0 ≤ i
  · have hj : i.toNat = j := by
      rw [seqIndex_of h0 h5] at h1
      exact Option.some.inj h1
    exact wpAny_getItem_list pl.isList h0 (by omega) (by rw [hj]; simpa using ew) fin
  · have hj : (i + (its.toArray.size : Int)).toNat = j := by
      rw [seqIndex_neg (by omega) h4] at h1
      rw [List.size_toArray, ← hl]
      exact Option.some.inj h1
    exact wpAny_getItem_list_neg pl.isList (by omega) (by rw [List.size_toArray] <;> omega) (by omega) (by rw [hj]; simpa using ew) fin
end
/-! ### how many notes are taken from each pad -/
def depAt (f : List Tri) (p : Int) : Int := ((f.filter fun t => decide (t.1 = p)).map (·.2.2)).sum
def tknAt (fs : List (List Tri)) (row : List Int) (p : Int) : Int := (row.map fun x => depAt (fs.getD x.toNat []) p).sum
def tknM (fs : List (List Tri)) (n : Nat) (row : List Int) : List Int := (List.range n).map fun (p : Nat) => tknAt fs row (p : Int)
theorem depAt_out {f : List Tri} {p : Int} (h : ¬ p ∈ f.map (·.1)) : depAt f p = 0 := by
  unfold depAt
  rw [List.filter_eq_nil_iff.mpr fun t ht => by
    simp only [decide_eq_true_eq]
    exact fun e => h (List.mem_map.mpr ⟨t, ht, e⟩)]
  rfl
theorem depAt_snoc (f : List Tri) (t : Tri) (p : Int) : depAt (f ++ [t]) p = depAt f p + if t.1 = p then t.2.2 else 0 := by
  unfold depAt
  rw [List.filter_append, List.map_append, List.sum_append]
  by_cases e : t.1 = p
  · rw [if_pos e, List.filter_cons_of_pos (by simpa using e)]
    simp
  · rw [if_neg e, List.filter_cons_of_neg (by simpa using e)]
    simp
theorem tkn_on (fs : List (List Tri)) (p : Int) : ∀ row : List Int, tknAt fs row p = tknAt fs (onPad (pdF fs) p row) p
  | [] => rfl
  | x :: row => by
    have ih := tkn_on fs p row
    by_cases e : p ∈ pdF fs x
    · rw [show onPad (pdF fs) p (x :: row) = x :: onPad (pdF fs) p row from List.filter_cons_of_pos (decide_eq_true e)]
      show depAt _ p + tknAt fs row p = depAt _ p + tknAt fs _ p
      rw [ih]
    · rw [show onPad (pdF fs) p (x :: row) = onPad (pdF fs) p row from List.filter_cons_of_neg (by simpa using e)]
      show depAt _ p + tknAt fs row p = _
      rw [depAt_out e, Int.zero_add, ih]
theorem tknM_tiers (fs : List (List Tri)) (n : Nat) (row : List Int) : tknM fs n (tiersM fs row).flatten = tknM fs n row := by
  unfold tknM
  refine List.map_congr_left fun p _ => ?_
  rw [tkn_on fs p (tiersM fs row).flatten, tiersM_on, ← tkn_on]
theorem tkn_snoc (fs : List (List Tri)) (row : List Int) (x p : Int) : tknAt fs (row ++ [x]) p = tknAt fs row p + depAt (fs.getD x.toNat []) p := by
  unfold tknAt
  rw [List.map_append, List.sum_append]
  simp
theorem zeros0 (fs : List (List Tri)) (n : Nat) : (List.replicate n [V.int 0]).flatten = (List.range n).map fun (p : Nat) => V.int (tknAt fs [] (p : Int)) := by
  rw [List.flatten_replicate_singleton, show (fun (p : Nat) => V.int (tknAt fs [] (p : Int))) = fun _ => V.int 0 from rfl, List.map_const', List.length_range]
abbrev sHTkn : Stmt := inClass (topS 55) 8
abbrev nHTkn : List Str := ["self", "many", "figure", "pad", "note", "depth"]
theorem scHTkn : FnScope nHTkn ["self"] (defScope sHTkn) := ⟨rfl, rfl, rfl, by decide +kernel, rfl, by decide +kernel, by decide +kernel⟩
def spHTkn (K : PySem.W.Frag) (C CH : Addr) : Sp := fun vs H Q _ => ∃ (p bk : Addr) (cs : List Int) (fs : List (List Tri)) (row : List Int), vs = [.ref p] ∧ HpOf K C CH H p bk cs fs row ∧ row.length ≤ 1000 ∧ ∀ H' t, Same H H' → SqT K H' t ((tknM fs cs.length row).map V.int) → Q (.ref t) H'
section
variable {P : Program} {w : World} {K : PySem.W.Frag} {mg : Str → Option Value} {base : Heap}
theorem ok_htkn {f C CH fR fS fM : Addr} {fd fdR fdS fdM : FuncData} {k : Nat} (F : Fun K "taken" "Heap.taken" sHTkn f fd) (T : HpTxt K mg CH) (TB : BkTxt K mg C) (mt : mg "tuple" = none)
    (bR : Binds K fdR ["self"] []) (mR : Meth K CH "row" fR) (GR : FnOk P w K mg base CX0 k fR fdR ["self"] (spHRow K CH))
    (bS : Binds K fdS ["self", "at"] []) (mS : Meth K C "shape" fS) (GS : FnOk P w K mg base CX0 k fS fdS ["self", "at"] (spShpC K C))
    (bM : Binds K fdM ["self"] []) (mM : Meth K C "pads" fM) (GM : FnOk P w K mg base CX0 k fM fdM ["self"] (spPadsM K C)) :
    FnOk P w K mg base CX0 (k + 1) f fd ["self"] (spHTkn K C CH) := by
  refine F.ok scHTkn (fun vs H Q E h => ?_) (fun cdv A outer s H vs Q E hr h => ?_)
  · obtain ⟨p, bk, cs, fs, row, rfl, _⟩ := h
    rfl
  · obtain ⟨p, bk, cs, fs, row, rfl, hP, hl, q⟩ := h
    refine ⟨_, pss_cons (ps_set (i := 1) scHTkn.nd rfl (.inl rfl) (pe_op op_rep (pe_lst (pa_cons pe_int pa_nil)) (pe_meth0 (pe_fld (pv 0) rfl) TB.cl mM GM hr bM .nil pass0)))
      (pss_cons (ps_for PassesOwn.never rfl (pi_list (pe_meth0 (pv 0) T.cl mR GR hr bR .nil pass0)) (pg_name (i := 2) scHTkn.nd rfl (.inl rfl)) (pss_one (ps_for PassesOwn.never rfl (pi_tup (pe_meth (pe_fld (pv 0) rfl) TB.cl mS GS hr bS .nil pass0 (pa_cons (pv 2) pa_nil))) (pg_tup (by rfl) (pgs_cons (pg_name (i := 3) scHTkn.nd rfl (.inl rfl)) (pgs_cons (pg_name (i := 4) scHTkn.nd rfl (.inl rfl)) (pgs_cons (pg_name (i := 5) scHTkn.nd rfl (.inl rfl)) pgs_nil)))) (pss_one (ps_augS (pv 1) (pv 3) get_list (pv 5) ip_add set_list)))))
      (pss_one (ps_ret (pe_callTy call_tupS (by rfl) mt (by decide +kernel) (pa_cons (pv 1) pa_nil))))), ?_⟩
    obtain ⟨dx, t, hp, ht⟩ := id hP.hp
    obtain ⟨dk, ak, bk2, xk, hbk, _⟩ := id hP.bk
    have l2 := tiersM_len fs row
    have hc := hP.len
    refine ⟨(show (1 : Nat) ≤ sizeLine by decide), fun z0 nz0 => ?_⟩
    have u0 := same_upd (o := .lst [.int 0]) nz0
    refine ⟨.ref p, rfl, p, CH, dx, _, _, rfl, u0 _ _ hp, T.cl, T.nO, hpF_owner bk t, bk, dk, _, rfl, u0 _ _ hbk, rfl, bk, cs, fs, rfl, hP.bk.same u0, z0, ((cs.length : Nat) : Int), [.int 0], rfl, rfl, upd_same, by omega, by omega, ?_, fun mA nmA => ?_⟩
    · rw [Int.toNat_natCast]
      show 1 * cs.length ≤ sizeLine
      have := small1000 (n := cs.length) (by omega)
      omega
    rw [Int.toNat_natCast, zeros0 fs]
    have u1 := same_upd (o := .lst ((List.range cs.length).map fun (p : Nat) => V.int (tknAt fs [] (p : Int)))) nmA
    have s1 := u0.trans u1
    have nm0 : H mA = none := u0.free nmA
    have hm1 : (upd (upd H z0 (.lst [.int 0])) mA (.lst ((List.range cs.length).map fun (p : Nat) => V.int (tknAt fs [] (p : Int))))) mA = some (.lst ((List.range cs.length).map fun (p : Nat) => V.int (tknAt fs [] (p : Int)))) := upd_same
    generalize upd (upd H z0 (.lst [.int 0])) mA (.lst ((List.range cs.length).map fun (p : Nat) => V.int (tknAt fs [] (p : Int)))) = H1 at s1 hm1 ⊢
    clear u0 u1 nmA nz0
    refine ⟨.ref p, rfl, p, dx, _, rfl, s1 _ _ hp, rfl, p, bk, _, rfl, hP.hp.same s1, by omega, fun H2 l s2 nl hl2 => ?_⟩
    have hml : mA ≠ l := ne_of_none hm1 nl
    refine ⟨l, rfl, ⟨_, SqL.of hl2⟩, for_list (xs := (tiersM fs row).flatten.map V.int) (fun i σ H' => ∃ (y2 y3 y4 y5 : Option V), σ = [some (.ref p), some (.ref mA), y2, y3, y4, y5] ∧ Same H H' ∧ H' l = some (.lst ((tiersM fs row).flatten.map V.int)) ∧ H' mA = some (.lst ((List.range cs.length).map fun (p : Nat) => V.int (tknAt fs ((tiersM fs row).flatten.take i) (p : Int)))))
      ⟨_, _, _, _, rfl, s1.trans s2, hl2, s2 _ _ hm1⟩ (fun i σ H' _ ⟨_, _, _, _, _, _, h, _⟩ => SqL.of h) ?_ ?_⟩
    · rintro i x σ H' hx ⟨y2, y3, y4, y5, rfl, s3, h3, m3⟩
      rw [List.getElem?_map] at hx
      cases hpx : (tiersM fs row).flatten[i]? with
      | none => rw [hpx] at hx; cases hx
      | some fg =>
        rw [hpx] at hx
        obtain rfl := Option.some.inj hx
        have hF : InF fs fg := hP.inn fg (tiersM_mem (List.mem_of_getElem? hpx))
        obtain ⟨F0, hF0, hGF, eF, epd⟩ := pdF_in hP.good hF
        refine ⟨.ref p, rfl, p, CH, dx, _, _, rfl, s3 _ _ hp, T.cl, T.nO, hpF_owner bk t, bk, dk, _, rfl, s3 _ _ hbk, rfl, .int fg, rfl, bk, cs, fs, fg, rfl, hP.bk.same s3, hF, fun v hv => ?_⟩
        rw [eF] at hv
        obtain ⟨fa, fx, rfl, hfa, hfx⟩ := hv
        refine ⟨fa, rfl, ⟨_, hfa⟩, for_tup (xs := fx) (fun j σ H'' => ∃ (y3 y4 y5 : Option V), σ = [some (.ref p), some (.ref mA), some (.int fg), y3, y4, y5] ∧ Off mA H' H'' ∧ H'' mA = some (.lst ((List.range cs.length).map fun (p : Nat) => V.int (tknAt fs ((tiersM fs row).flatten.take i) (p : Int) + depAt (F0.take j) (p : Int)))))
          ⟨_, _, _, rfl, Off.same (fun _ _ h => h), by rw [m3]; congr 2; refine List.map_congr_left fun p' _ => ?_; rw [show depAt (F0.take 0) (p' : Int) = 0 from rfl, Int.add_zero]⟩ (fun j σ H'' _ ⟨_, _, _, _, off, _⟩ => TS.but off m3 _ _ hfa) ?_ ?_⟩
        · rintro j x σ H'' hx ⟨y3, y4, y5, rfl, off, hm⟩
          obtain ⟨⟨a, b, c⟩, et, tp, rfl, htp⟩ := hfx.get hx
          have hT3 := hGF.all _ (List.mem_of_getElem? et)
          have hp0 := hT3.p0
          have hp1 := hT3.p1
          dsimp only at hp0 hp1
          obtain ⟨n, rfl⟩ := Int.eq_ofNat_of_zero_le hp0
          have hn : n < cs.length := by omega
          refine ⟨tp, _, rfl, TS.but off m3 _ _ htp, rfl, _, _, rfl, _, _, rfl, _, _, rfl, rfl, ?_⟩
          refine ⟨.ref mA, rfl, .int (n : Nat), rfl, mA, _, _, _, rfl, rfl, SqL.of hm, atI_nat (j := n) (by rw [List.getElem?_map, List.getElem?_range hn]; rfl), .int c, rfl, _, _, rfl, rfl, mA, _, _, n, rfl, rfl, hm, ?_, ?_⟩
          · rw [List.length_map, List.length_range]
            unfold ixN
            rw [if_pos (by omega), if_pos (by omega), Int.toNat_natCast]
          · refine ⟨_, _, _, rfl, off.trans Off.upd, ?_⟩
            rw [upd_same, set_range]
            congr 2
            refine List.map_congr_left fun p' _ => ?_
            rw [take_snoc et, depAt_snoc]
            by_cases e : p' = n
            · subst e
              rw [if_pos rfl, if_pos rfl]
              exact congrArg V.int (Int.add_assoc _ _ _)
            · rw [if_neg e, if_neg (fun z => e (by have z : (n : Int) = (p' : Int) := z; omega)), Int.add_zero]
        · rintro σ H'' ⟨y3, y4, y5, rfl, off, hm⟩
          refine ⟨_, _, _, _, rfl, fun b o e => off b o (ne_of_none e nm0) (s3 _ _ e), off _ _ hml.symm h3, ?_⟩
          rw [hm, hfx.len, List.take_length, take_snoc hpx]
          congr 2
          refine List.map_congr_left fun p' _ => ?_
          rw [tkn_snoc, eF]
    · rintro σ H' ⟨y2, y3, y4, y5, rfl, s3, h3, m3⟩
      refine ⟨.ref mA, rfl, mA, _, rfl, .inl (SqL.of m3), fun l9 H9 s9 h9 => q _ _ (s3.trans s9) ?_⟩
      rw [List.length_map, List.take_length] at h9
      rw [← tknM_tiers]
      unfold tknM
      rw [List.map_map]
      exact h9
end
/-! ### note_at -/
abbrev sNote : Stmt := topS 75
abbrev nNote : List Str := ["row", "depth", "lead", "turn"]
theorem scNote : FnScope nNote ["row", "depth"] (defScope sNote) := ⟨rfl, rfl, rfl, by decide +kernel, rfl, by decide +kernel, by decide +kernel⟩
/-- the refusal NoNote with its number -/
def noNote (C : Addr) (z : Int) (H : Hp) (E : XK) : Prop := ∀ (d : Addr) (H' : Hp), Same H H' → H' d = some (.xd (rFs 25 [.int z])) → E (.ref C) (some d) H'
def spNote (K : PySem.W.Frag) (C : Addr) : Sp := fun vs H Q E => ∃ (r : Addr) (xs ts : List Int) (z : Int), vs = [.ref r, .int z] ∧ RowAt K H r xs ts ∧ (seenV xs ts z ≠ .non → Q (seenV xs ts z) H) ∧ (seenV xs ts z = .non → noNote C z H E)
section
variable {P : Program} {w : World} {K : PySem.W.Frag} {mg : Str → Option Value} {base : Heap}
theorem ok_note {f C : Addr} {fd : FuncData} {k : Nat} (F : Fun K "note_at" "note_at" sNote f fd) (ml : mg "len" = none) (R : ExcK P w K mg base k "NoNote" C 1 (fun ws => [("depth", ws.getD 0 .non), ("word", .str "NoNote")])) :
    FnOk P w K mg base (L2.CX P w) (k + 2) f fd ["row", "depth"] (spNote K C) := by
  refine F.okX scNote (fun vs H Q E h => ?_) (fun cdv A outer s H vs Q E hr h => ?_)
  · obtain ⟨r, xs, ts, z, rfl, _⟩ := h
    rfl
  · obtain ⟨r, xs, ts, z, rfl, ⟨la, ta, hR, hL, hT⟩, q, qe⟩ := h
    refine ⟨_, pss_cons (ps_asg (pv 0) (pg_tup rfl (pgs_cons (pg_name (i := 2) scNote.nd rfl (.inl rfl)) (pgs_cons (pg_name (i := 3) scNote.nd rfl (.inl rfl)) pgs_nil))))
      (pss_cons (ps_if (pt_chain op_le op_lt pe_int (pv 1) (pe_callB call_lenQ (by rfl) ml PySem.boot_len (pa_cons (pv 2) pa_nil))) (pss_one (ps_ret (pe_ix ix_tup (pv 2) (pv 1) (fun _ _ => rfl)))) pss_nil)
      (pss_cons (ps_if (PW.pt (pw_or (pt_cmpR op_lt (pv 1) pe_int (nomark _)) (pw_or1 (pt_cmpR op_eq (pe_callB call_lenQ (by rfl) ml PySem.boot_len (pa_cons (pv 3) pa_nil)) pe_int (nomark _)))))
        (pss_one (ps_raise rfl (takes_of rfl rfl rfl rfl) (pmk_ref R hr (by rfl) (pa_cons (pv 1) pa_nil)))) pss_nil)
      (pss_one (ps_ret (pe_ix ix_tup (pv 3) (pe_op op_mod (pe_op op_sub (pv 1) (pe_callB call_lenQ (by rfl) ml PySem.boot_len (pa_cons (pv 2) pa_nil))) (pe_callB call_lenQ (by rfl) ml PySem.boot_len (pa_cons (pv 3) pa_nil))) (fun _ _ => rfl)))))), ?_⟩
    have refuse : seenV xs ts z = .non → ∀ σ : L2.St, σ[1]? = some (some (.int z)) → tRef C 1 (fun ws => [("depth", ws.getD 0 .non), ("word", .str "NoNote")]) (tCons (tVar 1) tNil) σ H fun cls d H' => E cls d H' := fun e σ hσ =>
      ⟨.int z, hσ, rfl, (show (1 : Nat) ≤ 1000 by decide), fun d H2 h1 h2 h3 => qe e d H2 (same_ref h1 h2) h3⟩
    refine ⟨.ref r, rfl, r, _, rfl, hR, rfl, .ref la, _, rfl, .ref ta, _, rfl, rfl, ?_⟩
    refine ⟨.int z, rfl, 0, z, rfl, rfl, _, rfl, ite2 (fun e1 => ?_) (fun e1 => ?_)⟩
    · have a1 : 0 ≤ z := of_decide_eq_true e1
      refine ⟨.ref la, rfl, la, _, rfl, .inr hL, z, _, rfl, rfl, _, rfl, ite2 (fun e2 => ?_) (fun e2 => ?_)⟩
      · have a2 := of_decide_eq_true e2
        rw [List.length_map] at a2
        obtain ⟨n, rfl⟩ := Int.eq_ofNat_of_zero_le a1
        have hn : n < xs.length := by omega
        have es : seenV xs ts (n : Int) = .int xs[n] := by
          unfold seenV
          rw [if_pos ⟨by omega, by omega⟩, Int.toNat_natCast, List.getD_eq_getElem?_getD, List.getElem?_eq_getElem hn]
          rfl
        rw [es] at q
        exact ⟨.ref la, rfl, .int n, rfl, la, _, _, .int xs[n], rfl, rfl, hL, atI_nat (by rw [List.getElem?_map, List.getElem?_eq_getElem hn]; rfl), q (fun z => nomatch z)⟩
      · have a2 : ¬ z < (((xs.map V.int).length : Nat) : Int) := fun h => e2 (decide_eq_true h)
        rw [List.length_map] at a2
        refine ⟨.int z, rfl, _, _, rfl, rfl, _, rfl, ite2 (fun e3 => absurd (of_decide_eq_true e3) (show ¬ z < 0 by omega)) (fun e3 => ?_)⟩
        refine ⟨.ref ta, rfl, ta, _, rfl, .inr hT, rfl, _, rfl, ite2 (fun e4 => ?_) (fun e4 => ?_)⟩
        · have e5 : (((ts.map V.int).length : Nat) : Int) = 0 := V.int.inj (of_decide_eq_true e4)
          rw [List.length_map] at e5
          have ht : ts = [] := List.eq_nil_of_length_eq_zero (by omega)
          exact refuse (by unfold seenV; rw [if_neg (by omega), if_pos (.inr ht)]) _ rfl
        · have ht : ts ≠ [] := fun z => e4 (by rw [z]; rfl)
          have hl : 0 < ts.length := List.length_pos_iff.mpr ht
          have es : seenV xs ts z = .int (cyc ts (z - xs.length)) := by
            unfold seenV
            rw [if_neg (by omega), if_neg (by intro y; rcases y with y | y; exact absurd y (by omega); exact ht y)]
          rw [es] at q
          refine ⟨.ref ta, rfl, .int z, rfl, .ref la, rfl, la, _, rfl, .inr hL, _, _, rfl, rfl, .ref ta, rfl, ta, _, rfl, .inr hT, _, _, rfl, rfl, ?_, ta, _, _, .int (cyc ts (z - xs.length)), rfl, rfl, hT, ?_, q (fun z => nomatch z)⟩
          · show (0 : Int) < (((ts.map V.int).length : Nat) : Int)
            rw [List.length_map]
            omega
          · have a3 := cyc_get hl (z - xs.length)
            have a4 := Int.toNat_of_nonneg (Int.emod_nonneg (z - xs.length) (b := (ts.length : Int)) (by omega))
            show atI (ts.map V.int) ((z - (((xs.map V.int).length : Nat) : Int)) % (((ts.map V.int).length : Nat) : Int)) = _
            rw [List.length_map, List.length_map, ← a4]
            refine atI_nat ?_
            rw [List.getElem?_map, a3]
            rfl
    · have a1 : ¬ 0 ≤ z := fun h => e1 (decide_eq_true h)
      refine ⟨_, rfl, iteF ?_⟩
      refine ⟨.int z, rfl, _, _, rfl, rfl, _, rfl, ite2 (fun e3 => ?_) (fun e3 => absurd (decide_eq_true (show z < 0 by omega)) e3)⟩
      exact iteT (refuse (by unfold seenV; rw [if_neg (by omega), if_pos (.inl (by omega))]) _ rfl)
end
/-! ### behind -/
abbrev sBeh : Stmt := topS 76
abbrev nBeh : List Str := ["row", "many", "lead", "turn", "start"]
theorem scBeh : FnScope nBeh ["row", "many"] (defScope sBeh) := ⟨rfl, rfl, rfl, by decide +kernel, rfl, by decide +kernel, by decide +kernel⟩
def spBeh (K : PySem.W.Frag) (C : Addr) : Sp := fun vs H Q E => ∃ (r : Addr) (xs ts : List Int) (n : Nat), vs = [.ref r, .int (n : Nat)] ∧ RowAt K H r xs ts ∧ xs.length ≤ 1000 ∧ ts.length ≤ 1000 ∧
  (n ≤ xs.length → ∀ H' p c d, Same H H' → LR (xs.drop n) ts c d → RowAt K H' p c d → Q (.ref p) H') ∧
  (xs.length < n → ts ≠ [] → ∀ H' p c d, Same H H' → LR [] (rot ts ((xs.length : Int) - n)) c d → RowAt K H' p c d → Q (.ref p) H') ∧
  (xs.length < n → ts = [] → noNote C (xs.length : Nat) H E)
section
variable {P : Program} {w : World} {K : PySem.W.Frag} {mg : Str → Option Value} {base : Heap}
theorem ok_beh {f fR C : Addr} {fd fdR : FuncData} {k : Nat} (F : Fun K "behind" "behind" sBeh f fd) (ml : mg "len" = none) (mm : mg "max" = none) (FR : Fun K "least_row" "least_row" sLR fR fdR) (bR : Binds K fdR ["lead", "turn"] []) (gR : mg "least_row" = some (.ref fR))
    (GR : FnOk P w K mg base CX0 (k + 1) fR fdR ["lead", "turn"] (spLR K)) (R : ExcK P w K mg base k "NoNote" C 1 (fun ws => [("depth", ws.getD 0 .non), ("word", .str "NoNote")])) :
    FnOk P w K mg base (L2.CX P w) (k + 2) f fd ["row", "many"] (spBeh K C) := by
  refine F.okX scBeh (fun vs H Q E h => ?_) (fun cdv A outer s H vs Q E hr h => ?_)
  · obtain ⟨r, xs, ts, n, rfl, _⟩ := h
    rfl
  · obtain ⟨r, xs, ts, n, rfl, ⟨la, ta, hR, hL, hT⟩, l1, l2, q1, q2, q3⟩ := h
    refine ⟨_, pss_cons (ps_asg (pv 0) (pg_tup rfl (pgs_cons (pg_name (i := 2) scBeh.nd rfl (.inl rfl)) (pgs_cons (pg_name (i := 3) scBeh.nd rfl (.inl rfl)) pgs_nil))))
      (pss_cons (ps_if (pt_cmpR op_le (pv 1) (pe_callB call_lenQ (by rfl) ml PySem.boot_len (pa_cons (pv 2) pa_nil)) (nomark _))
        (pss_one (ps_ret (pe_call GR hr (by rfl) gR FR.kp bR .nil pass0 (pa_cons (pe_slice sl_tupS (pv 2) (po_some (pe_callB (call_max2 rfl) (by rfl) mm (by decide +kernel) (pa_cons (pv 1) (pa_cons pe_int pa_nil)))) po_none) (pa_cons (pv 3) pa_nil))))) pss_nil)
      (pss_cons (ps_if (pt_cmpR op_eq (pe_callB call_lenQ (by rfl) ml PySem.boot_len (pa_cons (pv 3) pa_nil)) pe_int (nomark _)) (pss_one (ps_raise rfl (takes_of rfl rfl rfl rfl) (pmk_ref R hr (by rfl) (pa_cons (pe_callB call_lenQ (by rfl) ml PySem.boot_len (pa_cons (pv 2) pa_nil)) pa_nil)))) pss_nil)
      (pss_cons (ps_set (i := 4) scBeh.nd rfl (.inl rfl) (pe_op op_mod (pe_op op_sub (pv 1) (pe_callB call_lenQ (by rfl) ml PySem.boot_len (pa_cons (pv 2) pa_nil))) (pe_callB call_lenQ (by rfl) ml PySem.boot_len (pa_cons (pv 3) pa_nil))))
      (pss_one (ps_ret (pe_call GR hr (by rfl) gR FR.kp bR .nil pass0 (pa_cons (pe_tup pa_nil) (pa_cons (pe_op op_catS (pe_slice sl_tupS (pv 3) (po_some (pv 4)) po_none) (pe_slice sl_tupS (pv 3) po_none (po_some (pv 4)))) pa_nil)))))))), ?_⟩
    refine ⟨.ref r, rfl, r, _, rfl, hR, rfl, .ref la, _, rfl, .ref ta, _, rfl, rfl, ?_⟩
    refine ⟨.int n, rfl, .ref la, rfl, la, _, rfl, .inr hL, _, _, rfl, rfl, _, rfl, ite2 (fun e => ?_) (fun e => ?_)⟩
    · have a1 : (n : Int) ≤ (((xs.map V.int).length : Nat) : Int) := of_decide_eq_true e
      rw [List.length_map] at a1
      refine ⟨.ref la, rfl, .int n, rfl, n, 0, rfl, ?_⟩
      rw [if_neg (by omega)]
      refine ⟨_, rfl, la, _, rfl, hL, fun p H1 s1 hp => ?_⟩
      rw [cutV_from, ← List.map_drop] at hp
      exact ⟨.ref ta, rfl, p, ta, xs.drop n, ts, rfl, .inr hp, .inr (Same.tup s1 hT), by rw [List.length_drop]; omega, l2, fun H' p' c d s2 hlr hrow => q1 (by omega) H' p' c d (s1.trans s2) hlr hrow⟩
    · have a1 : ¬ (n : Int) ≤ (((xs.map V.int).length : Nat) : Int) := fun z => e (decide_eq_true z)
      rw [List.length_map] at a1
      refine ⟨.ref ta, rfl, ta, _, rfl, .inr hT, rfl, _, rfl, ite2 (fun e2 => ?_) (fun e2 => ?_)⟩
      · have e3 : (((ts.map V.int).length : Nat) : Int) = 0 := V.int.inj (of_decide_eq_true e2)
        rw [List.length_map] at e3
        refine ⟨.ref la, rfl, la, _, rfl, .inr hL, rfl, (show (1 : Nat) ≤ 1000 by decide), fun d H2 h1 h2 h3 => q3 (by omega) (List.eq_nil_of_length_eq_zero (by omega)) d H2 (same_ref h1 h2) ?_⟩
        rw [List.length_map] at h3
        exact h3
      · have ht : ts ≠ [] := fun z => e2 (by rw [z]; rfl)
        have hl : 0 < ts.length := List.length_pos_iff.mpr ht
        refine ⟨.int n, rfl, .ref la, rfl, la, _, rfl, .inr hL, _, _, rfl, rfl, .ref ta, rfl, ta, _, rfl, .inr hT, _, _, rfl, rfl, ?_, ?_⟩
        · show (0 : Int) < (((ts.map V.int).length : Nat) : Int)
          rw [List.length_map]
          omega
        obtain ⟨st, e4, e5⟩ : ∃ st : Nat, ((n : Int) - (((xs.map V.int).length : Nat) : Int)) % (((ts.map V.int).length : Nat) : Int) = (st : Int) ∧ st = ((-((xs.length : Int) - n)) % (ts.length : Int)).toNat :=
          ⟨_, by rw [List.length_map, List.length_map, show -((xs.length : Int) - n) = (n : Int) - xs.length by omega]; exact (Int.toNat_of_nonneg (Int.emod_nonneg _ (by omega))).symm, rfl⟩
        refine ⟨Nat.zero_le _, fun p np => ?_⟩
        have s1 := same_upd (o := .tup []) np
        refine ⟨.ref ta, rfl, _, rfl, _, rfl, ta, _, rfl, Same.tup s1 hT, fun d1 H2 s2 hd1 => ?_⟩
        refine ⟨.ref ta, rfl, _, rfl, _, rfl, ta, _, rfl, Same.tup (s1.trans s2) hT, fun d2 H3 s3 hd2 => ?_⟩
        rw [e4, cutV_from, ← List.map_drop] at hd1
        rw [e4, cutV_to, ← List.map_take] at hd2
        refine ⟨d1, d2, _, _, rfl, rfl, Same.tup s3 hd1, hd2, ?_, fun d3 H4 s4 hd3 => ?_⟩
        · simp only [List.length_map, List.length_drop, List.length_take]
          exact Nat.le_of_lt (small1000 (by omega))
        rw [← List.map_append, e5, rot_cut hl] at hd3
        exact ⟨p, d3, [], rot ts ((xs.length : Int) - n), rfl, .inr (Same.tup ((s2.trans s3).trans s4) (SqT.of upd_same)), .inr hd3, Nat.zero_le _, by rw [rot_len]; exact l2, fun H' p' c d s5 hlr hrow => q2 (by omega) ht H' p' c d ((((s1.trans s2).trans s3).trans s4).trans s5) hlr hrow⟩
end
/-! ### tearboard.deeds: rows_behind -/
/-- a row behind so many notes, not yet least -/
def cutR (r : Row2) (n : Nat) : Row2 := if n ≤ r.1.length then (r.1.drop n, r.2) else ([], rot r.2 ((r.1.length : Int) - n))
/-- so many notes can be taken off it -/
def CutOk (r : Row2) (n : Nat) : Prop := r.2 ≠ [] ∨ n ≤ r.1.length
def spBehC (K : PySem.W.Frag) : Sp := fun vs H Q _ => ∃ (a : Addr) (r : Row2) (n : Nat), vs = [.ref a, .int (n : Nat)] ∧ RowAt K H a r.1 r.2 ∧ r.1.length ≤ 1000 ∧ r.2.length ≤ 1000 ∧ CutOk r n ∧ ∀ (H' : Hp) (p : Addr) (l : Row2), Same H H' → LR (cutR r n).1 (cutR r n).2 l.1 l.2 → RowAt K H' p l.1 l.2 → Q (.ref p) H'
theorem behC {P : Program} {w : World} {K : PySem.W.Frag} {mg : Str → Option Value} {base : Heap} {f C : Addr} {fd : FuncData} {k : Nat} (G : FnOk P w K mg base (L2.CX P w) k f fd ["row", "many"] (spBeh K C)) : FnOk P w K mg base CX0 k f fd ["row", "many"] (spBehC K) := calm G fun vs H Q E h => by
  obtain ⟨a, r, n, rfl, hr, l1, l2, ok, q⟩ := h
  refine ⟨a, r.1, r.2, n, rfl, hr, l1, l2, fun hn H' p c d s hlr hrow => ?_, fun hn hd H' p c d s hlr hrow => ?_, fun hn hd => ?_⟩
  · have e : cutR r n = (r.1.drop n, r.2) := if_pos hn
    exact q H' p (c, d) s (by rw [e]; exact hlr) hrow
  · have e : cutR r n = ([], rot r.2 ((r.1.length : Int) - n)) := if_neg (by omega)
    exact q H' p (c, d) s (by rw [e]; exact hlr) hrow
  · rcases ok with z | z
    · exact absurd hd z
    · omega
/-- all rows behind so many notes each -/
def cutZ (rs : List Row2) (ns : List Nat) : List Row2 := List.zipWith cutR rs ns
theorem cutZ_get {rs : List Row2} {ns : List Nat} {i : Nat} {r : Row2} {n : Nat} (hr : rs[i]? = some r) (hn : ns[i]? = some n) : (cutZ rs ns)[i]? = some (cutR r n) := by
  unfold cutZ
  rw [List.getElem?_zipWith, hr, hn]
theorem cutZ_len {rs : List Row2} {ns : List Nat} (h : ns.length = rs.length) : (cutZ rs ns).length = rs.length := by
  unfold cutZ
  rw [List.length_zipWith, h, Nat.min_self]
theorem walk_tups {K : PySem.W.Frag} {a b : Addr} {xs ys : List V} {n : Nat} (hx : xs.length = n) (hy : ys.length = n) : L2.Walk (RZ.ItzT K a b) n (fun H => SqT K H a xs ∧ SqT K H b ys) (YPair (fun i => xs[i]?) (fun i => ys[i]?)) :=
  { goes := fun i H hi q => ⟨xs, ys, xs[i], ys[i], q.1, q.2, List.getElem?_eq_getElem (by omega), List.getElem?_eq_getElem (by omega)⟩
    stops := fun H q => ⟨xs, ys, q.1, q.2, .inl (by omega)⟩
    yields := fun i H v H' _ q ⟨T, x, y, e1, e2, e3, e4, e5⟩ => ⟨T, x, y, e1, e2, e3, e4 xs q.1, e5 ys q.2⟩ }
theorem tknM_len (fs : List (List Tri)) (n : Nat) (row : List Int) : (tknM fs n row).length = n := by
  unfold tknM
  rw [List.length_map, List.length_range]
abbrev sRb : Stmt := topS 107
abbrev nRb : List Str := ["rows", "heap", "row", "many"]
theorem scRb : FnScope nRb ["rows", "heap"] (defScope sRb) := ⟨rfl, rfl, rfl, by decide +kernel, rfl, by decide +kernel, by decide +kernel⟩
/-- how many notes a row of figures takes from each pad -/
def tkN (fs : List (List Tri)) (n : Nat) (row : List Int) : List Nat := (tknM fs n row).map Int.toNat
def spRb (K : PySem.W.Frag) (C CH : Addr) : Sp := fun vs H Q _ => ∃ (a p bk : Addr) (cs : List Int) (fs : List (List Tri)) (rs : List Row2) (row : List Int), vs = [.ref a, .ref p] ∧ RowsT K H a rs ∧ HpOf K C CH H p bk cs fs row ∧ row.length ≤ 1000 ∧ cs.length = rs.length ∧ rs.length ≤ 100 ∧ (∀ r ∈ rs, r.1.length ≤ 1000 ∧ r.2.length ≤ 1000) ∧
  (∀ x ∈ tknM fs cs.length row, (0 : Int) ≤ x) ∧ (∀ (i : Nat) (r : Row2) (n : Nat), rs[i]? = some r → (tkN fs cs.length row)[i]? = some n → CutOk r n) ∧ ∀ H' q ls, Same H H' → RowsT K H' q ls → LRs (cutZ rs (tkN fs cs.length row)) ls rs.length → Q (.ref q) H'
section
variable {P : Program} {w : World} {K : PySem.W.Frag} {mg : Str → Option Value} {base : Heap}
theorem ok_rb {f fB fT C CH : Addr} {fd fdB fdT : FuncData} {k : Nat} (F : Fun K "rows_behind" "rows_behind" sRb f fd) (mt : mg "tuple" = none) (mz : mg "zip" = none) (T : HpTxt K mg CH)
    (FB : Fun K "behind" "behind" sBeh fB fdB) (bB : Binds K fdB ["row", "many"] []) (gB : mg "behind" = some (.ref fB)) (GB : FnOk P w K mg base CX0 k fB fdB ["row", "many"] (spBehC K))
    (bT : Binds K fdT ["self"] []) (mT : Meth K CH "taken" fT) (GT : FnOk P w K mg base CX0 k fT fdT ["self"] (spHTkn K C CH)) : FnOk P w K mg base CX0 (k + 1) f fd ["rows", "heap"] (spRb K C CH) := by
  refine F.ok scRb (fun vs H Q E h => ?_) (fun cdv A outer s H vs Q E hr h => ?_)
  · obtain ⟨a, p, bk, cs, fs, rs, row, rfl, _⟩ := h
    rfl
  · obtain ⟨a, p, bk, cs, fs, rs, row, rfl, ⟨xs, ha, hxs⟩, hp, hrl, hcr, hr100, hsm, hnn, hok, q⟩ := h
    refine ⟨_, pss_one (ps_ret (pe_callTy call_tupS (by rfl) mt (by decide +kernel) (pa_cons (pe_lc (own := [("row", 2), ("many", 3)]) (g := g2 K 2 3) (tt := tYes) rfl scRb.nd (RZ.pi_zipA (by rfl) mz (pa_cons (pv 0) (pa_cons (pe_meth0 (pv 1) T.cl mT GT hr bT .nil pass0) pa_nil))) (blkOk_by (own := [("row", 2), ("many", 3)]) (N := nRb) (sc := defScope sRb) (by decide +kernel)) (fun _ _ _ _ _ => pg_tup (by rfl) (pgs_cons (pg_name (i := 2) scRb.nd rfl (.inl rfl)) (pgs_cons (pg_name (i := 3) scRb.nd rfl (.inl rfl)) pgs_nil))) (fun _ _ _ _ _ => pts_nil) (fun _ _ _ _ _ => pe_call GB hr (by rfl) gB FB.kp bB .nil pass0 (pa_cons (pv 2) (pa_cons (pv 3) pa_nil)))) pa_nil))), ?_⟩
    obtain ⟨dx, t, hhp, _⟩ := id hp.hp
    refine ⟨.ref a, rfl, .ref p, rfl, p, dx, _, rfl, hhp, rfl, p, bk, cs, fs, row, rfl, hp, hrl, fun H1 tk s1 htk => ?_⟩
    have ha1 := Same.tup s1 ha
    have hx1 : All2 (fun v r => ∃ x, v = V.ref x ∧ RowAt K H1 x r.1 r.2) xs rs := hxs.mono fun _ _ ⟨x, e, h⟩ => ⟨x, e, h.same s1⟩
    have hxl := hxs.len
    have hkl : ((tknM fs cs.length row).map V.int).length = rs.length := by rw [List.length_map, tknM_len, hcr]
    refine ⟨a, tk, xs, _, rfl, .inr ⟨ha1, htk, fun D nD => ?_⟩⟩
    refine lc_it (walk_tups (n := rs.length) hxl hkl) (fun i H' => Same H1 H' ∧ ∃ zs ls, H' D = some (.lst zs) ∧ zs.length = i ∧ All2 (fun v r => ∃ x, v = V.ref x ∧ RowAt K H' x r.1 r.2) zs ls ∧ LRs (cutZ rs (tkN fs cs.length row)) ls i) ⟨same_upd nD, [], [], upd_same, rfl, True.intro, rfl, fun _ _ z => absurd z (Nat.not_lt_zero _)⟩
      (fun i H' _ hP => ⟨Same.tup hP.1 ha1, Same.tup hP.1 htk⟩) (fun i v H' H'' hi hP hY => ?_) (fun H2 hP => ?_)
    · obtain ⟨sm, zs, ls, hD, hzl, hA, hLR⟩ := hP
      obtain ⟨T0, x, y, rfl, nT, rfl, hx, hy⟩ := hY
      obtain ⟨r, hr0, ra, rfl, hra⟩ := hx1.get hx
      have uT := same_upd (o := .tup [.ref ra, y]) nT
      have hy : ((tknM fs cs.length row).map V.int)[i]? = some y := hy
      rw [List.getElem?_map] at hy
      cases hz : (tknM fs cs.length row)[i]? with
      | none => rw [hz] at hy; cases hy
      | some z =>
        rw [hz] at hy
        obtain rfl := Option.some.inj hy
        have hz0 := hnn z (List.mem_of_getElem? hz)
        obtain ⟨n, rfl⟩ := Int.eq_ofNat_of_zero_le hz0
        have hn : (tkN fs cs.length row)[i]? = some n := by
          unfold tkN
          rw [List.getElem?_map, hz]
          rfl
        have hb := hsm r (List.mem_of_getElem? hr0)
        refine ⟨T0, _, rfl, SqT.of upd_same, rfl, _, _, rfl, _, _, rfl, rfl, rfl, yesT ⟨_, rfl, _, rfl, ra, r, n, rfl, hra.same (sm.trans uT), hb.1, hb.2, hok i r n hr0 hn, fun H3 q0 l s3 hlr hrow => ?_⟩⟩
        have hD3 := s3 _ _ (uT _ _ hD)
        refine ⟨_, hD3, ?_, Same.offUpd ((sm.trans uT).trans s3) nD, zs ++ [.ref q0], ls ++ [l], upd_same, ?_, ?_, ?_⟩
        · exact small1000 (by omega)
        · rw [List.length_append, hzl]
          rfl
        · have tD : TS K H3 (upd H3 D (.lst (zs ++ [.ref q0]))) := TS.upd hD3
          refine All2.snoc ⟨q0, rfl, hrow.ts tD⟩ (hA.mono fun v r ⟨x, e, h⟩ => ⟨x, e, (h.same (uT.trans s3)).ts tD⟩)
        · exact hLR.snoc (cutZ_get hr0 hn) hlr
    · obtain ⟨sm, zs, ls, hD, hzl, hA, hLR⟩ := hP
      exact ⟨D, zs, rfl, .inl (SqL.of hD), fun l H3 s3 hl => q H3 l ls ((s1.trans sm).trans s3) ⟨zs, hl, hA.mono fun v r ⟨x, e, h⟩ => ⟨x, e, h.same s3⟩⟩ hLR⟩
end
/-! ### rows_behind_sweeps, sweep -/
abbrev sRbs : Stmt := topS 106
abbrev nRbs : List Str := ["book", "rows", "sweeps", "torn", "figure"]
theorem scRbs : FnScope nRbs ["book", "rows", "sweeps"] (defScope sRbs) := ⟨rfl, rfl, rfl, by decide +kernel, rfl, by decide +kernel, by decide +kernel⟩
/-- what is asked of rows that a row of figures is torn off -/
structure TearOk (cs : List Int) (fs : List (List Tri)) (rs : List Row2) (row : List Int) : Prop where
  good : ∀ f ∈ fs, GoodF cs f
  cl : cs.length ≤ 100
  cr : cs.length = rs.length
  sm : ∀ r ∈ rs, r.1.length ≤ 1000 ∧ r.2.length ≤ 1000
  rl : row.length ≤ 1000
  inn : ∀ x ∈ row, InF fs x
  nn : ∀ x ∈ tknM fs cs.length row, (0 : Int) ≤ x
  ok : ∀ (i : Nat) (r : Row2) (n : Nat), rs[i]? = some r → (tkN fs cs.length row)[i]? = some n → CutOk r n
/-- the rows behind -/
def BehindQ (K : PySem.W.Frag) (cs : List Int) (fs : List (List Tri)) (rs : List Row2) (row : List Int) (H : Hp) (Q : VK) : Prop := ∀ H' q ls, Same H H' → RowsT K H' q ls → LRs (cutZ rs (tkN fs cs.length row)) ls rs.length → Q (.ref q) H'
/-- a list of lists of figures -/
def SwpsL (K : PySem.W.Frag) (H : Hp) (p : Addr) (ts : List (List Int)) : Prop := ∃ xs, SqL K H p xs ∧ All2 (fun v t => ∃ a, v = V.ref a ∧ SqL K H a (t.map V.int)) xs ts
def spRbs (K : PySem.W.Frag) (C : Addr) : Sp := fun vs H Q _ => ∃ (bk a p : Addr) (cs : List Int) (fs : List (List Tri)) (rs : List Row2) (ts : List (List Int)), vs = [.ref bk, .ref a, .ref p] ∧ BookAt K C H bk cs fs ∧ RowsT K H a rs ∧ SwpsL K H p ts ∧ TearOk cs fs rs ts.flatten ∧ BehindQ K cs fs rs ts.flatten H Q
theorem flat_le (ts : List (List Int)) : ∀ i, (ts.take i).flatten.length ≤ ts.flatten.length := fun i => by
  conv => rhs; rw [← List.take_append_drop i ts]
  rw [List.flatten_append, List.length_append]
  exact Nat.le_add_right ..
theorem flat_snoc {ts : List (List Int)} {i : Nat} {t : List Int} (h : ts[i]? = some t) : (ts.take (i + 1)).flatten = (ts.take i).flatten ++ t := by
  rw [List.take_add_one, h, List.flatten_append]
  show _ ++ ([t] : List (List Int)).flatten = _
  rw [List.flatten_cons, List.flatten_nil, List.append_nil]
section
variable {P : Program} {w : World} {K : PySem.W.Frag} {mg : Str → Option Value} {base : Heap}
theorem ok_rbs {f fR fH C CH : Addr} {fd fdR fdH : FuncData} {k : Nat} (F : Fun K "rows_behind_sweeps" "rows_behind_sweeps" sRbs f fd) (TH : HpTxt K mg CH)
    (FR : Fun K "rows_behind" "rows_behind" sRb fR fdR) (bR : Binds K fdR ["rows", "heap"] []) (gR : mg "rows_behind" = some (.ref fR)) (GR : FnOk P w K mg base CX0 (k + 1) fR fdR ["rows", "heap"] (spRb K C CH))
    (MH : Mk K CH fH) (GH : FnOk P w K mg base CX0 k fH fdH ["self", "book", "row"] (spHInitC K C CH)) (bH : Binds K fdH ["self", "book", "row"] []) :
    FnOk P w K mg base CX0 (k + 2) f fd ["book", "rows", "sweeps"] (spRbs K C) := by
  refine F.ok scRbs (fun vs H Q E h => ?_) (fun cdv A outer s H vs Q E hr h => ?_)
  · obtain ⟨bk, a, p, cs, fs, rs, ts, rfl, _⟩ := h
    rfl
  · obtain ⟨bk, a, p, cs, fs, rs, ts, rfl, hB, hR, ⟨xs, hp, hxs⟩, ok, q⟩ := h
    refine ⟨_, pss_one (ps_ret (pe_call GR hr (by rfl) gR FR.kp bR .nil pass0 (pa_cons (pv 1) (pa_cons (pe_make MH GH hr (by rfl) TH.mgC bH .nil pass0 (pa_cons (pv 0) (pa_cons (pe_lc2 (own := [("torn", 3), ("figure", 4)]) (vs1 := [4]) (g := gName 3) (tt := tYes) (wi1 := iList K (tVar 3)) (g1 := gName 4) (tt1 := tYes) (te := tVar 4) rfl scRbs.nd (pi_list (pv 2)) (blkOk_by (own := [("torn", 3), ("figure", 4)]) (N := nRbs) (sc := defScope sRbs) (by decide +kernel)) (by decide) (fun _ _ _ _ _ => pg_name (i := 3) scRbs.nd rfl (.inl rfl)) (fun _ _ _ _ _ => pts_nil) (fun _ _ _ _ _ => pi_list (pv 3)) (fun _ _ _ _ _ => pg_name (i := 4) scRbs.nd rfl (.inl rfl)) (fun _ _ _ _ _ => pts_nil) (fun _ _ _ _ _ => pv 4)) pa_nil))) pa_nil)))), ?_⟩
    refine ⟨.ref a, rfl, .ref bk, rfl, .ref p, rfl, p, rfl, ⟨_, hp⟩, fun D nD => ?_⟩
    refine outer_it (walk_list (K := K) (a := p) (xs := xs)) (fun i H' => Same H H' ∧ H' D = some (.lst ((ts.take i).flatten.map V.int))) ⟨same_upd nD, upd_same⟩ (fun i H' _ hP => hP.1.seq hp) (fun i x H' H'' hi hP hY => ?_) (fun H1 hP => ?_)
    · obtain ⟨sm, hD⟩ := hP
      obtain ⟨rfl, hx⟩ := hY
      obtain ⟨tr, htr, ta, rfl, hta⟩ := hxs.get hx
      refine ⟨rfl, yesT ⟨.ref ta, rfl, ta, rfl, ⟨_, sm.seq hta⟩, ?_⟩⟩
      refine inner_it (walk_list (K := K) (a := ta) (xs := tr.map V.int)) (fun j H' => Same H H' ∧ H' D = some (.lst (((ts.take i).flatten ++ tr.take j).map V.int))) ⟨sm, by rw [List.take_zero, List.append_nil]; exact hD⟩ (fun j H' _ hP => hP.1.seq hta) (fun j y H' H'' hj hP hY => ?_) (fun H2 hP => ?_)
      · obtain ⟨sm2, hD2⟩ := hP
        obtain ⟨rfl, hy⟩ := hY
        rw [List.getElem?_map] at hy
        cases hp2 : tr[j]? with
        | none => rw [hp2] at hy; cases hy
        | some z =>
          rw [hp2] at hy
          obtain rfl := Option.some.inj hy
          have l1 := flat_le ts (i + 1)
          rw [flat_snoc htr, List.length_append] at l1
          have l2 := ok.rl
          refine ⟨rfl, yesT ⟨.int z, rfl, _, hD2, ?_, Same.offUpd sm2 nD, ?_⟩⟩
          · rw [List.length_map, List.length_append, List.length_take]
            exact small1000 (by omega)
          · rw [upd_same, take_snoc hp2, ← List.append_assoc, List.map_append (l₂ := [z])]
            rfl
      · obtain ⟨sm2, hD2⟩ := hP
        rw [List.length_map, List.take_length, ← flat_snoc htr] at hD2
        exact ⟨sm2, hD2⟩
    · obtain ⟨s1, hD⟩ := hP
      rw [hxs.len, List.take_length] at hD
      have hcr := ok.cr
      have hc := ok.cl
      intro x dx nx ndx nxd
      refine hmakeC (C := C) (cs := cs) (fs := fs) (row := ts.flatten) (hB.same s1) ok.good ok.cl (.inl (SqL.of hD)) ok.rl ok.inn nx ndx nxd (fun H2 s2 hX => ⟨rfl, ?_⟩)
      exact ⟨a, x, bk, cs, fs, rs, ts.flatten, rfl, hR.ts (TS.of (s1.trans s2)), hX, ok.rl, ok.cr, by omega, ok.sm, ok.nn, ok.ok, fun H3 q0 ls s3 hq hl => q H3 q0 ls ((s1.trans s2).trans s3) hq hl⟩
end
/-! ### x not in a tuple of data; d[text] of a dict of the top; f(a, .., *b) where f is a local name -/
theorem u65 {k : Nat} {A : Around} (r : Room k A) : A.units + 65 < cLine := by
  have := r.un
  omega
def rNotInT (K : PySem.W.Frag) : R2 := fun x y H Q => ∃ d ds, Dp K H x d ∧ Dp K H y (.tuple ds) ∧ SeqAt.shaped d = true ∧ SeqAt.shaped (.tuple ds) = true ∧ Q (.bl (!ds.any fun z => PyData.eqv z d)) H
theorem op_notInT {X : Cx} (hu : X.A.units + 65 < cLine) : OpR X (compareOp .NotIn) (rNotInT X.K) := by
  intro pins s σ H x y v u Q I rx ry h
  obtain ⟨d, ds, hx, hy, sx, sy, q⟩ := h
  obtain ⟨as, r1⟩ := Dp.reads I d x v hx rx
  obtain ⟨bs, r2⟩ := Dp.reads I (.tuple ds) y u hy ry
  exact SeqAt.notIn_tuple_reads r2 r1 (SeqAt.canLay_of_shaped sy) (SeqAt.canLay_of_shaped sx) (room_in_shaped sx hu) ⟨.bl _, H, I, rfl, q⟩
def rIxKd (K : PySem.W.Frag) (d : Addr) : R2 := fun x y H Q => ∃ (z : Str) (u : Value) (v : V), x = .ref d ∧ y = .str z ∧ PySem.W.nsIn K d z = some (some u) ∧ RelV v u ∧ Q v H
theorem ix_kd {X : Cx} {d : Addr} {es : Array DictEntry} {n : Nat} (D : KDict X.K X.w d es n) : IxR X (rIxKd X.K d) := by
  intro value slice pins s σ H x y v u Q I rx ry h hs
  obtain ⟨z, u0, v0, rfl, rfl, e, r, q⟩ := h
  cases rx
  obtain ⟨t, rfl⟩ := ry
  exact tail_any (kd_type D I) PySem.F.slot_dict_getitem.lookup (wpAny_getItem_of (PySem.strKind_is X.prog X.w z t) (PySem.W.mapOf_K (prog := X.prog) I.kIn D.at_ D.lit) (PySem.W.find_K D.at_ e) ⟨v0, H, I.tok _, r, q⟩) hs
/-- the def is told by the state -/
def tCallVS (X : Cx) (CX : CXT) (k i : Nat) (E : XK) (t : TA) : TE := fun σ H Q => ∃ (f : Addr) (sp : Sp), FnR X.prog X.w X.K X.mg X.base CX k f sp ∧ PySem.W.keepIn X.K (.ref f) = true ∧ σ[i]? = some (some (.ref f)) ∧ t σ H fun vs H1 => sp vs H1 Q E
theorem pe_callVS {X : Cx} {CX : CXT} {k i : Nat} {E : XK} {x : Str} {e : Expr} {es : List Expr} {t : TA} {p pos : Pos} (hr : Room k X.A) (hx : Passes CX X E) (hN : X.N[i]? = some x) (hv : Vis X.env.scope x) (ha : PA X (e :: es) t)
    (hd : (x == ("__debug__" : Str)) = false := by decide) (hcd : (x == ("__classdict__" : Str)) = false := by decide)
    (he : starEach (e :: es) X.env = (false, eval e X.env) :: starEach es X.env := by rfl) (hst : (backTo pos (starEach es X.env)).any (·.1) = true := by rfl) : PE X (.Call (.Name x p) (e :: es) [] pos) (tCallVS X CX k i E t) := by
  refine ⟨fun pins s σ H Q I h => ?_⟩
  obtain ⟨f, sp, G, hk, hs, h⟩ := h
  refine wpAny_Call_Name_kw (thn ((pe_var (pos := p) (i := i) hN hv hd hcd).run pins s σ H (fun v H1 => v = .ref f ∧ H1 = H) I ⟨.ref f, hs, rfl, rfl⟩) fun u s1 z => ?_)
  obtain ⟨v, H1, I1, r1, ev, eH⟩ := z
  subst ev
  rw [eH] at I1
  cases r1
  refine PySem.W.callWith_S2 (h₀ := X.base) I.ok.mod.kin hk (thn (ha.run pos pins s1 σ H _ I1 h) fun us s2 y => ?_) he hst
  obtain ⟨vs, H2, I2, r, q⟩ := y
  exact ⟨I2.kIn, wpAny_call (run_fnR G hr hx I2 r q)⟩
/-! ### sweep, tear, rows_behind_deed, kept_behind_deed -/
abbrev sSwp : Stmt := topS 104
theorem scSwp : FnScope ["book", "rows"] ["book", "rows"] (defScope sSwp) := ⟨rfl, rfl, rfl, by decide +kernel, rfl, by decide +kernel, by decide +kernel⟩
def spSwp (K : PySem.W.Frag) (C : Addr) : Sp := fun vs H Q _ => ∃ (bk a : Addr) (cs : List Int) (fs : List (List Tri)) (rs : List Row2), vs = [.ref bk, .ref a] ∧ BookAt K C H bk cs fs ∧ RowsT K H a rs ∧ (∀ f ∈ fs, OkR rs f) ∧ fs.length ≤ 100 ∧ TearOk cs fs rs (nI (upM rs fs fs.length)) ∧ BehindQ K cs fs rs (nI (upM rs fs fs.length)) H Q
abbrev sTrD : Stmt := topS 103
abbrev nTrD : List Str := ["book", "rows", "figure"]
theorem scTrD : FnScope nTrD ["book", "rows", "figure"] (defScope sTrD) := ⟨rfl, rfl, rfl, by decide +kernel, rfl, by decide +kernel, by decide +kernel⟩
def spTrD (K : PySem.W.Frag) (C : Addr) (cm : Nat → Addr) : Sp := fun vs H Q E => ∃ (bk a : Addr) (cs : List Int) (fs : List (List Tri)) (rs : List Row2) (z : Int), vs = [.ref bk, .ref a, .int z] ∧ BookAt K C H bk cs fs ∧ RowsT K H a rs ∧ (∀ f ∈ fs, OkR rs f) ∧ fs.length ≤ 100 ∧ rs.length ≤ 100 ∧
  (¬ (0 ≤ z ∧ z < (fs.length : Int)) → refuseN 24 (cm 24) [z] H E) ∧ (0 ≤ z → z < (fs.length : Int) → (stM rs (fs.getD z.toNat []) = false → refuseN 13 (cm 13) [z] H E) ∧ (stM rs (fs.getD z.toNat []) = true → TearOk cs fs rs [z] ∧ BehindQ K cs fs rs [z] H Q))
section
variable {P : Program} {w : World} {K : PySem.W.Frag} {mg : Str → Option Value} {base : Heap}
theorem BehindQ.later {cs : List Int} {fs : List (List Tri)} {rs : List Row2} {row : List Int} {H H1 : Hp} {Q : VK} (h : BehindQ K cs fs rs row H Q) (s : Same H H1) : BehindQ K cs fs rs row H1 Q := fun H' q ls s' hq hl => h H' q ls (s.trans s') hq hl
theorem ok_swp {f fR fS C : Addr} {fd fdR fdS : FuncData} {k : Nat} (F : Fun K "sweep" "sweep" sSwp f fd)
    (FR : Fun K "rows_behind_sweeps" "rows_behind_sweeps" sRbs fR fdR) (bR : Binds K fdR ["book", "rows", "sweeps"] []) (gR : mg "rows_behind_sweeps" = some (.ref fR)) (GR : FnOk P w K mg base CX0 k fR fdR ["book", "rows", "sweeps"] (spRbs K C))
    (FS : Fun K "standing_on" "standing_on" sSon fS fdS) (bS : Binds K fdS ["book", "rows"] []) (gS : mg "standing_on" = some (.ref fS)) (GS : FnOk P w K mg base CX0 k fS fdS ["book", "rows"] (spSon K C)) :
    FnOk P w K mg base CX0 (k + 1) f fd ["book", "rows"] (spSwp K C) := by
  refine F.ok scSwp (fun vs H Q E h => ?_) (fun cdv A outer s H vs Q E hr h => ?_)
  · obtain ⟨bk, a, cs, fs, rs, rfl, _⟩ := h
    rfl
  · obtain ⟨bk, a, cs, fs, rs, rfl, hB, hR, hO, hf, ok, q⟩ := h
    refine ⟨_, pss_one (ps_ret (pe_call GR hr (by rfl) gR FR.kp bR .nil pass0 (pa_cons (pv 0) (pa_cons (pv 1) (pa_cons (pe_lst (pa_cons (pe_call GS hr (by rfl) gS FS.kp bS .nil pass0 (pa_cons (pv 0) (pa_cons (pv 1) pa_nil))) pa_nil)) pa_nil))))), ?_⟩
    have hcr := ok.cr
    have hc := ok.cl
    refine ⟨.ref bk, rfl, .ref a, rfl, .ref bk, rfl, .ref a, rfl, bk, a, cs, fs, rs, rfl, hB, hR, hO, hf, by omega, fun H1 q0 s1 _ hq => ?_⟩
    refine ⟨(show (1 : Nat) ≤ sizeLine by decide), fun l nl => ?_⟩
    have ul := same_upd (o := .lst [V.ref q0]) nl
    have e1 : ([nI (upM rs fs fs.length)] : List (List Int)).flatten = nI (upM rs fs fs.length) := by
      rw [List.flatten_cons, List.flatten_nil, List.append_nil]
    refine ⟨bk, a, l, cs, fs, rs, [nI (upM rs fs fs.length)], rfl, hB.same (s1.trans ul), hR.ts (TS.of (s1.trans ul)), ⟨[.ref q0], SqL.of upd_same, ⟨q0, rfl, SqL.of (ul _ _ hq)⟩, True.intro⟩, by rw [e1]; exact ok, by rw [e1]; exact q.later (s1.trans ul)⟩
theorem ok_trd {f fR fS fSh C : Addr} {fd fdR fdS fdSh : FuncData} {cm : Nat → Addr} {k : Nat} (F : Fun K "tear" "tear" sTrD f fd) (TB : BkTxt K mg C)
    (FR : Fun K "rows_behind_sweeps" "rows_behind_sweeps" sRbs fR fdR) (bR : Binds K fdR ["book", "rows", "sweeps"] []) (gR : mg "rows_behind_sweeps" = some (.ref fR)) (GR : FnOk P w K mg base CX0 (k + 1) fR fdR ["book", "rows", "sweeps"] (spRbs K C))
    (FS : Fun K "standing_on" "standing_on" sSon fS fdS) (bS : Binds K fdS ["book", "rows"] []) (gS : mg "standing_on" = some (.ref fS)) (GS : FnOk P w K mg base CX0 (k + 1) fS fdS ["book", "rows"] (spSon K C))
    (bSh : Binds K fdSh ["self", "at"] []) (mSh : Meth K C "shape" fSh) (GSh : FnOk P w K mg base (L2.CX P w) (k + 1) fSh fdSh ["self", "at"] (spShpX K C (cm 24))) (R : exc1 13 "NotStanding" "figure" (cm 13) P w K mg base k) :
    FnOk P w K mg base (L2.CX P w) (k + 2) f fd nTrD (spTrD K C cm) := by
  refine F.okX scTrD (fun vs H Q E h => ?_) (fun cdv A outer s H vs Q E hr h => ?_)
  · obtain ⟨bk, a, cs, fs, rs, z, rfl, _⟩ := h
    rfl
  · obtain ⟨bk, a, cs, fs, rs, z, rfl, hB, hR, hO, hf, hrl, qn, q⟩ := h
    refine ⟨_, pss_cons (ps_expr (pe_meth (pv 0) TB.cl mSh GSh hr bSh .nil (passes_call (takes_of rfl rfl rfl rfl) (fun _ _ _ _ h => h)) (pa_cons (pv 2) pa_nil)))
      (pss_cons (ps_if (pt_cmpR op_notIn_seq (pv 2) (pe_call GS hr (by rfl) gS FS.kp bS .nil pass0 (pa_cons (pv 0) (pa_cons (pv 1) pa_nil))) (by rfl)) (pss_one (ps_raise rfl (takes_of rfl rfl rfl rfl) (pmk_ref R hr (by rfl) (pa_cons (pv 2) pa_nil)))) pss_nil)
      (pss_one (ps_ret (pe_call GR hr (by rfl) gR FR.kp bR .nil pass0 (pa_cons (pv 0) (pa_cons (pv 1) (pa_cons (pe_lst (pa_cons (pe_lst (pa_cons (pv 2) pa_nil)) pa_nil)) pa_nil))))))), ?_⟩
    obtain ⟨dx, a0, b0, xs0, hbk, _⟩ := id hB
    refine ⟨.ref bk, rfl, bk, dx, _, rfl, hbk, rfl, .int z, rfl, bk, cs, fs, z, rfl, hB, fun i ei hi v hv => ?_, fun e => qn e⟩
    subst ei
    obtain ⟨q1, q2⟩ := q (by omega) (by omega)
    rw [Int.toNat_natCast] at q1 q2
    refine ⟨.int (i : Nat), rfl, .ref bk, rfl, .ref a, rfl, bk, a, cs, fs, rs, rfl, hB, hR, hO, hf, hrl, fun H1 d s1 nd hd => ?_⟩
    refine ⟨d, _, rfl, .inl (SqL.of hd), rfl, flat_ints _, _, rfl, ?_⟩
    rw [inV_up rs fs i hi]
    cases hst : stM rs (fs.getD i []) with
    | false => exact iteT ⟨.int (i : Nat), rfl, rfl, (show (1 : Nat) ≤ 1000 by decide), fun dd H2 h1 h2 h3 => q1 hst dd H2 (s1.trans (same_ref h1 h2)) h3⟩
    | true =>
      obtain ⟨ok, qb⟩ := q2 hst
      refine iteF ⟨.ref bk, rfl, .ref a, rfl, .int (i : Nat), rfl, (show (1 : Nat) ≤ sizeLine by decide), fun l1 n1 => ⟨(show (1 : Nat) ≤ sizeLine by decide), fun l2 n2 => ?_⟩⟩
      have u1 := same_upd (o := .lst [V.int (i : Nat)]) n1
      have u2 := same_upd (o := .lst [V.ref l1]) n2
      have sa := s1.trans (u1.trans u2)
      have e1 : ([[(i : Int)]] : List (List Int)).flatten = [(i : Int)] := rfl
      exact ⟨bk, a, l2, cs, fs, rs, [[(i : Int)]], rfl, hB.same sa, hR.ts (TS.of sa), ⟨[.ref l1], SqL.of upd_same, ⟨l1, rfl, SqL.of (u2 _ _ upd_same)⟩, True.intro⟩, ok, qb.later sa⟩
end
/-! rows_behind_deed: the deed's word is looked up in a table of the top -/
def kindD : List PyData := kindL.map fun k => .tuple [.str k.1, .int k.2]
/-- the table of kinds at a -/
def KindsT (K : PySem.W.Frag) (a : Addr) : Prop := ∀ H, Dp K H (.ref a) (.tuple kindD)
/-- what the table of actions at a gives for a word: a def with this promise -/
def ActOk (P : Program) (w : World) (K : PySem.W.Frag) (mg : Str → Option Value) (base : Heap) (k : Nat) (a : Addr) (x : Str) (sp : Sp) : Prop := ∃ f, PySem.W.nsIn K a x = some (some (.ref f)) ∧ PySem.W.keepIn K (.ref f) = true ∧ FnR P w K mg base (L2.CX P w) k f sp
abbrev nRbd : List Str := ["book", "rows", "deed", "most", "word", "given", "action"]
theorem scRbd : FnScope nRbd ["book", "rows", "deed", "most"] (defScope sRbd) := ⟨rfl, rfl, rfl, by decide +kernel, rfl, by decide +kernel, by decide +kernel⟩
def spRbd (K : PySem.W.Frag) (acts : Str → Sp → Prop) : Sp := fun vs H Q E => ∃ (bk a most : V) (dd : Addr) (x : Str) (xs : List V) (sp : Sp), vs = [bk, a, .ref dd, most] ∧ SqT K H dd (.str x :: xs) ∧ (x, (xs.length : Int) + 1) ∈ kindL ∧ x ≠ "settle" ∧ acts x sp ∧ ∀ H', Same H H' → sp (bk :: a :: xs) H' Q E
section
variable {P : Program} {w : World} {K : PySem.W.Frag} {mg : Str → Option Value} {base : Heap}
theorem kind_any0 : ∀ p ∈ kindL, (kindD.any fun z => PyData.eqv z (.tuple [.str p.1, .int p.2])) = true := by decide +kernel
theorem kind_any {x : Str} {n : Int} (h : (x, n) ∈ kindL) : (kindD.any fun z => PyData.eqv z (.tuple [.str x, .int n])) = true := kind_any0 _ h
theorem kind_ok0 : ∀ p ∈ kindL, PyData.strOk p.1 = true ∧ p.2 ≤ 4 := by decide +kernel
theorem pair_sh {x : Str} (n : Int) (h : PyData.strOk x = true) : SeqAt.shaped (.tuple [.str x, .int n]) = true := by
  unfold SeqAt.shaped
  simp [PyData.canLay0, PyData.canLayAll0, PyData.depth, PyData.depthAll, h]
theorem kind_sh : SeqAt.shaped (.tuple kindD) = true := by decide +kernel
theorem ok_rbd {f aK aA : Addr} {fd : FuncData} {es : Array DictEntry} {n k : Nat} (F : Fun K "rows_behind_deed" "rows_behind_deed" sRbd f fd) (ml : mg "len" = none) (mK : mg "KINDS" = some (.ref aK)) (TK : KindsT K aK) (mA : mg "ACTIONS" = some (.ref aA)) (D : KDict K w aA es n) :
    FnOk P w K mg base (L2.CX P w) (k + 1) f fd ["book", "rows", "deed", "most"] (spRbd K (ActOk P w K mg base k aA)) := by
  refine F.okX scRbd (fun vs H Q E h => ?_) (fun cdv A outer s H vs Q E hr h => ?_)
  · obtain ⟨bk, a, most, dd, x, xs, sp, rfl, _⟩ := h
    rfl
  · obtain ⟨bk, a, most, dd, x, xs, sp, rfl, hd, hk, hns, ⟨g, hg1, hg2, hg3⟩, q⟩ := h
    refine ⟨_, pss_cons (ps_if (PW.pt (pw_or (pt_cmpR op_eq (pe_callB call_lenQ (by rfl) ml PySem.boot_len (pa_cons (pv 2) pa_nil)) pe_int (nomark _)) (pw_or1 (pt_cmpR (op_notInT (u65 hr)) (pe_tup (pa_cons (pe_ix ix_tup (pv 2) pe_int (fun _ _ => rfl)) (pa_cons (pe_callB call_lenQ (by rfl) ml PySem.boot_len (pa_cons (pv 2) pa_nil)) pa_nil))) (pe_glob (v := .ref aK) (by rfl) mK rfl) (by rfl))))) (pss_one ps_never) pss_nil)
      (pss_cons (ps_asg (pv 2) (pg_star rfl (pgs_cons (pg_name (i := 4) scRbd.nd rfl (.inl rfl)) (pgs_cons (pg_name (i := 5) scRbd.nd rfl (.inl rfl)) pgs_nil))))
      (pss_cons (ps_if (pt_cmpR op_eq (pv 4) pe_str (nomark _)) (pss_one ps_never) pss_nil)
      (pss_cons (ps_set (i := 6) scRbd.nd rfl (.inl rfl) (pe_ix (ix_kd D) (pe_glob (v := .ref aA) (by rfl) mA rfl) (pv 4) (fun _ _ => rfl)))
      (pss_one (ps_ret (pe_callVS (i := 6) (k := k) hr (passes_call (takes_of rfl rfl rfl rfl) (fun _ _ _ _ h => h)) rfl (.inl rfl) (pa_cons (pv 0) (pa_cons (pv 1) (StX.pa_star (pv 5) pa_nil))))))))), ?_⟩
    have hlen : ((V.str x :: xs).length : Nat) = xs.length + 1 := rfl
    have hx4 := kind_ok0 _ hk
    refine ⟨.ref dd, rfl, dd, _, rfl, .inr hd, rfl, _, rfl, ite2 (fun e => absurd (V.int.inj (of_decide_eq_true e)) (by rw [hlen]; omega)) (fun e => ?_)⟩
    refine ⟨.ref dd, rfl, dd, _, 0, .str x, rfl, rfl, hd, atI_nat (j := 0) rfl, .ref dd, rfl, dd, _, rfl, .inr hd, (show (2 : Nat) ≤ sizeLine by decide), fun p np => ?_⟩
    have u1 := same_upd (o := .tup [.str x, V.int ((V.str x :: xs).length : Nat)]) np
    refine ⟨.tuple [.str x, .int ((V.str x :: xs).length : Nat)], kindD, .tup (SqT.of upd_same) (.cons (.str x) (.cons (.int _) .nil)), TK _, pair_sh _ hx4.1, kind_sh, _, rfl, ?_⟩
    have hk2 : (kindD.any fun z => PyData.eqv z (.tuple [.str x, .int ((V.str x :: xs).length : Nat)])) = true := kind_any (by rw [hlen]; exact hk)
    rw [hk2]
    refine iteF ?_
    have hd1 := Same.tup u1 hd
    refine ⟨.ref dd, rfl, dd, .str x, xs, rfl, .inr hd1, (by have := hx4.2; dsimp only at this; omega), fun D nD => ⟨_, _, rfl, ⟨_, _, rfl, rfl, ?_⟩⟩⟩
    have u2 := same_upd (o := .lst xs) nD
    refine ⟨.str x, rfl, rfl, _, rfl, ite2 (fun e => absurd (V.str.inj (of_decide_eq_true e)) hns) (fun e => ?_)⟩
    refine ⟨.str x, rfl, x, .ref g, .ref g, rfl, rfl, hg1, rfl, ?_⟩
    refine ⟨g, sp, hg3, hg2, rfl, bk, rfl, a, rfl, .ref D, rfl, D, xs, rfl, .inr (SqL.of upd_same), ?_⟩
    show sp (bk :: a :: (xs ++ [])) _ Q E
    rw [List.append_nil]
    exact q _ (u1.trans u2)
end
/-! ### kept_behind_deed; Board: step, all_of, do, tear, sweep, steps -/
theorem scKbd : FnScope ["heap", "deed"] ["heap", "deed"] (defScope sKbd) := ⟨rfl, rfl, rfl, by decide +kernel, rfl, by decide +kernel, by decide +kernel⟩
def spKbd (K : PySem.W.Frag) (C CH : Addr) : Sp := fun vs H Q _ => ∃ (p dd bk : Addr) (cs : List Int) (fs : List (List Tri)) (row : List Int) (x : Str) (xs : List V), vs = [.ref p, .ref dd] ∧ HpOf K C CH H p bk cs fs row ∧ SqT K H dd (.str x :: xs) ∧ x ≠ "write" ∧ x ≠ "change" ∧ ∀ H' q, Same H H' → HpOf K C CH H' q bk cs fs [] → Q (.ref q) H'
/-- all stays but the two -/
def Off2 (p b : Addr) (H H' : Hp) : Prop := ∀ a o, a ≠ p → a ≠ b → H a = some o → H' a = some o
theorem Off2.same {p b : Addr} {H H' : Hp} (s : Same H H') : Off2 p b H H' := fun a o _ _ h => s a o h
theorem Off2.trans {p b : Addr} {H H1 H2 : Hp} (x : Off2 p b H H1) (y : Off2 p b H1 H2) : Off2 p b H H2 := fun a o n m h => y a o n m (x a o n m h)
theorem Off2.of {p b : Addr} {H H' : Hp} (x : Off p H H') : Off2 p b H H' := fun a o n _ h => x a o n h
theorem Off2.of2 {p b : Addr} {H H' : Hp} (x : Off b H H') : Off2 p b H H' := fun a o _ m h => x a o m h
abbrev nStp : List Str := ["self", "piles", "beginning", "is_whole"]
theorem scStp : FnScope nStp nStp (defScope sStp) := ⟨rfl, rfl, rfl, by decide +kernel, rfl, by decide +kernel, by decide +kernel⟩
def spStp (K : PySem.W.Frag) (C CB CH : Addr) : Sp := fun vs H Q _ => ∃ (p pa bk pl be : Addr) (wh : Bool) (cs : List Int) (fs : List (List Tri)) (rs ls : List Row2) (ps qs : List (List Row2)) (row : List Int), vs = [.ref p, .ref pl, .ref be, .bl wh] ∧ BoX K C CB CH H p pa bk cs fs rs ps qs ∧ RowsT K H pl ls ∧ HpOf K C CH H be bk cs fs row ∧ ps.length ≤ 900 ∧
  ∀ H', Off2 p pa H H' → BoX K C CB CH H' p pa bk cs fs ls (ps ++ [rs]) [] → (∀ u ys zs, u ≠ pa → H u = some (.lst ys) → BoX K C CB CH (upd H' u (.lst zs)) p pa bk cs fs ls (ps ++ [rs]) []) → Q .non H'
theorem ts_off2 {K : PySem.W.Frag} {H H' : Hp} {p b : Addr} {CB dx : Addr} {fl : List (Str × V)} {xs : List V} (o : Off2 p b H H') (hp : H p = some (.ins CB dx fl)) (hb : H b = some (.lst xs)) : TS K H H' := fun a ys h => by
  rcases h with (q | ⟨ob, q⟩) | q
  · exact .inl (.inl (o _ _ (fun z => by rw [z, hp] at q; cases q) (fun z => by rw [z, hb] at q; cases q) q))
  · exact .inl (.inr ⟨ob, o _ _ (fun z => by rw [z, hp] at q; cases q) (fun z => by rw [z, hb] at q; cases q) q⟩)
  · exact .inr q
theorem bookAt_off2 {K : PySem.W.Frag} {C CB : Addr} {H H' : Hp} {p b dx bk : Addr} {fl : List (Str × V)} {xs : List V} {cs : List Int} {fs : List (List Tri)} (h : BookAt K C H bk cs fs) (o : Off2 p b H H') (hp : H p = some (.ins CB dx fl)) (hl : fl.length ≠ 2) (hb : H b = some (.lst xs)) : BookAt K C H' bk cs fs := by
  obtain ⟨d, a1, b1, ys, h1, h2, h3, h4⟩ := h
  have t := ts_off2 (K := K) o hp hb
  refine ⟨d, a1, b1, ys, o _ _ (fun z => ?_) (fun z => by rw [z, hb] at h1; cases h1) h1, t _ _ h2, t _ _ h3, h4.mono fun _ _ => FigT.ts t⟩
  rw [z, hp] at h1
  injection h1 with h1
  injection h1 with _ _ e
  rw [e] at hl
  exact hl rfl
theorem hpOf_off2 {K : PySem.W.Frag} {C CB CH : Addr} {H H' : Hp} {p b dx bk x : Addr} {fl : List (Str × V)} {xs : List V} {cs : List Int} {fs : List (List Tri)} {row : List Int} (h : HpOf K C CH H x bk cs fs row) (o : Off2 p b H H') (hp : H p = some (.ins CB dx fl)) (hl : fl.length ≠ 2) (hb : H b = some (.lst xs)) : HpOf K C CH H' x bk cs fs row := by
  have t := ts_off2 (K := K) o hp hb
  refine ⟨?_, bookAt_off2 h.bk o hp hl hb, h.good, h.len, h.inn⟩
  obtain ⟨d2, tt, h1, h2⟩ := h.hp
  refine ⟨d2, tt, o _ _ (fun z => ?_) (fun z => by rw [z, hb] at h1; cases h1) h1, h2.ts t⟩
  rw [z, hp] at h1
  injection h1 with h1
  injection h1 with _ _ e
  rw [e] at hl
  exact hl rfl
section
variable {P : Program} {w : World} {K : PySem.W.Frag} {mg : Str → Option Value} {base : Heap}
theorem ok_kbd {f fH fBk C CH tD : Addr} {fd fdH fdBk : FuncData} {dsH : List Value} {k : Nat} (F : Fun K "kept_behind_deed" "kept_behind_deed" sKbd f fd) (TH : HpTxt K mg CH)
    (MH : Mk K CH fH) (GH : FnOk P w K mg base CX0 k fH fdH ["self", "book", "row"] (spHInitC K C CH)) (bH : Binds K fdH ["self", "book", "row"] dsH) (vH : Vals [.ref tD] dsH) (tT : ∀ H, SqT K H tD [])
    (bBk : Binds K fdBk ["self"] []) (mBk : Meth K CH "book" fBk) (GBk : FnOk P w K mg base CX0 (k + 1) fBk fdBk ["self"] (spHBook K CH)) : FnOk P w K mg base CX0 (k + 2) f fd ["heap", "deed"] (spKbd K C CH) := by
  refine F.ok scKbd (fun vs H Q E h => ?_) (fun cdv A outer s H vs Q E hr h => ?_)
  · obtain ⟨p, dd, bk, cs, fs, row, x, xs, rfl, _⟩ := h
    rfl
  · obtain ⟨p, dd, bk, cs, fs, row, x, xs, rfl, hp, hd, n1, n2, q⟩ := h
    refine ⟨_, pss_cons (ps_if (pt_cmpR op_eq (pe_ix ix_tup (pv 1) pe_int (fun _ _ => rfl)) pe_str (nomark _)) (pss_one (ps_ret (pv 0))) pss_nil)
      (pss_cons (ps_if (pt_cmpR op_eq (pe_ix ix_tup (pv 1) pe_int (fun _ _ => rfl)) pe_str (nomark _)) (pss_one ps_never) pss_nil)
      (pss_one (ps_ret (pe_make MH GH hr (by rfl) TH.mgC bH vH pass0 (pa_cons (pe_meth0 (pv 0) TH.cl mBk GBk hr bBk .nil pass0) pa_nil))))), ?_⟩
    refine ⟨.ref dd, rfl, dd, _, 0, .str x, rfl, rfl, hd, atI_nat (j := 0) rfl, rfl, _, rfl, ite2 (fun e => absurd (V.str.inj (of_decide_eq_true e)) n1) (fun _ => ?_)⟩
    refine ⟨.ref dd, rfl, dd, _, 0, .str x, rfl, rfl, hd, atI_nat (j := 0) rfl, rfl, _, rfl, ite2 (fun e => absurd (V.str.inj (of_decide_eq_true e)) n2) (fun _ => ?_)⟩
    obtain ⟨dx, t, h1, h2⟩ := id hp.hp
    refine ⟨.ref p, rfl, p, dx, _, rfl, h1, rfl, p, bk, _, rfl, hp.hp, ?_⟩
    intro x dxx nx ndx nxd
    exact hmakeC (C := C) (cs := cs) (fs := fs) (row := []) hp.bk hp.good hp.len (.inr (tT _)) (Nat.zero_le _) (fun z hz => nomatch hz) nx ndx nxd (fun H6 s6 P6 => ⟨rfl, q H6 x s6 P6⟩)
theorem ok_stp {f fSt C CB CH CW : Addr} {fd fdSt : FuncData} {k : Nat} (F : Fun K "step" "Board.step" sStp f fd) (T : BoTxt K mg CB)
    (bSt : Binds K fdSt nBoSt []) (mSt : Meth K CB "stand" fSt) (GSt : FnOk P w K mg base CX0 k fSt fdSt nBoSt (spBoSt CB CW)) : FnOk P w K mg base CX0 (k + 1) f fd nStp (spStp K C CB CH) := by
  refine F.ok scStp (fun vs H Q E h => ?_) (fun cdv A outer s H vs Q E hr h => ?_)
  · obtain ⟨p, pa, bk, pl, be, wh, cs, fs, rs, ls, ps, qs, row, rfl, _⟩ := h
    rfl
  · obtain ⟨p, pa, bk, pl, be, wh, cs, fs, rs, ls, ps, qs, row, rfl, hX, hR, hb, hps, q⟩ := h
    obtain ⟨dx, pl0, fu, be0, mf, wa, wh0, xs, ys, row0, h1, h2, h3, h4, h5, h6, h7, h8, h9⟩ := hX
    refine ⟨_, pss_cons (ps_expr (pe_bm PySem.F.plainAttrs_list PySem.F.slot_list_append PySem.F.type_list_append mt_append (pe_fld (pv 0) rfl) (pa_cons (pe_fld (pv 0) rfl) pa_nil)))
      (pss_cons (ps_fld (pv 0) (pe_lst pa_nil) rfl)
      (pss_one (ps_expr (pe_meth (pv 0) T.cl mSt GSt hr bSt .nil pass0 (pa_cons (pv 1) (pa_cons (pv 2) (pa_cons (pv 3) pa_nil))))))), ?_⟩
    have hxl := h5.len
    refine ⟨.ref p, rfl, p, CB, dx, _, _, rfl, h1, T.cl, T.nPa, rfl, .inl ⟨rfl, _, SqL.of h4⟩, .ref p, rfl, p, CB, dx, _, _, rfl, h1, T.cl, T.nPi, rfl, pa, xs, _, rfl, rfl, h4, small1000 (by omega), ?_⟩
    have hpa : p ≠ pa := fun z => by rw [z, h4] at h1; cases h1
    have o1 : Off2 p pa H (upd H pa (.lst (xs ++ [V.ref pl0]))) := .of2 Off.upd
    have hp1 : (upd H pa (.lst (xs ++ [V.ref pl0]))) p = some (.ins CB dx (boF (.ref bk) (.ref pa) (.ref fu) mf (.ref pl0) (.ref be0) (.bl wh0) wa)) := by
      rw [upd_ne hpa]
      exact h1
    have ha1 : (upd H pa (.lst (xs ++ [V.ref pl0]))) pa = some (.lst (xs ++ [V.ref pl0])) := upd_same
    generalize upd H pa (.lst (xs ++ [V.ref pl0])) = H1 at o1 hp1 ha1 ⊢
    refine ⟨Nat.zero_le _, fun l nl => ?_⟩
    have u1 := same_upd (o := .lst []) nl
    have nlp : l ≠ p := fun z => by rw [z, hp1] at nl; cases nl
    have nla : l ≠ pa := fun z => by rw [z, ha1] at nl; cases nl
    refine ⟨.ref p, rfl, p, CB, dx, _, rfl, u1 _ _ hp1, T.cl, T.nFu, (show 8 < 1000 by decide), ?_⟩
    have o2 : Off2 p pa H (upd (upd H1 l (.lst [])) p (.ins CB dx (putF "future" (.ref l) (boF (.ref bk) (.ref pa) (.ref fu) mf (.ref pl0) (.ref be0) (.bl wh0) wa)))) := (o1.trans (.same u1)).trans (.of Off.upd)
    have hp2 : (upd (upd H1 l (.lst [])) p (.ins CB dx (putF "future" (.ref l) (boF (.ref bk) (.ref pa) (.ref fu) mf (.ref pl0) (.ref be0) (.bl wh0) wa)))) p = some (.ins CB dx (boF (.ref bk) (.ref pa) (.ref l) mf (.ref pl0) (.ref be0) (.bl wh0) wa)) := upd_same
    have ha2 : (upd (upd H1 l (.lst [])) p (.ins CB dx (putF "future" (.ref l) (boF (.ref bk) (.ref pa) (.ref fu) mf (.ref pl0) (.ref be0) (.bl wh0) wa)))) pa = some (.lst (xs ++ [V.ref pl0])) := by
      rw [upd_ne (Ne.symm hpa)]
      exact u1 _ _ ha1
    have hl2 : (upd (upd H1 l (.lst [])) p (.ins CB dx (putF "future" (.ref l) (boF (.ref bk) (.ref pa) (.ref fu) mf (.ref pl0) (.ref be0) (.bl wh0) wa)))) l = some (.lst []) := by rw [upd_ne nlp, upd_same]
    generalize upd (upd H1 l (.lst [])) p (.ins CB dx (putF "future" (.ref l) (boF (.ref bk) (.ref pa) (.ref fu) mf (.ref pl0) (.ref be0) (.bl wh0) wa))) = H2 at o2 hp2 ha2 hl2 ⊢
    refine ⟨.ref p, rfl, p, dx, _, rfl, hp2, rfl, .ref pl, rfl, .ref be, rfl, .bl wh, rfl, p, dx, .ref bk, .ref pl, .ref be, .bl wh, _, rfl, hp2, (show 8 ≤ 900 by decide), rfl, fun H7 wk dw g o7 nw hw hg hp7 => ?_⟩
    have o17 : Off2 p pa H H7 := o2.trans (.of o7)
    have t17 := ts_off2 (K := K) o17 h1 h4
    have n8 : (boF (.ref bk) (.ref pa) (.ref fu) mf (.ref pl0) (.ref be0) (.bl wh0) wa).length ≠ 2 := by
      show (8 : Nat) ≠ 2
      decide
    have k2 := bookAt_off2 h2 o17 h1 n8 h4
    have k3 := hR.ts t17
    have k4 := o7 _ _ (Ne.symm hpa) ha2
    have k5 : All2 (fun v r => ∃ a, v = V.ref a ∧ RowsT K H7 a r) (xs ++ [.ref pl0]) (ps ++ [rs]) := All2.snoc ⟨pl0, rfl, h3.ts t17⟩ (h5.mono fun _ _ ⟨a, e, h⟩ => ⟨a, e, h.ts t17⟩)
    have k8 := hpOf_off2 hb o17 h1 n8 h4
    refine q H7 o17 ⟨dx, pl, l, be, mf, .ref wk, wh, xs ++ [.ref pl0], [], row, hp7, k2, k3, k4, k5, o7 _ _ nlp hl2, True.intro, k8, nla⟩ fun u ys zs nu hu => ?_
    have nup : u ≠ p := fun z => by rw [z, h1] at hu; cases hu
    have nul : u ≠ l := fun z => by
      have := o1 u _ nup nu hu
      rw [z, nl] at this
      cases this
    have hu7 : H7 u = some (.lst ys) := o17 u _ nup nu hu
    have tu : TS K H7 (upd H7 u (.lst zs)) := TS.upd hu7
    have ki : ∀ {a C dx fl}, H7 a = some (.ins C dx fl) → (upd H7 u (.lst zs)) a = some (.ins C dx fl) := fun {a C dx fl} e => by
      rw [upd_ne (fun z => by rw [z, hu7] at e; cases e)]
      exact e
    have kb : BookAt K C (upd H7 u (.lst zs)) bk cs fs := by
      obtain ⟨d, a1, b1, vs1, z1, z2, z3, z4⟩ := k2
      exact ⟨d, a1, b1, vs1, ki z1, tu _ _ z2, tu _ _ z3, z4.mono fun _ _ => FigT.ts tu⟩
    refine ⟨dx, pl, l, be, mf, .ref wk, wh, xs ++ [.ref pl0], [], row, ki hp7, kb, k3.ts tu, by rw [upd_ne (Ne.symm nu)]; exact k4, k5.mono fun _ _ ⟨a, e, h⟩ => ⟨a, e, h.ts tu⟩, by rw [upd_ne (Ne.symm nul)]; exact o7 _ _ nlp hl2, True.intro, ?_, nla⟩
    obtain ⟨d2, tt, y1, y2⟩ := k8.hp
    exact ⟨⟨d2, tt, ki y1, y2.ts tu⟩, kb, k8.good, k8.len, k8.inn⟩
end
/-! ### Board: all_of, do, tear, sweep, steps, with a deed that goes through -/
def spRbdC (K : PySem.W.Frag) (acts : Str → Sp → Prop) : Sp := fun vs H Q _ => spRbd K acts vs H Q fun _ _ _ => False
abbrev nAll : List Str := ["self", "deeds", "piles", "beginning", "deed"]
theorem scAll : FnScope nAll ["self", "deeds"] (defScope sAll) := ⟨rfl, rfl, rfl, by decide +kernel, rfl, by decide +kernel, by decide +kernel⟩
/-- a deed that goes through: its tuple, what its action promises, the rows behind -/
structure DeedOk (K : PySem.W.Frag) (acts : Str → Sp → Prop) (H : Hp) (bk dd : Addr) (rs : List Row2) (good : List Row2 → Prop) (x : Str) (xs : List V) (sp : Sp) : Prop where
  tup : SqT K H dd (.str x :: xs)
  kind : (x, (xs.length : Int) + 1) ∈ kindL
  ns : x ≠ "settle"
  nw : x ≠ "write"
  nc : x ≠ "change"
  act : acts x sp
  go : ∀ (H1 : Hp) (pl : Addr) (Q1 : VK), Same H H1 → RowsT K H1 pl rs → (∀ H2 q ls, Same H1 H2 → RowsT K H2 q ls → good ls → Q1 (.ref q) H2) → sp (.ref bk :: .ref pl :: xs) H1 Q1 fun _ _ _ => False
theorem DeedOk.same {K : PySem.W.Frag} {acts : Str → Sp → Prop} {H H' : Hp} {bk dd : Addr} {rs : List Row2} {good : List Row2 → Prop} {x : Str} {xs : List V} {sp : Sp} (h : DeedOk K acts H bk dd rs good x xs sp) (s : Same H H') : DeedOk K acts H' bk dd rs good x xs sp :=
  ⟨Same.tup s h.tup, h.kind, h.ns, h.nw, h.nc, h.act, fun H1 pl Q1 s1 hr q => h.go H1 pl Q1 (s.trans s1) hr q⟩
/-- behind it -/
def DoneQ (K : PySem.W.Frag) (C CB CH : Addr) (H : Hp) (p pa bk : Addr) (cs : List Int) (fs : List (List Tri)) (rs : List Row2) (ps : List (List Row2)) (good : List Row2 → Prop) (Q : VK) : Prop := ∀ H' ls, Off2 p pa H H' → good ls → BoX K C CB CH H' p pa bk cs fs ls (ps ++ [rs]) [] → (∀ u ys zs, u ≠ pa → H u = some (.lst ys) → BoX K C CB CH (upd H' u (.lst zs)) p pa bk cs fs ls (ps ++ [rs]) []) → Q .non H'
theorem DoneQ.later {K : PySem.W.Frag} {C CB CH : Addr} {H H1 : Hp} {p pa bk : Addr} {cs : List Int} {fs : List (List Tri)} {rs : List Row2} {ps : List (List Row2)} {good : List Row2 → Prop} {Q : VK} (h : DoneQ K C CB CH H p pa bk cs fs rs ps good Q) (s : Same H H1) : DoneQ K C CB CH H1 p pa bk cs fs rs ps good Q := fun H' ls o g x k => h H' ls ((Off2.same s).trans o) g x fun u ys zs n e => k u ys zs n (s _ _ e)
def spAll (K : PySem.W.Frag) (C CB CH : Addr) (acts : Str → Sp → Prop) : Sp := fun vs H Q _ => ∃ (p pa bk l dd : Addr) (cs : List Int) (fs : List (List Tri)) (rs : List Row2) (ps qs : List (List Row2)) (good : List Row2 → Prop) (x : Str) (xs : List V) (sp : Sp), vs = [.ref p, .ref l] ∧ BoX K C CB CH H p pa bk cs fs rs ps qs ∧ SqL K H l [.ref dd] ∧ DeedOk K acts H bk dd rs good x xs sp ∧ ps.length ≤ 900 ∧ DoneQ K C CB CH H p pa bk cs fs rs ps good Q
theorem scDo : FnScope ["self", "deed"] ["self", "deed"] (defScope sDo) := ⟨rfl, rfl, rfl, by decide +kernel, rfl, by decide +kernel, by decide +kernel⟩
def spDo (K : PySem.W.Frag) (C CB CH : Addr) (acts : Str → Sp → Prop) : Sp := fun vs H Q _ => ∃ (p pa bk dd : Addr) (cs : List Int) (fs : List (List Tri)) (rs : List Row2) (ps qs : List (List Row2)) (good : List Row2 → Prop) (x : Str) (xs : List V) (sp : Sp), vs = [.ref p, .ref dd] ∧ BoX K C CB CH H p pa bk cs fs rs ps qs ∧ DeedOk K acts H bk dd rs good x xs sp ∧ ps.length ≤ 900 ∧ DoneQ K C CB CH H p pa bk cs fs rs ps good Q
abbrev sBTr : Stmt := inClass (topS 122) 6
theorem scBTr : FnScope ["self", "figure"] ["self", "figure"] (defScope sBTr) := ⟨rfl, rfl, rfl, by decide +kernel, rfl, by decide +kernel, by decide +kernel⟩
section
variable {P : Program} {w : World} {K : PySem.W.Frag} {mg : Str → Option Value} {base : Heap}
theorem ok_all {f fR fK fS C CB CH : Addr} {fd fdR fdK fdS : FuncData} {acts : Str → Sp → Prop} {tk : Tok} {k : Nat} (F : Fun K "all_of" "Board.all_of" sAll f fd) (T : BoTxt K mg CB) (ml : mg "len" = none) (mMW : mg "MOST_WALKED" = some (.int 20000 tk))
    (FR : Fun K "rows_behind_deed" "rows_behind_deed" sRbd fR fdR) (bR : Binds K fdR ["book", "rows", "deed", "most"] []) (gR : mg "rows_behind_deed" = some (.ref fR)) (GR : FnOk P w K mg base CX0 k fR fdR ["book", "rows", "deed", "most"] (spRbdC K acts))
    (FK : Fun K "kept_behind_deed" "kept_behind_deed" sKbd fK fdK) (bK : Binds K fdK ["heap", "deed"] []) (gK : mg "kept_behind_deed" = some (.ref fK)) (GK : FnOk P w K mg base CX0 k fK fdK ["heap", "deed"] (spKbd K C CH))
    (bS : Binds K fdS nStp []) (mS : Meth K CB "step" fS) (GS : FnOk P w K mg base CX0 k fS fdS nStp (spStp K C CB CH)) : FnOk P w K mg base CX0 (k + 1) f fd ["self", "deeds"] (spAll K C CB CH acts) := by
  refine F.ok scAll (fun vs H Q E h => ?_) (fun cdv A outer s H vs Q E hr h => ?_)
  · obtain ⟨p, pa, bk, l, dd, cs, fs, rs, ps, qs, good, x, xs, sp, rfl, _⟩ := h
    rfl
  · obtain ⟨p, pa, bk, l, dd, cs, fs, rs, ps, qs, good, x, xs, sp, rfl, hX, hl, hD, hps, q⟩ := h
    obtain ⟨dx, pl0, fu, be0, mf, wa, wh0, xs0, ys0, row0, h1, h2, h3, h4, h5, h6, h7, h8, h9⟩ := id hX
    refine ⟨_, pss_cons (ps_set (i := 2) scAll.nd rfl (.inl rfl) (pe_fld (pv 0) rfl))
      (pss_cons (ps_set (i := 3) scAll.nd rfl (.inl rfl) (pe_fld (pv 0) rfl))
      (pss_cons (ps_for PassesOwn.never rfl (pi_list (pv 1)) (pg_name (i := 4) scAll.nd rfl (.inl rfl)) (pss_cons (ps_set (i := 2) scAll.nd rfl (.inl rfl) (pe_call GR hr (by rfl) gR FR.kp bR .nil pass0 (pa_cons (pe_fld (pv 0) rfl) (pa_cons (pv 2) (pa_cons (pv 4) (pa_cons (pe_glob (v := .int 20000) (by rfl) mMW ⟨_, rfl⟩) pa_nil))))))
      (pss_one (ps_set (i := 3) scAll.nd rfl (.inl rfl) (pe_call GK hr (by rfl) gK FK.kp bK .nil pass0 (pa_cons (pv 3) (pa_cons (pv 4) pa_nil)))))))
      (pss_one (ps_expr (pe_meth (pv 0) T.cl mS GS hr bS .nil pass0 (pa_cons (pv 2) (pa_cons (pv 3) (pa_cons (pe_and (pe_fld (pv 0) rfl) (pe_one (pe_cmpR op_eq (pe_callB call_lenQ (by rfl) ml PySem.boot_len (pa_cons (pv 1) pa_nil)) pe_int (nomark _)))) pa_nil)))))))), ?_⟩
    refine ⟨.ref p, rfl, p, CB, dx, _, _, rfl, h1, T.cl, T.nPi, rfl, .ref p, rfl, p, CB, dx, _, _, rfl, h1, T.cl, T.nBe, rfl, .ref l, rfl, l, rfl, ⟨_, hl⟩, ?_⟩
    refine for_list (xs := [.ref dd]) (fun i σ H' => Same H H' ∧ ((i = 0 ∧ σ = [some (.ref p), some (.ref l), some (.ref pl0), some (.ref be0), none]) ∨ (i = 1 ∧ ∃ (pl be : Addr) (y4 : Option V) (ls : List Row2), σ = [some (.ref p), some (.ref l), some (.ref pl), some (.ref be), y4] ∧ RowsT K H' pl ls ∧ good ls ∧ HpOf K C CH H' be bk cs fs [])))
      ⟨Same.refl H, .inl ⟨rfl, rfl⟩⟩ (fun i σ H' _ hP => hP.1.seq hl) (fun i y σ H' hy hP => ?_) (fun σ H' hP => ?_)
    · obtain ⟨sm, ⟨rfl, rfl⟩ | ⟨rfl, _⟩⟩ := hP
      · obtain rfl := Option.some.inj hy
        have hD1 := hD.same sm
        refine ⟨.ref p, rfl, p, CB, dx, _, _, rfl, sm _ _ h1, T.cl, T.nOw, rfl, .ref pl0, rfl, .ref dd, rfl, .ref bk, .ref pl0, .int 20000, dd, x, xs, sp, rfl, hD1.tup, hD1.kind, hD1.ns, hD1.act, fun H1 s1 => ?_⟩
        refine hD1.go H1 pl0 _ s1 (h3.ts (TS.of (sm.trans s1))) fun H2 q0 ls s2 hq hg => ?_
        refine ⟨.ref be0, rfl, .ref dd, rfl, be0, dd, bk, cs, fs, row0, x, xs, rfl, h8.same ((sm.trans s1).trans s2), Same.tup (s1.trans s2) hD1.tup, hD.nw, hD.nc, fun H3 b3 s3 hb3 => ?_⟩
        exact ⟨((sm.trans s1).trans s2).trans s3, .inr ⟨rfl, q0, b3, _, ls, rfl, hq.ts (TS.of s3), hg, hb3⟩⟩
      · cases hy
    · obtain ⟨sm, ⟨y, _⟩ | ⟨_, pl, be, y4, ls, rfl, hq, hg, hb⟩⟩ := hP
      · cases y
      · refine ⟨.ref p, rfl, p, dx, _, rfl, sm _ _ h1, rfl, .ref pl, rfl, .ref be, rfl, .ref p, rfl, p, CB, dx, _, _, rfl, sm _ _ h1, T.cl, T.nWh, rfl, ?_⟩
        refine ⟨wh0, rfl, ?_⟩
        cases wh0 with
        | false => exact iteF ⟨p, pa, bk, pl, be, false, cs, fs, rs, ls, ps, qs, [], rfl, hX.same sm, hq, hb, hps, fun H2 o hx hk => q.later sm H2 ls o hg hx hk⟩
        | true => exact iteT ⟨.ref l, rfl, l, _, rfl, .inl (sm.seq hl), rfl, p, pa, bk, pl, be, _, cs, fs, rs, ls, ps, qs, [], rfl, hX.same sm, hq, hb, hps, fun H2 o hx hk => q.later sm H2 ls o hg hx hk⟩
theorem ok_do {f fA C CB CH : Addr} {fd fdA : FuncData} {acts : Str → Sp → Prop} {k : Nat} (F : Fun K "do" "Board.do" sDo f fd) (T : BoTxt K mg CB)
    (bA : Binds K fdA ["self", "deeds"] []) (mA : Meth K CB "all_of" fA) (GA : FnOk P w K mg base CX0 k fA fdA ["self", "deeds"] (spAll K C CB CH acts)) : FnOk P w K mg base CX0 (k + 1) f fd ["self", "deed"] (spDo K C CB CH acts) := by
  refine F.ok scDo (fun vs H Q E h => ?_) (fun cdv A outer s H vs Q E hr h => ?_)
  · obtain ⟨p, pa, bk, dd, cs, fs, rs, ps, qs, good, x, xs, sp, rfl, _⟩ := h
    rfl
  · obtain ⟨p, pa, bk, dd, cs, fs, rs, ps, qs, good, x, xs, sp, rfl, hX, hD, hps, q⟩ := h
    obtain ⟨dx, pl0, fu, be0, mf, wa, wh0, xs0, ys0, row0, h1, _⟩ := id hX
    refine ⟨_, pss_one (ps_expr (pe_meth (pv 0) T.cl mA GA hr bA .nil pass0 (pa_cons (pe_lst (pa_cons (pv 1) pa_nil)) pa_nil))), ?_⟩
    refine ⟨.ref p, rfl, p, dx, _, rfl, h1, rfl, .ref dd, rfl, (show (1 : Nat) ≤ sizeLine by decide), fun l nl => ?_⟩
    have u := same_upd (o := .lst [V.ref dd]) nl
    exact ⟨p, pa, bk, l, dd, cs, fs, rs, ps, qs, good, x, xs, sp, rfl, hX.same u, SqL.of upd_same, hD.same u, hps, q.later u⟩
end
/-! tear, sweep, steps -/
/-- the acts that are known -/
structure ActsOk (K : PySem.W.Frag) (C : Addr) (cm : Nat → Addr) (acts : Str → Sp → Prop) : Prop where
  tear : acts "tear" (spTrD K C cm)
  sweep : acts "sweep" (spSwp K C)
/-- these are the rows behind a row of figures -/
def Behind (cs : List Int) (fs : List (List Tri)) (rs : List Row2) (row : List Int) : List Row2 → Prop := fun ls => LRs (cutZ rs (tkN fs cs.length row)) ls rs.length
theorem tear_deed {K : PySem.W.Frag} {C : Addr} {cm : Nat → Addr} {acts : Str → Sp → Prop} {H : Hp} {bk dd : Addr} {cs : List Int} {fs : List (List Tri)} {rs : List Row2} {i : Nat} (ac : ActsOk K C cm acts) (hd : SqT K H dd [.str "tear", .int (i : Nat)]) (hB : BookAt K C H bk cs fs)
    (hO : ∀ f ∈ fs, OkR rs f) (hf : fs.length ≤ 100) (hr : rs.length ≤ 100) (hi : i < fs.length) (hst : stM rs (fs.getD i []) = true) (ok : TearOk cs fs rs [(i : Int)]) : DeedOk K acts H bk dd rs (Behind cs fs rs [(i : Int)]) "tear" [.int (i : Nat)] (spTrD K C cm) :=
  ⟨hd, (show (("tear" : Str), (2 : Int)) ∈ kindL by decide), by decide, by decide, by decide, ac.tear, fun H1 pl Q1 s1 hr1 q => ⟨bk, pl, cs, fs, rs, (i : Int), rfl, hB.same s1, hr1, hO, hf, hr, fun z => absurd (show (0 : Int) ≤ (i : Int) ∧ (i : Int) < (fs.length : Int) from ⟨by omega, by omega⟩) z, fun _ _ => ⟨(fun z => by rw [Int.toNat_natCast, hst] at z; cases z), fun _ => ⟨ok, fun H2 q0 ls s2 hq hl => q H2 q0 ls s2 hq hl⟩⟩⟩⟩
theorem sweep_deed {K : PySem.W.Frag} {C : Addr} {cm : Nat → Addr} {acts : Str → Sp → Prop} {H : Hp} {bk dd : Addr} {cs : List Int} {fs : List (List Tri)} {rs : List Row2} (ac : ActsOk K C cm acts) (hd : SqT K H dd [.str "sweep"]) (hB : BookAt K C H bk cs fs)
    (hO : ∀ f ∈ fs, OkR rs f) (hf : fs.length ≤ 100) (ok : TearOk cs fs rs (nI (upM rs fs fs.length))) : DeedOk K acts H bk dd rs (Behind cs fs rs (nI (upM rs fs fs.length))) "sweep" [] (spSwp K C) :=
  ⟨hd, (show (("sweep" : Str), (1 : Int)) ∈ kindL by decide), by decide, by decide, by decide, ac.sweep, fun H1 pl Q1 s1 hr1 q => ⟨bk, pl, cs, fs, rs, rfl, hB.same s1, hr1, hO, hf, ok, fun H2 q0 ls s2 hq hl => q H2 q0 ls s2 hq hl⟩⟩
def spBTr (K : PySem.W.Frag) (C CB CH : Addr) : Sp := fun vs H Q _ => ∃ (p pa bk : Addr) (cs : List Int) (fs : List (List Tri)) (rs : List Row2) (ps qs : List (List Row2)) (i : Nat), vs = [.ref p, .int (i : Nat)] ∧ BoX K C CB CH H p pa bk cs fs rs ps qs ∧ (∀ f ∈ fs, OkR rs f) ∧ fs.length ≤ 100 ∧ rs.length ≤ 100 ∧ i < fs.length ∧ stM rs (fs.getD i []) = true ∧ TearOk cs fs rs [(i : Int)] ∧ ps.length ≤ 900 ∧
  DoneQ K C CB CH H p pa bk cs fs rs ps (Behind cs fs rs [(i : Int)]) Q
abbrev sBSw : Stmt := inClass (topS 122) 7
theorem scBSw : FnScope ["self", "torn"] ["self"] (defScope sBSw) := ⟨rfl, rfl, rfl, by decide +kernel, rfl, by decide +kernel, by decide +kernel⟩
section
variable {P : Program} {w : World} {K : PySem.W.Frag} {mg : Str → Option Value} {base : Heap}
theorem ok_btr {f fD C CB CH : Addr} {fd fdD : FuncData} {acts : Str → Sp → Prop} {cm : Nat → Addr} {k : Nat} (F : Fun K "tear" "Board.tear" sBTr f fd) (T : BoTxt K mg CB) (ac : ActsOk K C cm acts)
    (bD : Binds K fdD ["self", "deed"] []) (mD : Meth K CB "do" fD) (GD : FnOk P w K mg base CX0 k fD fdD ["self", "deed"] (spDo K C CB CH acts)) : FnOk P w K mg base CX0 (k + 1) f fd ["self", "figure"] (spBTr K C CB CH) := by
  refine F.ok scBTr (fun vs H Q E h => ?_) (fun cdv A outer s H vs Q E hr h => ?_)
  · obtain ⟨p, pa, bk, cs, fs, rs, ps, qs, i, rfl, _⟩ := h
    rfl
  · obtain ⟨p, pa, bk, cs, fs, rs, ps, qs, i, rfl, hX, hO, hf, hr1, hi, hst, ok, hps, q⟩ := h
    obtain ⟨dx, pl0, fu, be0, mf, wa, wh0, xs0, ys0, row0, h1, hB, _⟩ := id hX
    refine ⟨_, pss_one (ps_expr (pe_meth (pv 0) T.cl mD GD hr bD .nil pass0 (pa_cons (pe_tup (pa_cons pe_str (pa_cons (pv 1) pa_nil))) pa_nil))), ?_⟩
    refine ⟨.ref p, rfl, p, dx, _, rfl, h1, rfl, .int (i : Nat), rfl, (show (2 : Nat) ≤ sizeLine by decide), fun l nl => ?_⟩
    have u := same_upd (o := .tup [V.str "tear", V.int (i : Nat)]) nl
    exact ⟨p, pa, bk, l, cs, fs, rs, ps, qs, _, _, _, _, rfl, hX.same u, tear_deed ac (SqT.of upd_same) (hB.same u) hO hf hr1 hi hst ok, hps, q.later u⟩
end
/-! ### Board.sweep, Board.steps -/
def spBSw (K : PySem.W.Frag) (C CB CH : Addr) : Sp := fun vs H Q _ => ∃ (p pa bk : Addr) (cs : List Int) (fs : List (List Tri)) (rs : List Row2) (ps qs : List (List Row2)), vs = [.ref p] ∧ BoX K C CB CH H p pa bk cs fs rs ps qs ∧ (∀ f ∈ fs, OkR rs f) ∧ fs.length ≤ 100 ∧ rs.length ≤ 100 ∧ TearOk cs fs rs (nI (upM rs fs fs.length)) ∧ ps.length ≤ 900 ∧
  ∀ H' ls q, Off2 p pa H H' → H q = none → H' q = some (.lst ((nI (upM rs fs fs.length)).map V.int)) → Behind cs fs rs (nI (upM rs fs fs.length)) ls → BoX K C CB CH H' p pa bk cs fs ls (ps ++ [rs]) [] → (∀ zs, BoX K C CB CH (upd H' q (.lst zs)) p pa bk cs fs ls (ps ++ [rs]) []) → Q (.ref q) H'
abbrev sBSt : Stmt := inClass (topS 122) 15
theorem scBSt : FnScope ["self"] ["self"] (defScope sBSt) := ⟨rfl, rfl, rfl, by decide +kernel, rfl, by decide +kernel, by decide +kernel⟩
def spBSt (K : PySem.W.Frag) (C CB CH : Addr) : Sp := fun vs H Q _ => ∃ (p pa bk : Addr) (cs : List Int) (fs : List (List Tri)) (rs : List Row2) (ps qs : List (List Row2)), vs = [.ref p] ∧ BoX K C CB CH H p pa bk cs fs rs ps qs ∧
  ∀ H' q, Same H H' → H q = none → H' q = some (.tup [.int (ps.length : Nat), .int (qs.length : Nat)]) → Q (.ref q) H'
section
variable {P : Program} {w : World} {K : PySem.W.Frag} {mg : Str → Option Value} {base : Heap}
theorem ok_bsw {f fD fSg C CB CH : Addr} {fd fdD fdSg : FuncData} {acts : Str → Sp → Prop} {cm : Nat → Addr} {k : Nat} (F : Fun K "sweep" "Board.sweep" sBSw f fd) (T : BoTxt K mg CB) (ac : ActsOk K C cm acts)
    (bSg : Binds K fdSg ["self"] []) (mSg : Meth K CB "standing" fSg) (GSg : FnOk P w K mg base CX0 k fSg fdSg ["self"] (spBoSg K C CB))
    (bD : Binds K fdD ["self", "deed"] []) (mD : Meth K CB "do" fD) (GD : FnOk P w K mg base CX0 k fD fdD ["self", "deed"] (spDo K C CB CH acts)) : FnOk P w K mg base CX0 (k + 1) f fd ["self"] (spBSw K C CB CH) := by
  refine F.ok scBSw (fun vs H Q E h => ?_) (fun cdv A outer s H vs Q E hr h => ?_)
  · obtain ⟨p, pa, bk, cs, fs, rs, ps, qs, rfl, _⟩ := h
    rfl
  · obtain ⟨p, pa, bk, cs, fs, rs, ps, qs, rfl, hX, hO, hf, hr1, ok, hps, q⟩ := h
    obtain ⟨dx, pl0, fu, be0, mf, wa, wh0, xs0, ys0, row0, h1, hB, h3, h4, _⟩ := id hX
    refine ⟨_, pss_cons (ps_set (i := 1) scBSw.nd rfl (.inl rfl) (pe_meth0 (pv 0) T.cl mSg GSg hr bSg .nil pass0))
      (pss_cons (ps_expr (pe_meth (pv 0) T.cl mD GD hr bD .nil pass0 (pa_cons (pe_tup (pa_cons pe_str pa_nil)) pa_nil)))
      (pss_one (ps_ret (pv 1)))), ?_⟩
    refine ⟨.ref p, rfl, p, dx, _, rfl, h1, rfl, p, cs, fs, rs, rfl, hX.board, hO, hf, hr1, fun H1 u s1 nu hu => ?_⟩
    have hX1 := hX.same s1
    refine ⟨.ref p, rfl, p, dx, _, rfl, s1 _ _ h1, rfl, (show (1 : Nat) ≤ sizeLine by decide), fun l nl => ?_⟩
    have ul := same_upd (o := .tup [V.str "sweep"]) nl
    refine ⟨p, pa, bk, l, cs, fs, rs, ps, qs, _, _, _, _, rfl, hX1.same ul, sweep_deed ac (SqT.of upd_same) (hB.same (s1.trans ul)) hO hf ok, hps, fun H2 ls o2 hg hX2 hk => ?_⟩
    have n1 : u ≠ p := fun z => by rw [z, h1] at nu; cases nu
    have n2 : u ≠ pa := fun z => by rw [z, h4] at nu; cases nu
    exact ⟨.ref u, rfl, q H2 ls u ((Off2.same (s1.trans ul)).trans o2) nu (o2 _ _ n1 n2 (ul _ _ hu)) hg hX2 fun zs => hk u _ zs n2 (ul _ _ hu)⟩
theorem ok_bst {f C CB CH : Addr} {fd : FuncData} {k : Nat} (F : Fun K "steps" "Board.steps" sBSt f fd) (T : BoTxt K mg CB) (ml : mg "len" = none) : FnOk P w K mg base CX0 (k + 1) f fd ["self"] (spBSt K C CB CH) := by
  refine F.ok scBSt (fun vs H Q E h => ?_) (fun cdv A outer s H vs Q E hr h => ?_)
  · obtain ⟨p, pa, bk, cs, fs, rs, ps, qs, rfl, _⟩ := h
    rfl
  · obtain ⟨p, pa, bk, cs, fs, rs, ps, qs, rfl, ⟨dx, pl, fu, be, mf, wa, wh, xs, ys, row, h1, h2, h3, h4, h5, h6, h7, h8, h9⟩, q⟩ := h
    refine ⟨_, pss_one (ps_ret (pe_tup (pa_cons (pe_callB call_lenQ (by rfl) ml PySem.boot_len (pa_cons (pe_fld (pv 0) rfl) pa_nil)) (pa_cons (pe_callB call_lenQ (by rfl) ml PySem.boot_len (pa_cons (pe_fld (pv 0) rfl) pa_nil)) pa_nil)))), ?_⟩
    refine ⟨.ref p, rfl, p, CB, dx, _, _, rfl, h1, T.cl, T.nPa, rfl, pa, _, rfl, .inl (SqL.of h4), .ref p, rfl, p, CB, dx, _, _, rfl, h1, T.cl, T.nFu, rfl, fu, _, rfl, .inl (SqL.of h6), (show (2 : Nat) ≤ sizeLine by decide), fun l nl => ?_⟩
    have ul := same_upd (o := .tup [V.int (xs.length : Nat), V.int (ys.length : Nat)]) nl
    refine q _ l ul nl ?_
    rw [← h5.len, ← h7.len]
    exact upd_same
end
/-! ### a place of two lists -/
theorem All2.setAt {α : Type} {R : V → α → Prop} : ∀ {xs : List V} {as : List α} {n : Nat} {x : V} {a : α}, All2 R xs as → R x a → All2 R (xs.set n x) (as.set n a)
  | [], [], _, _, _, _, _ => True.intro
  | [], _ :: _, _, _, _, h, _ => h.elim
  | _ :: _, [], _, _, _, h, _ => h.elim
  | _ :: _, _ :: _, 0, _, _, h, k => ⟨k, h.2⟩
  | _ :: _, _ :: _, _ + 1, _, _, h, k => ⟨h.1, All2.setAt h.2 k⟩
/-! ### check_pad, check_note, with_row, topped, put -/
theorem scCpd : FnScope ["book", "pad"] ["book", "pad"] (defScope sCpd) := ⟨rfl, rfl, rfl, by decide +kernel, rfl, by decide +kernel, by decide +kernel⟩
def spCpd (K : PySem.W.Frag) (C CP : Addr) : Sp := fun vs H Q E => ∃ (bk : Addr) (cs : List Int) (fs : List (List Tri)) (z : Int), vs = [.ref bk, .int z] ∧ BookAt K C H bk cs fs ∧ (0 ≤ z → z < (cs.length : Int) → ∀ H', Same H H' → Q .non H') ∧ (¬ (0 ≤ z ∧ z < (cs.length : Int)) → refuseN 23 CP [z] H E)
abbrev sCnt : Stmt := topS 113
theorem scCnt : FnScope ["book", "pad", "note"] ["book", "pad", "note"] (defScope sCnt) := ⟨rfl, rfl, rfl, by decide +kernel, rfl, by decide +kernel, by decide +kernel⟩
def spCnt (K : PySem.W.Frag) (C CN : Addr) : Sp := fun vs H Q E => ∃ (bk : Addr) (cs : List Int) (fs : List (List Tri)) (i : Nat) (x : Int), vs = [.ref bk, .int (i : Nat), .int x] ∧ BookAt K C H bk cs fs ∧ i < cs.length ∧ (notesB cs i [x] = true → ∀ H', Same H H' → Q .non H') ∧ (notesB cs i [x] = false → refuseN 9 CN [x] H E)
theorem scWr : FnScope ["rows", "pad", "row"] ["rows", "pad", "row"] (defScope sWr) := ⟨rfl, rfl, rfl, by decide +kernel, rfl, by decide +kernel, by decide +kernel⟩
def spWr (K : PySem.W.Frag) : Sp := fun vs H Q _ => ∃ (a p : Addr) (rs : List Row2) (i : Nat) (l : Row2), vs = [.ref a, .int (i : Nat), .ref p] ∧ RowsT K H a rs ∧ rs.length ≤ 100 ∧ i < rs.length ∧ RowAt K H p l.1 l.2 ∧ ∀ H' q, Same H H' → RowsT K H' q (rs.set i l) → Q (.ref q) H'
abbrev nTpd : List Str := ["rows", "pad", "notes", "lead", "turn", "row"]
theorem scTpd : FnScope nTpd ["rows", "pad", "notes"] (defScope sTpd) := ⟨rfl, rfl, rfl, by decide +kernel, rfl, by decide +kernel, by decide +kernel⟩
def spTpd (K : PySem.W.Frag) (CF : Addr) : Sp := fun vs H Q E => ∃ (a p : Addr) (rs : List Row2) (i : Nat) (r : Row2) (ns : List Int), vs = [.ref a, .int (i : Nat), .ref p] ∧ RowsT K H a rs ∧ rs[i]? = some r ∧ SqA K H p (ns.map V.int) ∧ ns.length ≤ 400 ∧ r.1.length ≤ 400 ∧ r.2.length ≤ 1000 ∧
  ∀ l : Row2, LR (ns ++ r.1) r.2 l.1 l.2 → (400 < l.1.length → refuseN 11 CF [(i : Int)] H E) ∧ (l.1.length ≤ 400 → ∀ H' q, Same H H' → RowAt K H' q l.1 l.2 → Q (.ref q) H')
abbrev sPut : Stmt := topS 96
abbrev nPut : List Str := ["book", "rows", "pad", "note"]
theorem scPut : FnScope nPut nPut (defScope sPut) := ⟨rfl, rfl, rfl, by decide +kernel, rfl, by decide +kernel, by decide +kernel⟩
/-- rows of the board: leads and rounds within bounds -/
def BdR (rs : List Row2) : Prop := ∀ r ∈ rs, r.1.length ≤ 400 ∧ r.2.length ≤ 1000
def spPut (K : PySem.W.Frag) (C : Addr) (cm : Nat → Addr) : Sp := fun vs H Q E => ∃ (bk a : Addr) (cs : List Int) (fs : List (List Tri)) (rs : List Row2) (z x : Int), vs = [.ref bk, .ref a, .int z, .int x] ∧ BookAt K C H bk cs fs ∧ RowsT K H a rs ∧ rs.length = cs.length ∧ cs.length ≤ 100 ∧ BdR rs ∧
  (¬ (0 ≤ z ∧ z < (cs.length : Int)) → refuseN 23 (cm 23) [z] H E) ∧ (∀ i : Nat, z = (i : Int) → i < cs.length → (notesB cs i [x] = false → refuseN 9 (cm 9) [x] H E) ∧ (notesB cs i [x] = true → ∀ (r l : Row2), rs[i]? = some r → LR (x :: r.1) r.2 l.1 l.2 → (400 < l.1.length → refuseN 11 (cm 11) [z] H E) ∧ (l.1.length ≤ 400 → ∀ H' q, Same H H' → RowsT K H' q (rs.set i l) → Q (.ref q) H')))
theorem set_cut {α : Type} {l : List α} {i : Nat} {a : α} (h : i < l.length) : l.take i ++ [a] ++ l.drop (i + 1) = l.set i a := by
  rw [List.set_eq_take_append_cons_drop, if_pos h, List.append_assoc]
  rfl
section
variable {P : Program} {w : World} {K : PySem.W.Frag} {mg : Str → Option Value} {base : Heap}
theorem ok_cpd {f fM C CP : Addr} {fd fdM : FuncData} {k : Nat} (F : Fun K "check_pad" "check_pad" sCpd f fd) (TB : BkTxt K mg C) (R : exc1 23 "NoPad" "pad" CP P w K mg base k)
    (bM : Binds K fdM ["self"] []) (mM : Meth K C "pads" fM) (GM : FnOk P w K mg base CX0 (k + 1) fM fdM ["self"] (spPadsM K C)) : FnOk P w K mg base (L2.CX P w) (k + 2) f fd ["book", "pad"] (spCpd K C CP) := by
  refine F.okX scCpd (fun vs H Q E h => ?_) (fun cdv A outer s H vs Q E hr h => ?_)
  · obtain ⟨bk, cs, fs, z, rfl, _⟩ := h
    rfl
  · obtain ⟨bk, cs, fs, z, rfl, hK, q, q1⟩ := h
    refine ⟨_, pss_one (ps_if (pt_not (pt_chain op_le op_lt pe_int (pv 1) (pe_meth0 (pv 0) TB.cl mM GM hr bM .nil pass0))) (pss_one (ps_raise rfl (takes_of rfl rfl rfl rfl) (pmk_ref R hr (by rfl) (pa_cons (pv 1) pa_nil)))) pss_nil), ?_⟩
    obtain ⟨dk, ak, bk2, xk, hbk, _⟩ := id hK
    have bad : ¬ (0 ≤ z ∧ z < (cs.length : Int)) → ∀ σ : L2.St, σ[1]? = some (some (.int z)) → tRef CP 1 (fun ws => [("pad", ws.getD 0 .non), ("word", .str "NoPad")]) (tCons (tVar 1) tNil) σ H fun cls d H' => E cls d H' := fun e σ hσ =>
      ⟨.int z, hσ, rfl, (show (1 : Nat) ≤ 1000 by decide), fun dd H2 h1 h2 h3 => q1 e dd H2 (same_ref h1 h2) h3⟩
    refine ⟨.int z, rfl, 0, z, rfl, rfl, _, rfl, ?_⟩
    by_cases e0 : 0 ≤ z
    rotate_left
    · rw [decide_eq_false e0]
      exact iteF ⟨_, rfl, iteT (bad (fun y => e0 y.1) _ rfl)⟩
    rw [decide_eq_true e0]
    refine iteT ⟨.ref bk, rfl, bk, dk, _, rfl, hbk, rfl, bk, cs, fs, rfl, hK, z, _, rfl, rfl, _, rfl, ?_⟩
    by_cases e1 : z < ((cs.length : Nat) : Int)
    rotate_left
    · rw [decide_eq_false e1]
      exact iteT (bad (fun y => e1 y.2) _ rfl)
    rw [decide_eq_true e1]
    exact iteF (q e0 e1 H (Same.refl H))
theorem ok_cnt {f fA C CN : Addr} {fd fdA : FuncData} {k : Nat} (F : Fun K "check_note" "check_note" sCnt f fd)
    (FA : Fun K "are_notes" "are_notes" sAn fA fdA) (bA : Binds K fdA ["book", "pad", "notes"] []) (gA : mg "are_notes" = some (.ref fA)) (GA : FnOk P w K mg base CX0 (k + 1) fA fdA ["book", "pad", "notes"] (spAn K C)) (R : exc1 9 "BadNote" "note" CN P w K mg base k) :
    FnOk P w K mg base (L2.CX P w) (k + 2) f fd ["book", "pad", "note"] (spCnt K C CN) := by
  refine F.okX scCnt (fun vs H Q E h => ?_) (fun cdv A outer s H vs Q E hr h => ?_)
  · obtain ⟨bk, cs, fs, i, x, rfl, _⟩ := h
    rfl
  · obtain ⟨bk, cs, fs, i, x, rfl, hB, hi, q, q1⟩ := h
    refine ⟨_, pss_one (ps_if (pt_not (pt_val (pe_call GA hr (by rfl) gA FA.kp bA .nil pass0 (pa_cons (pv 0) (pa_cons (pv 1) (pa_cons (pe_tup (pa_cons (pv 2) pa_nil)) pa_nil)))))) (pss_one (ps_raise rfl (takes_of rfl rfl rfl rfl) (pmk_ref R hr (by rfl) (pa_cons (pv 2) pa_nil)))) pss_nil), ?_⟩
    refine ⟨.ref bk, rfl, .int (i : Nat), rfl, .int x, rfl, (show (1 : Nat) ≤ sizeLine by decide), fun t nt => ?_⟩
    have u := same_upd (o := .tup [V.int x]) nt
    refine ⟨bk, t, cs, fs, i, [x], rfl, hB.same u, hi, .inr (SqT.of upd_same), (show (1 : Nat) ≤ 1000 by decide), fun H1 s1 => ⟨_, rfl, ?_⟩⟩
    cases hn : notesB cs i [x] with
    | false => exact iteT ⟨.int x, rfl, rfl, (show (1 : Nat) ≤ 1000 by decide), fun dd H2 h1 h2 h3 => q1 hn dd H2 ((u.trans s1).trans (same_ref h1 h2)) h3⟩
    | true => exact iteF (q hn H1 (u.trans s1))
theorem ok_wr {f : Addr} {fd : FuncData} {k : Nat} (F : Fun K "with_row" "with_row" sWr f fd) : FnOk P w K mg base CX0 (k + 1) f fd ["rows", "pad", "row"] (spWr K) := by
  refine F.ok scWr (fun vs H Q E h => ?_) (fun cdv A outer s H vs Q E hr h => ?_)
  · obtain ⟨a, p, rs, i, l, rfl, _⟩ := h
    rfl
  · obtain ⟨a, p, rs, i, l, rfl, ⟨xs, hx, hA⟩, hrl, hi, hp, q⟩ := h
    have hxl := hA.len
    refine ⟨_, pss_one (ps_ret (pe_op op_catS (pe_op op_catS (pe_slice sl_tupS (pv 0) po_none (po_some (pv 1))) (pe_tup (pa_cons (pv 2) pa_nil))) (pe_slice sl_tupS (pv 0) (po_some (pe_op op_add (pv 1) pe_int)) po_none))), ?_⟩
    refine ⟨.ref a, rfl, _, rfl, _, rfl, a, xs, rfl, hx, fun t1 H1 s1 h1 => ?_⟩
    rw [cutV_to] at h1
    refine ⟨.ref p, rfl, (show (1 : Nat) ≤ sizeLine by decide), fun t2 n2 => ?_⟩
    have u2 := same_upd (o := .tup [V.ref p]) n2
    refine ⟨t1, t2, _, _, rfl, rfl, Same.tup u2 h1, SqT.of upd_same, ?_, fun t3 H3 s3 h3 => ?_⟩
    · rw [List.length_take]
      show _ + 1 ≤ _
      exact Nat.le_of_lt (small1000 (by omega))
    have s13 := (s1.trans u2).trans s3
    refine ⟨.ref a, rfl, .int i, rfl, _, _, rfl, rfl, _, rfl, a, xs, rfl, Same.tup s13 hx, fun t4 H4 s4 h4 => ?_⟩
    rw [show ((i : Int) + 1) = ((i + 1 : Nat) : Int) from rfl, cutV_from] at h4
    refine ⟨t3, t4, _, _, rfl, rfl, Same.tup s4 h3, h4, ?_, fun t5 H5 s5 h5 => ?_⟩
    · rw [List.length_append, List.length_take, List.length_drop]
      show _ + 1 + _ ≤ _
      exact Nat.le_of_lt (small1000 (by omega))
    rw [set_cut (by omega)] at h5
    have sE := (s13.trans s4).trans s5
    exact q H5 t5 sE ⟨_, h5, (hA.mono fun _ _ ⟨b, e, h⟩ => ⟨b, e, h.same sE⟩).setAt ⟨p, rfl, hp.same sE⟩⟩
theorem ok_tpd {f fL CF : Addr} {fd fdL : FuncData} {tkL : Tok} {k : Nat} (F : Fun K "topped" "topped" sTpd f fd) (ml : mg "len" = none) (mt : mg "tuple" = none) (mML : mg "MOST_LEAD" = some (.int 400 tkL))
    (FL : Fun K "least_row" "least_row" sLR fL fdL) (bL : Binds K fdL ["lead", "turn"] []) (gL : mg "least_row" = some (.ref fL)) (GL : FnOk P w K mg base CX0 (k + 1) fL fdL ["lead", "turn"] (spLR K)) (R : exc1 11 "Full" "pad" CF P w K mg base k) :
    FnOk P w K mg base (L2.CX P w) (k + 2) f fd ["rows", "pad", "notes"] (spTpd K CF) := by
  refine F.okX scTpd (fun vs H Q E h => ?_) (fun cdv A outer s H vs Q E hr h => ?_)
  · obtain ⟨a, p, rs, i, r, ns, rfl, _⟩ := h
    rfl
  · obtain ⟨a, p, rs, i, r, ns, rfl, ⟨xs, hx, hA⟩, hi, hn, hnl, h1, h2, q⟩ := h
    refine ⟨_, pss_cons (ps_asg (pe_ix ix_tup (pv 0) (pv 1) (fun _ _ => rfl)) (pg_tup (by rfl) (pgs_cons (pg_name (i := 3) scTpd.nd rfl (.inl rfl)) (pgs_cons (pg_name (i := 4) scTpd.nd rfl (.inl rfl)) pgs_nil))))
      (pss_cons (ps_set (i := 5) scTpd.nd rfl (.inl rfl) (pe_call GL hr (by rfl) gL FL.kp bL .nil pass0 (pa_cons (pe_op op_catS (pe_callTy call_tupS (by rfl) mt (by decide +kernel) (pa_cons (pv 2) pa_nil)) (pv 3)) (pa_cons (pv 4) pa_nil))))
      (pss_cons (ps_if (pt_cmpR op_gt (pe_callB call_lenQ (by rfl) ml PySem.boot_len (pa_cons (pe_ix ix_tup (pv 5) pe_int (fun _ _ => rfl)) pa_nil)) (pe_glob (v := .int 400) (by rfl) mML ⟨_, rfl⟩) (nomark _)) (pss_one (ps_raise rfl (takes_of rfl rfl rfl rfl) (pmk_ref R hr (by rfl) (pa_cons (pv 1) pa_nil)))) pss_nil)
      (pss_one (ps_ret (pv 5))))), ?_⟩
    obtain ⟨y, hy, ra, rfl, la, ta, hr1, hr2, hr3⟩ := hA.at hi
    refine ⟨.ref a, rfl, .int (i : Nat), rfl, a, xs, _, _, rfl, rfl, hx, atI_nat hy, ra, _, rfl, hr1, rfl, _, _, rfl, _, _, rfl, rfl, ?_⟩
    refine ⟨.ref p, rfl, p, _, rfl, hn, fun t1 H1 s1 ht1 => ?_⟩
    refine ⟨.ref la, rfl, t1, la, _, _, rfl, rfl, ht1, Same.tup s1 hr2, ?_, fun t2 H2 s2 ht2 => ?_⟩
    · rw [List.length_map, List.length_map]
      exact Nat.le_of_lt (small1000 (by omega))
    rw [← List.map_append] at ht2
    have s12 := s1.trans s2
    refine ⟨.ref ta, rfl, t2, ta, ns ++ r.1, r.2, rfl, .inr ht2, .inr (Same.tup s12 hr3), by rw [List.length_append]; omega, h2, fun H3 t3 c d s3 hlr hrow => ?_⟩
    have s13 := s12.trans s3
    obtain ⟨q1, q2⟩ := q (c, d) hlr
    obtain ⟨a3, b3, k1, k2, k3⟩ := id hrow
    refine ⟨.ref t3, rfl, t3, _, _, .ref a3, rfl, rfl, k1, atI_nat (j := 0) rfl, a3, _, rfl, .inr k2, _, 400, rfl, rfl, _, rfl, ?_⟩
    rw [List.length_map]
    by_cases e : c.length ≤ 400
    · rw [decide_eq_false (show ¬ ((c.length : Nat) : Int) > 400 by omega)]
      exact iteF ⟨.ref t3, rfl, q2 e H3 t3 s13 hrow⟩
    · rw [decide_eq_true (show ((c.length : Nat) : Int) > 400 by omega)]
      exact iteT ⟨.int (i : Nat), rfl, rfl, (show (1 : Nat) ≤ 1000 by decide), fun dd H2 h1 h2 h3 => q1 (by show 400 < c.length; omega) dd H2 (s13.trans (same_ref h1 h2)) h3⟩
theorem ok_put {f fP fN fW fT C : Addr} {fd fdP fdN fdW fdT : FuncData} {cm : Nat → Addr} {k : Nat} (F : Fun K "put" "put" sPut f fd)
    (FP : Fun K "check_pad" "check_pad" sCpd fP fdP) (bP : Binds K fdP ["book", "pad"] []) (gP : mg "check_pad" = some (.ref fP)) (GP : FnOk P w K mg base (L2.CX P w) k fP fdP ["book", "pad"] (spCpd K C (cm 23)))
    (FN : Fun K "check_note" "check_note" sCnt fN fdN) (bN : Binds K fdN ["book", "pad", "note"] []) (gN : mg "check_note" = some (.ref fN)) (GN : FnOk P w K mg base (L2.CX P w) k fN fdN ["book", "pad", "note"] (spCnt K C (cm 9)))
    (FW : Fun K "with_row" "with_row" sWr fW fdW) (bW : Binds K fdW ["rows", "pad", "row"] []) (gW : mg "with_row" = some (.ref fW)) (GW : FnOk P w K mg base CX0 k fW fdW ["rows", "pad", "row"] (spWr K))
    (FT : Fun K "topped" "topped" sTpd fT fdT) (bT : Binds K fdT ["rows", "pad", "notes"] []) (gT : mg "topped" = some (.ref fT)) (GT : FnOk P w K mg base (L2.CX P w) k fT fdT ["rows", "pad", "notes"] (spTpd K (cm 11))) :
    FnOk P w K mg base (L2.CX P w) (k + 1) f fd nPut (spPut K C cm) := by
  refine F.okX scPut (fun vs H Q E h => ?_) (fun cdv A outer s H vs Q E hr h => ?_)
  · obtain ⟨bk, a, cs, fs, rs, z, x, rfl, _⟩ := h
    rfl
  · obtain ⟨bk, a, cs, fs, rs, z, x, rfl, hB, hR, hrc, hc, hbd, q0, q⟩ := h
    refine ⟨_, pss_cons (ps_expr (pe_call GP hr (by rfl) gP FP.kp bP .nil (passes_call (takes_of rfl rfl rfl rfl) (fun _ _ _ _ h => h)) (pa_cons (pv 0) (pa_cons (pv 2) pa_nil))))
      (pss_cons (ps_expr (pe_call GN hr (by rfl) gN FN.kp bN .nil (passes_call (takes_of rfl rfl rfl rfl) (fun _ _ _ _ h => h)) (pa_cons (pv 0) (pa_cons (pv 2) (pa_cons (pv 3) pa_nil)))))
      (pss_one (ps_ret (pe_call GW hr (by rfl) gW FW.kp bW .nil pass0 (pa_cons (pv 1) (pa_cons (pv 2) (pa_cons (pe_call GT hr (by rfl) gT FT.kp bT .nil (passes_call (takes_of rfl rfl rfl rfl) (fun _ _ _ _ h => h)) (pa_cons (pv 1) (pa_cons (pv 2) (pa_cons (pe_tup (pa_cons (pv 3) pa_nil)) pa_nil)))) pa_nil))))))), ?_⟩
    refine ⟨.ref bk, rfl, .int z, rfl, bk, cs, fs, z, rfl, hB, fun e0 e1 H1 s1 => ?_, fun e => q0 e⟩
    obtain ⟨i, rfl⟩ := Int.eq_ofNat_of_zero_le e0
    have hi : i < cs.length := by omega
    obtain ⟨q1, q2⟩ := q i rfl hi
    refine ⟨.ref bk, rfl, .int (i : Nat), rfl, .int x, rfl, bk, cs, fs, i, x, rfl, hB.same s1, hi, fun hn H2 s2 => ?_, fun hn => (q1 hn).later s1⟩
    have s12 := s1.trans s2
    have gi := List.getElem?_eq_getElem (show i < rs.length by omega)
    have hs := hbd _ (List.mem_of_getElem? gi)
    refine ⟨.ref a, rfl, .int (i : Nat), rfl, .ref a, rfl, .int (i : Nat), rfl, .int x, rfl, (show (1 : Nat) ≤ sizeLine by decide), fun t nt => ?_⟩
    have u := same_upd (o := .tup [V.int x]) nt
    have s2u := s12.trans u
    refine ⟨a, t, rs, i, _, [x], rfl, hR.ts (TS.of s2u), gi, .inr (SqT.of upd_same), (show (1 : Nat) ≤ 400 by decide), hs.1, hs.2, fun l hl => ⟨fun hf => ((q2 hn _ l gi hl).1 hf).later s2u, fun hf H3 p3 s3 hp3 => ?_⟩⟩
    have s23 := s2u.trans s3
    exact ⟨a, p3, rs, i, l, rfl, hR.ts (TS.of s23), by omega, by omega, hp3, fun H4 q4 s4 hq4 => (q2 hn _ l gi hl).2 hf H4 q4 (s23.trans s4) hq4⟩
end
/-! ### t * k where k may be nought -/
theorem tuple_mulN (l : Addr) (items : Array Value) (n : Nat) (dd : Option Addr) (sl : Array (Option Value)) (u : Tok) (c1 : items.isEmpty = false) :
    Meets (Builtin.«tuple.__mul__» ⟨[.ref l, .int 0 u], []⟩) (fun _ R s => s.heap.get? l = some { cls := .type "tuple", dict := dd, data := .seq items n, slots := sl } ∧ R (.ok (.ret (Value.ref s.heap.objs.size))) { s with heap := s.heap.push { cls := Value.type "tuple", data := Data.seq #[] }, toks := s.toks }) :=
  .of_wp fun prog w A R s h => by
    obtain ⟨hp, g, d, tk, os⟩ := s
    obtain ⟨hl, h⟩ := h
    have f1 := AutoSeq1.idx_int
    wp_walk using wpAny_loadPart' hl
    repeat (first
      | (refine wpAny_ite_false (decide_eq_false (by rw [c1]; decide)) ?_; wp_walk using wpAny_loadPart' hl)
      | (refine wpAny_ite_true (decide_eq_true (by rw [c1]; decide)) ?_; wp_walk using wpAny_loadPart' hl))
    exact ⟨_, rfl, h⟩
section
variable {X : Cx}
def rRepZ (K : PySem.W.Frag) : R2 := fun x y H Q => ∃ l xs, x = .ref l ∧ y = .int 0 ∧ SqT K H l xs ∧ xs ≠ [] ∧ ∀ p, H p = none → Q (.ref p) (upd H p (.tup []))
theorem op_repZ : OpR X (binaryOp .Mult) (rRepZ X.K) := by
  intro pins s σ H x y v u Q I rx ry h
  obtain ⟨l, xs, rfl, rfl, hT, hne, q⟩ := h
  cases rx
  obtain ⟨t, rfl⟩ := ry
  obtain ⟨its, r, ⟨⟨cls, dd, data, sl⟩, ho, hc, n, hd⟩, hs⟩ := I.tuple hT
  simp only at hc hd
  subst hc hd
  have hle : its.length = xs.length := r.length.symm
  have hi : its.toArray.isEmpty = false := by
    cases its with
    | nil => exact absurd (List.eq_nil_of_length_eq_zero hle.symm) hne
    | cons a b => rfl
  refine wpAny_binaryOp_repeat_ref (T := "tuple") (U := "int") (by decide) ⟨_, ho, rfl⟩ (fun s' => typeIs_int s' 0 t) noFill_tuple_mul F.fills_int_mul F.slot_int_rmul repeat_tuple F.slot_int_index.lookup
    (call_meets F.slot_int_rmul (typeIs_int s 0 t) F.entry_int_rmul (F.args_int_rmul_2 _ _) (int_rmul_tuple 0 t l its.toArray n dd sl)
      ⟨ho, rfl, ⟨_, ho, rfl⟩, call_meets F.slot_tuple_mul ⟨_, ho, rfl⟩ F.entry_tuple_mul (F.args_tuple_mul_2 _ _) (tuple_mulN l its.toArray n dd sl t hi) ⟨ho, ?_⟩⟩)
  refine ⟨.ref s.heap.objs.size, _, I.laid (t' := s.toks) (o := .tup []) (fun b ob q => Heap.get?_push_of_some _ q) (Nat.le_refl _) ?_, rfl, q _ (I.hok.fresh (Nat.le_refl _))⟩
  exact ⟨Nat.zero_le _, [], .nil, IsTup.new _ _⟩
def rRep0 (K : PySem.W.Frag) : R2 := fun x y H Q => ∃ l k xs, x = .ref l ∧ y = .int k ∧ SqT K H l xs ∧ xs ≠ [] ∧ 0 ≤ k ∧ k ≤ 1000 ∧ xs.length ≤ 1000 ∧ ∀ p H', Same H H' → SqT K H' p (List.replicate k.toNat xs).flatten → Q (.ref p) H'
theorem op_rep0 : OpR X (binaryOp .Mult) (rRep0 X.K) := by
  intro pins s σ H x y v u Q I rx ry h
  obtain ⟨l, k, xs, rfl, rfl, hT, hne, h1, h2, h3, q⟩ := h
  by_cases hk : k = 0
  · subst hk
    refine op_repZ pins s σ H _ _ v u Q I rx ry ⟨l, xs, rfl, rfl, hT, hne, fun p np => q p _ (same_upd np) ?_⟩
    rw [show (List.replicate (0 : Int).toNat xs).flatten = [] by simp]
    exact SqT.of upd_same
  · exact op_repS pins s σ H _ _ v u Q I rx ry ⟨l, k, xs, rfl, rfl, hT, hne, by omega, h2, h3, q⟩
end
/-! ### a least row is no longer -/
theorem lr_lens {xs ts c d : List Int} (h : LR xs ts c d) : c.length ≤ xs.length ∧ d.length ≤ ts.length := by
  rcases h with ⟨_, rfl, rfl⟩ | ⟨_, p, s, hp, _, rfl, rfl⟩
  · exact ⟨Nat.le_refl _, Nat.zero_le _⟩
  · refine ⟨?_, ?_⟩
    · rw [List.length_take]
      omega
    · rw [rot_len, List.length_take]
      omega
/-! ### what comes of a deed, as a function -/
/-- the least row of these notes -/
noncomputable def leastM (r : Row2) : Row2 := @dite _ (∃ l : Row2, LR r.1 r.2 l.1 l.2) (Classical.propDecidable _) (fun h => Classical.choose h) (fun _ => r)
theorem leastM_eq {r l : Row2} (h : LR r.1 r.2 l.1 l.2) : leastM r = l := by
  have e : ∃ l : Row2, LR r.1 r.2 l.1 l.2 := ⟨l, h⟩
  unfold leastM
  rw [dif_pos e]
  obtain ⟨e1, e2⟩ := LR.det (Classical.choose_spec e) h
  exact Prod.ext e1 e2
theorem leastM_lens (r : Row2) : (leastM r).1.length ≤ r.1.length ∧ (leastM r).2.length ≤ r.2.length := by
  by_cases e : ∃ l : Row2, LR r.1 r.2 l.1 l.2
  · obtain ⟨l, h⟩ := e
    rw [leastM_eq h]
    exact lr_lens h
  · unfold leastM
    rw [dif_neg e]
    exact ⟨Nat.le_refl _, Nat.le_refl _⟩
/-- a refusal by its number and values, or the rows behind -/
abbrev Outc := Except (Nat × List Int) (List Row2)
/-- what is asked of a def that answers so -/
def OutQ (K : PySem.W.Frag) (cm : Nat → Addr) : Outc → Hp → VK → XK → Prop
  | .ok ls, H, Q, _ => ∀ H' q, Same H H' → RowsT K H' q ls → Q (.ref q) H'
  | .error (n, ws), H, _, E => refuseN n (cm n) ws H E
theorem OutQ.later {K : PySem.W.Frag} {cm : Nat → Addr} {o : Outc} {H H1 : Hp} {Q : VK} {E : XK} (h : OutQ K cm o H Q E) (s : Same H H1) : OutQ K cm o H1 Q E := by
  cases o with
  | ok ls => exact fun H' q s' hq => h H' q (s.trans s') hq
  | error e => exact refuseN.later h s
/-- a row of a pad is to be another one, if there is room -/
noncomputable def roomM (rs : List Row2) (i : Nat) (r : Row2) : Outc := if 400 < (leastM r).1.length then .error (11, [(i : Int)]) else .ok (rs.set i (leastM r))
/-- notes on top -/
def onTop (rs : List Row2) (i : Nat) (ns : List Int) : Row2 := (ns ++ (rs.getD i ([], [])).1, (rs.getD i ([], [])).2)
/-- a figure with its notes, triple by triple -/
noncomputable def layM : List Row2 → List Tri → List (List Int) → Outc
  | rs, t :: f, ns :: nss => match roomM rs t.1.toNat (onTop rs t.1.toNat ns) with
    | .ok rs' => layM rs' f nss
    | .error e => .error e
  | rs, _, _ => .ok rs
/-- the notes that a figure takes by a triple -/
def takenB (cs : List Int) (t : Tri) (ns : List Int) : Bool := decide ((ns.length : Int) = t.2.2) && decide (ns.getD 0 0 = t.2.1) && notesB cs t.1.toNat ns
def takesB (cs : List Int) (f : List Tri) (nss : List (List Int)) : Bool := decide (nss.length = f.length) && (List.zipWith (takenB cs) f nss).all id
theorem BdR.set {rs : List Row2} {i : Nat} {l : Row2} (h : BdR rs) (h1 : l.1.length ≤ 400) (h2 : l.2.length ≤ 1000) : BdR (rs.set i l) := fun r hr => by
  rcases List.mem_or_eq_of_mem_set hr with h' | h'
  · exact h r h'
  · rw [h']
    exact ⟨h1, h2⟩
theorem roomM_ok {rs ls : List Row2} {i : Nat} {r : Row2} (h : roomM rs i r = .ok ls) : (leastM r).1.length ≤ 400 ∧ ls = rs.set i (leastM r) := by
  unfold roomM at h
  by_cases e : 400 < (leastM r).1.length
  · rw [if_pos e] at h
    cases h
  · rw [if_neg e] at h
    exact ⟨by omega, (Except.ok.inj h).symm⟩
theorem roomM_bd {rs ls : List Row2} {i : Nat} {r : Row2} (h : roomM rs i r = .ok ls) (hb : BdR rs) (h2 : r.2.length ≤ 1000) : BdR ls ∧ ls.length = rs.length := by
  obtain ⟨h1, rfl⟩ := roomM_ok h
  exact ⟨hb.set h1 (Nat.le_trans (leastM_lens r).2 h2), List.length_set ..⟩
/-! ### is_taken, lay_notes, lay -/
theorem rIx_A {K : PySem.W.Frag} {H : Hp} {p : Addr} {xs : List V} {i : Int} {v : V} {Q : VK} (h : SqA K H p xs) (g : atI xs i = some v) (q : Q v H) : rIx K (.ref p) (.int i) H Q := by
  rcases h with h | h
  · exact .inl ⟨p, xs, i, v, rfl, rfl, h, g, q⟩
  · exact .inr (.inl ⟨p, xs, i, v, rfl, rfl, h, g, q⟩)
abbrev nIst : List Str := ["book", "triple", "notes", "pad", "note", "depth"]
theorem scIst : FnScope nIst ["book", "triple", "notes"] (defScope sIst) := ⟨rfl, rfl, rfl, by decide +kernel, rfl, by decide +kernel, by decide +kernel⟩
def spIst (K : PySem.W.Frag) (C : Addr) : Sp := fun vs H Q _ => ∃ (bk p : Addr) (v : V) (cs : List Int) (fs : List (List Tri)) (t : Tri) (ns : List Int), vs = [.ref bk, v, .ref p] ∧ BookAt K C H bk cs fs ∧ TriAt K H v t ∧ SqA K H p (ns.map V.int) ∧ ns.length ≤ 1000 ∧ 1 ≤ t.2.2 ∧ 0 ≤ t.1 ∧ t.1 < (cs.length : Int) ∧ ∀ H', Same H H' → Q (.bl (takenB cs t ns)) H'
section
variable {P : Program} {w : World} {K : PySem.W.Frag} {mg : Str → Option Value} {base : Heap}
theorem ok_ist {f fA C : Addr} {fd fdA : FuncData} {k : Nat} (F : Fun K "is_taken" "is_taken" sIst f fd) (ml : mg "len" = none)
    (FA : Fun K "are_notes" "are_notes" sAn fA fdA) (bA : Binds K fdA ["book", "pad", "notes"] []) (gA : mg "are_notes" = some (.ref fA)) (GA : FnOk P w K mg base CX0 k fA fdA ["book", "pad", "notes"] (spAn K C)) : FnOk P w K mg base CX0 (k + 1) f fd ["book", "triple", "notes"] (spIst K C) := by
  refine F.ok scIst (fun vs H Q E h => ?_) (fun cdv A outer s H vs Q E hr h => ?_)
  · obtain ⟨bk, p, v, cs, fs, t, ns, rfl, _⟩ := h
    rfl
  · obtain ⟨bk, p, v, cs, fs, t, ns, rfl, hB, ⟨ta, rfl, hT⟩, hp, hl, h1, h2, h3, q⟩ := h
    refine ⟨_, pss_cons (ps_asg (pv 1) (pg_tup (by rfl) (pgs_cons (pg_name (i := 3) scIst.nd rfl (.inl rfl)) (pgs_cons (pg_name (i := 4) scIst.nd rfl (.inl rfl)) (pgs_cons (pg_name (i := 5) scIst.nd rfl (.inl rfl)) pgs_nil)))))
      (pss_one (ps_ret (pe_and (pe_cmpR op_eq (pe_callB call_lenQ (by rfl) ml PySem.boot_len (pa_cons (pv 2) pa_nil)) (pv 5) (nomark _)) (pe_and (pe_cmpR op_eq (pe_ix (r := rIx K) ix_seq (pv 2) pe_int (fun _ _ => rfl)) (pv 4) (nomark _)) (pe_one (pe_call GA hr (by rfl) gA FA.kp bA .nil pass0 (pa_cons (pv 0) (pa_cons (pv 3) (pa_cons (pv 2) pa_nil))))))))), ?_⟩
    refine ⟨.ref ta, rfl, ta, _, rfl, hT, rfl, _, _, rfl, _, _, rfl, _, _, rfl, rfl, ?_⟩
    refine ⟨.ref p, rfl, p, _, rfl, hp, .int t.2.2, rfl, rfl, _, rfl, ?_⟩
    rw [List.length_map]
    have e0 : takenB cs t ns = (decide ((ns.length : Int) = t.2.2) && decide (ns.getD 0 0 = t.2.1) && notesB cs t.1.toNat ns) := rfl
    by_cases e1 : ((ns.length : Nat) : Int) = t.2.2
    rotate_left
    · rw [decide_eq_false (fun z => e1 (V.int.inj z))]
      refine iteF ?_
      have := q H (Same.refl H)
      rw [e0, decide_eq_false e1] at this
      exact this
    rw [decide_eq_true (congrArg V.int e1)]
    refine iteT ⟨.ref p, rfl, ?_⟩
    have hlen : 0 < ns.length := by omega
    have g0 : atI (ns.map V.int) 0 = some (.int (ns.getD 0 0)) := atI_nat (j := 0) (by rw [List.getElem?_map, List.getD_eq_getElem?_getD, List.getElem?_eq_getElem hlen]; rfl)
    refine rIx_A hp g0 ⟨.int t.2.1, rfl, rfl, _, rfl, ?_⟩
    by_cases e2 : ns.getD 0 0 = t.2.1
    rotate_left
    · rw [decide_eq_false (fun z => e2 (V.int.inj z))]
      refine iteF ?_
      have := q H (Same.refl H)
      rw [e0, decide_eq_false e2, Bool.and_false, Bool.false_and] at this
      exact this
    rw [decide_eq_true (congrArg V.int e2)]
    have e3 : t.1 = (t.1.toNat : Int) := by omega
    refine iteT ⟨.ref bk, rfl, .int t.1, rfl, .ref p, rfl, bk, p, cs, fs, t.1.toNat, ns, by rw [← e3]; rfl, hB, by omega, hp, hl, fun H1 s1 => ?_⟩
    have := q H1 s1
    rw [e0, decide_eq_true e1, decide_eq_true e2] at this
    exact this
end
/-! ### lay_notes, lay -/
abbrev nLyn : List Str := ["book", "rows", "figure", "notes", "shape", "some", "pad", "note", "depth", "triple"]
theorem scLyn : FnScope nLyn ["book", "rows", "figure", "notes"] (defScope sLyn) := ⟨rfl, rfl, rfl, by decide +kernel, rfl, by decide +kernel, by decide +kernel⟩
/-- lists or tuples of notes -/
def NotesT (K : PySem.W.Frag) (H : Hp) (v : V) (ns : List Int) : Prop := ∃ x, v = V.ref x ∧ SqA K H x (ns.map V.int)
theorem NotesT.same {K : PySem.W.Frag} {H H' : Hp} {v : V} {ns : List Int} (h : NotesT K H v ns) (s : Same H H') : NotesT K H' v ns := by
  obtain ⟨x, e, h⟩ := h
  exact ⟨x, e, h.seq s⟩
def spLyn (K : PySem.W.Frag) (C : Addr) (cm : Nat → Addr) : Sp := fun vs H Q E => ∃ (bk a p : Addr) (cs : List Int) (fs : List (List Tri)) (rs : List Row2) (z : Int) (xs : List V) (nss : List (List Int)), vs = [.ref bk, .ref a, .int z, .ref p] ∧ BookAt K C H bk cs fs ∧ RowsT K H a rs ∧ rs.length = cs.length ∧ cs.length ≤ 100 ∧ BdR rs ∧ (∀ f ∈ fs, GoodF cs f) ∧
  SqL K H p xs ∧ All2 (NotesT K H) xs nss ∧ nss.length ≤ 1000 ∧ (∀ ns ∈ nss, ns.length ≤ 1000) ∧
  (¬ (0 ≤ z ∧ z < (fs.length : Int)) → refuseN 24 (cm 24) [z] H E) ∧ (∀ i : Nat, z = (i : Int) → i < fs.length → (takesB cs (fs.getD i []) nss = false → refuseN 10 (cm 10) [] H E) ∧ (takesB cs (fs.getD i []) nss = true → OutQ K cm (layM rs (fs.getD i []) nss) H Q E))
theorem layM_drop {rs : List Row2} {f : List Tri} {nss : List (List Int)} {i : Nat} {t : Tri} {ns : List Int} (h1 : f[i]? = some t) (h2 : nss[i]? = some ns) : layM rs (f.drop i) (nss.drop i) = match roomM rs t.1.toNat (onTop rs t.1.toNat ns) with
    | .ok rs' => layM rs' (f.drop (i + 1)) (nss.drop (i + 1))
    | .error e => .error e := by
  obtain ⟨g1, e1⟩ := List.getElem?_eq_some_iff.mp h1
  obtain ⟨g2, e2⟩ := List.getElem?_eq_some_iff.mp h2
  rw [List.drop_eq_getElem_cons g1, List.drop_eq_getElem_cons g2, e1, e2]
  rfl
theorem goodF_get {cs : List Int} {fs : List (List Tri)} (h : ∀ f ∈ fs, GoodF cs f) {i : Nat} (hi : i < fs.length) : GoodF cs (fs.getD i []) := by
  rw [List.getD_eq_getElem?_getD, List.getElem?_eq_getElem hi]
  exact h _ (List.getElem_mem hi)
section
variable {P : Program} {w : World} {K : PySem.W.Frag} {mg : Str → Option Value} {base : Heap}
theorem ok_lyn {f fSh fT fW fP C : Addr} {fd fdSh fdT fdW fdP : FuncData} {cm : Nat → Addr} {k : Nat} (F : Fun K "lay_notes" "lay_notes" sLyn f fd) (TB : BkTxt K mg C) (ml : mg "len" = none) (ma : mg "all" = none) (mz : mg "zip" = none)
    (bSh : Binds K fdSh ["self", "at"] []) (mSh : Meth K C "shape" fSh) (GSh : FnOk P w K mg base (L2.CX P w) (k + 1) fSh fdSh ["self", "at"] (spShpX K C (cm 24)))
    (FT : Fun K "is_taken" "is_taken" sIst fT fdT) (bT : Binds K fdT ["book", "triple", "notes"] []) (gT : mg "is_taken" = some (.ref fT)) (GT : FnOk P w K mg base CX0 (k + 1) fT fdT ["book", "triple", "notes"] (spIst K C))
    (FW : Fun K "with_row" "with_row" sWr fW fdW) (bW : Binds K fdW ["rows", "pad", "row"] []) (gW : mg "with_row" = some (.ref fW)) (GW : FnOk P w K mg base CX0 (k + 1) fW fdW ["rows", "pad", "row"] (spWr K))
    (FP : Fun K "topped" "topped" sTpd fP fdP) (bP : Binds K fdP ["rows", "pad", "notes"] []) (gP : mg "topped" = some (.ref fP)) (GP : FnOk P w K mg base (L2.CX P w) (k + 1) fP fdP ["rows", "pad", "notes"] (spTpd K (cm 11)))
    (R : exc0 "BadBeneath" (cm 10) P w K mg base k) : FnOk P w K mg base (L2.CX P w) (k + 2) f fd ["book", "rows", "figure", "notes"] (spLyn K C cm) := by
  refine F.okX scLyn (fun vs H Q E h => ?_) (fun cdv A outer s H vs Q E hr h => ?_)
  · obtain ⟨bk, a, p, cs, fs, rs, z, xs, nss, rfl, _⟩ := h
    rfl
  · obtain ⟨bk, a, p, cs, fs, rs, z, xs, nss, rfl, hB, hR, hrc, hc, hbd, hG, hp, hA, hnl, hns, q0, q⟩ := h
    refine ⟨_, pss_cons (ps_set (i := 4) scLyn.nd rfl (.inl rfl) (pe_meth (pv 0) TB.cl mSh GSh hr bSh .nil (passes_call (takes_of rfl rfl rfl rfl) (fun _ _ _ _ h => h)) (pa_cons (pv 2) pa_nil)))
      (pss_cons (ps_if (PW.pt (pw_or (pt_cmpR op_ne (pe_callB call_lenQ (by rfl) ml PySem.boot_len (pa_cons (pv 3) pa_nil)) (pe_callB call_lenQ (by rfl) ml PySem.boot_len (pa_cons (pv 4) pa_nil)) (nomark _)) (pw_or1 (pt_not (pt_val (pe_callB (cr_all rfl) (by rfl) ma (by decide +kernel) (pa_cons (pe_lc (own := [("triple", 9), ("some", 5)]) (g := g2 K 9 5) (tt := tYes) rfl scLyn.nd (pi_ztl (by rfl) mz (pa_cons (pv 4) (pa_cons (pv 3) pa_nil))) (blkOk_by (own := [("triple", 9), ("some", 5)]) (N := nLyn) (sc := defScope sLyn) (by decide +kernel)) (fun _ _ _ _ _ => pg_tup (by rfl) (pgs_cons (pg_name (i := 9) scLyn.nd rfl (.inl rfl)) (pgs_cons (pg_name (i := 5) scLyn.nd rfl (.inl rfl)) pgs_nil))) (fun _ _ _ _ _ => pts_nil) (fun _ _ _ _ _ => pe_call GT hr (by rfl) gT FT.kp bT .nil pass0 (pa_cons (pv 0) (pa_cons (pv 9) (pa_cons (pv 5) pa_nil))))) pa_nil))))))) (pss_one (ps_raise rfl (takes_of rfl rfl rfl rfl) (pmk_ref0 R hr (by rfl)))) pss_nil)
      (pss_cons (ps_for (passes_of rfl) rfl (pi_ztl (by rfl) mz (pa_cons (pv 4) (pa_cons (pv 3) pa_nil))) (pg_tup (by rfl) (pgs_cons (pg_tup (by rfl) (pgs_cons (pg_name (i := 6) scLyn.nd rfl (.inl rfl)) (pgs_cons (pg_name (i := 7) scLyn.nd rfl (.inl rfl)) (pgs_cons (pg_name (i := 8) scLyn.nd rfl (.inl rfl)) pgs_nil)))) (pgs_cons (pg_name (i := 5) scLyn.nd rfl (.inl rfl)) pgs_nil))) (pss_one (ps_set (i := 1) scLyn.nd rfl (.inl rfl) (pe_call GW hr (by rfl) gW FW.kp bW .nil pass0 (pa_cons (pv 1) (pa_cons (pv 6) (pa_cons (pe_call GP hr (by rfl) gP FP.kp bP .nil (passes_call (takes_of rfl rfl rfl rfl) (fun _ _ _ _ h => h)) (pa_cons (pv 1) (pa_cons (pv 6) (pa_cons (pv 5) pa_nil)))) pa_nil)))))))
      (pss_one (ps_ret (pv 1))))), ?_⟩
    obtain ⟨dx, a0, b0, xs0, hbk, _⟩ := id hB
    refine ⟨.ref bk, rfl, bk, dx, _, rfl, hbk, rfl, .int z, rfl, bk, cs, fs, z, rfl, hB, fun i ei hi v hv => ?_, fun e => q0 e⟩
    subst ei
    obtain ⟨q1, q2⟩ := q i rfl hi
    have hg := goodF_get hG hi
    generalize fs.getD i [] = fg at q1 q2 hg hv
    obtain ⟨fa, ts, rfl, hT, hTA⟩ := hv
    have hfl := hg.len
    have htl := hTA.len
    have hxl := hA.len
    have e0 : takesB cs fg nss = (decide (nss.length = fg.length) && (List.zipWith (takenB cs) fg nss).all id) := rfl
    refine ⟨.ref p, rfl, p, _, rfl, .inl hp, .ref fa, rfl, fa, _, rfl, .inr hT, rfl, _, rfl, ite2 (fun e => ?_) (fun e => ?_)⟩
    · have hne : ¬ nss.length = fg.length := fun z => by
        rw [htl, hxl, z, decide_eq_true rfl] at e
        cases e
      exact iteT ⟨rfl, Nat.zero_le _, fun dd H2 z1 z2 z3 => q1 (by rw [e0, decide_eq_false hne]; rfl) dd H2 (same_ref z1 z2) z3⟩
    have hne : nss.length = fg.length := by
      by_cases z : ((xs.length : Nat) : Int) = ((ts.length : Nat) : Int)
      · omega
      · exact absurd (by rw [decide_eq_false (fun y => z (V.int.inj y))]; rfl) e
    have zl : (List.zipWith (takenB cs) fg nss).length = fg.length := by rw [List.length_zipWith]; omega
    refine ⟨.ref fa, rfl, .ref p, rfl, fa, p, ts, xs, rfl, hT, hp, fun D nD => ?_⟩
    refine lc_it (walk_ztl (K := K) (a := fa) (b := p) (xs := ts) (ys := xs) (n := fg.length) htl (by omega)) (fun j H' => Same H H' ∧ H' D = some (.lst (((List.zipWith (takenB cs) fg nss).take j).map V.bl))) ⟨same_upd nD, upd_same⟩ (fun j H' _ hP => ⟨Same.tup hP.1 hT, hP.1.seq hp⟩) (fun j v H' H'' hj hP hY => ?_) (fun H1 hP => ?_)
    · obtain ⟨sm, hD⟩ := hP
      obtain ⟨T0, x, y, rfl, nT, rfl, hx, hy⟩ := hY
      have uT := same_upd (o := .tup [x, y]) nT
      obtain ⟨t, ht, hta⟩ := hTA.get hx
      obtain ⟨ns, hn, b, rfl, hb⟩ := hA.get hy
      have gt := hg.all t (List.mem_of_getElem? ht)
      have smu := sm.trans uT
      refine ⟨T0, _, rfl, SqT.of upd_same, rfl, _, _, rfl, _, _, rfl, rfl, rfl, yesT ⟨.ref bk, rfl, x, rfl, .ref b, rfl, bk, b, x, cs, fs, t, ns, rfl, hB.same smu, hta.ts (TS.of smu), hb.seq smu, hns _ (List.mem_of_getElem? hn), gt.d0, gt.p0, gt.p1, fun H2 s2 => ⟨_, s2 _ _ (uT _ _ hD), ?_, Same.offUpd (smu.trans s2) nD, ?_⟩⟩⟩
      · rw [List.length_map, List.length_take]
        exact small1000 (by omega)
      · have hz : (List.zipWith (takenB cs) fg nss)[j]? = some (takenB cs t ns) := by
          rw [List.getElem?_zipWith, ht, hn]
        rw [upd_same, take_snoc hz, List.map_append]
        rfl
    obtain ⟨s1, hD⟩ := hP
    rw [List.take_of_length_le (by omega)] at hD
    refine ⟨D, _, rfl, SqL.of hD, _, rfl, ?_⟩
    cases ht : (List.zipWith (takenB cs) fg nss).all id with
    | false => exact iteT ⟨rfl, Nat.zero_le _, fun dd H2 z1 z2 z3 => q1 (by rw [e0, ht, Bool.and_false]) dd H2 (s1.trans (same_ref z1 z2)) z3⟩
    | true =>
      have qq := q2 (by rw [e0, ht, decide_eq_true hne]; rfl)
      have dep : ∀ (j : Nat) (t : Tri) (ns : List Int), fg[j]? = some t → nss[j]? = some ns → ns.length ≤ 400 := fun j t ns h1 h2 => by
        have gt := hg.all t (List.mem_of_getElem? h1)
        have hz : (List.zipWith (takenB cs) fg nss)[j]? = some (takenB cs t ns) := by
          rw [List.getElem?_zipWith, h1, h2]
        have := List.all_eq_true.mp ht _ (List.mem_of_getElem? hz)
        unfold takenB at this
        simp only [id, Bool.and_eq_true, decide_eq_true_eq] at this
        have := gt.d1
        omega
      refine iteF ⟨.ref fa, rfl, .ref p, rfl, fa, p, ts, xs, rfl, Same.tup s1 hT, s1.seq hp, ?_⟩
      refine for_it (walk_ztl (K := K) (a := fa) (b := p) (xs := ts) (ys := xs) (n := fg.length) htl (by omega)) (fun j σ H' => ∃ (pl : Addr) (ls : List Row2) (y5 y6 y7 y8 y9 : Option V), σ = [some (.ref bk), some (.ref pl), some (.int (i : Nat)), some (.ref p), some (.ref fa), y5, y6, y7, y8, y9] ∧ Same H H' ∧ RowsT K H' pl ls ∧ ls.length = rs.length ∧ BdR ls ∧ layM rs fg nss = layM ls (fg.drop j) (nss.drop j))
        ⟨a, rs, _, _, _, _, _, rfl, s1, hR.ts (TS.of s1), rfl, hbd, rfl⟩ (fun j σ H' _ hP => ?_) (fun j v σ H' H'' hj hP hY => ?_) (fun σ H' hP => ?_)
      · obtain ⟨pl, ls, y5, y6, y7, y8, y9, _, sm, _⟩ := hP
        exact ⟨Same.tup sm hT, sm.seq hp⟩
      · obtain ⟨pl, ls, y5, y6, y7, y8, y9, rfl, sm, hR1, hl1, hb1, hlay⟩ := hP
        obtain ⟨T0, x, y, rfl, nT, rfl, hx, hy⟩ := hY
        have uT := same_upd (o := .tup [x, y]) nT
        obtain ⟨t, ht1, ta, rfl, hta⟩ := hTA.get hx
        obtain ⟨ns, hn, b, rfl, hb⟩ := hA.get hy
        have gt := hg.all t (List.mem_of_getElem? ht1)
        have hnl4 := dep j t ns ht1 hn
        have smu := sm.trans uT
        have tp : t.1 = (t.1.toNat : Int) := by have := gt.p0; omega
        have tl : t.1.toNat < ls.length := by have := gt.p1; omega
        rw [layM_drop ht1 hn] at hlay
        have gi := List.getElem?_eq_getElem tl
        have hsz := hb1 _ (List.mem_of_getElem? gi)
        have hdd : ls.getD t.1.toNat ([], []) = ls[t.1.toNat] := by rw [List.getD_eq_getElem?_getD, gi]; rfl
        have hot : onTop ls t.1.toNat ns = (ns ++ (ls[t.1.toNat]).1, (ls[t.1.toNat]).2) := by unfold onTop; rw [hdd]
        refine ⟨T0, _, rfl, SqT.of upd_same, rfl, _, _, rfl, ta, _, rfl, Same.tup smu hta, rfl, _, _, rfl, _, _, rfl, _, _, rfl, rfl, _, _, rfl, rfl, ?_⟩
        refine ⟨.ref pl, rfl, .int t.1, rfl, .ref pl, rfl, .int t.1, rfl, .ref b, rfl, pl, b, ls, t.1.toNat, _, ns, by rw [← tp]; rfl, hR1.ts (TS.of uT), gi, hb.seq smu, hnl4, hsz.1, hsz.2, fun l hlr => ⟨fun hbig => ?_, fun hsm H2 u2 s2 hrow => ?_⟩⟩
        · have : roomM ls t.1.toNat (onTop ls t.1.toNat ns) = .error (11, [(t.1.toNat : Int)]) := by
            unfold roomM
            rw [hot, leastM_eq (r := (ns ++ (ls[t.1.toNat]).1, (ls[t.1.toNat]).2)) hlr, if_pos hbig]
          rw [this] at hlay
          rw [hlay] at qq
          exact refuseN.later qq smu
        · have hrm : roomM ls t.1.toNat (onTop ls t.1.toNat ns) = .ok (ls.set t.1.toNat l) := by
            unfold roomM
            rw [hot, leastM_eq (r := (ns ++ (ls[t.1.toNat]).1, (ls[t.1.toNat]).2)) hlr, if_neg (by omega)]
          rw [hrm] at hlay
          have s12 := smu.trans s2
          exact ⟨pl, u2, ls, t.1.toNat, l, by rw [← tp]; rfl, (hR1.ts (TS.of uT)).ts (TS.of s2), by omega, tl, hrow, fun H3 u3 s3 hu3 => ⟨u3, ls.set t.1.toNat l, _, _, _, _, _, rfl, s12.trans s3, hu3, by rw [List.length_set, hl1], hb1.set hsm (Nat.le_trans (lr_lens hlr).2 hsz.2), hlay⟩⟩
      · obtain ⟨pl, ls, y5, y6, y7, y8, y9, rfl, sm, hR1, hl1, hb1, hlay⟩ := hP
        rw [List.drop_of_length_le (Nat.le_refl _)] at hlay
        have e1 : layM ls [] (nss.drop fg.length) = .ok ls := by unfold layM; rfl
        rw [hlay, e1] at qq
        exact ⟨.ref pl, rfl, qq H' pl sm hR1⟩
end
abbrev nLay : List Str := ["book", "rows", "figure", "beneath", "shape", "under", "pad", "note", "depth", "triple", "notes"]
theorem scLay : FnScope nLay ["book", "rows", "figure", "beneath"] (defScope sLay) := ⟨rfl, rfl, rfl, by decide +kernel, rfl, by decide +kernel, by decide +kernel⟩
/-- noughts beneath -/
def zeros (f : List Tri) : List (List Int) := f.map fun t => List.replicate (t.2.2 - 1).toNat 0
/-- all notes, from the top -/
def fullN (f : List Tri) (us : List (List Int)) : List (List Int) := List.zipWith (fun (t : Tri) (u : List Int) => t.2.1 :: u) f us
/-- what comes of a figure that is put on -/
noncomputable def laidM (cs : List Int) (rs : List Row2) (f : List Tri) (us : List (List Int)) : Outc := if us.length = f.length ∧ takesB cs f (fullN f us) = true then layM rs f (fullN f us) else .error (10, [])
/-- what is handed in beneath: nothing, or a list of lists or tuples -/
def BenT (K : PySem.W.Frag) (H : Hp) (v : V) : Option (List (List Int)) → Prop
  | none => v = .non
  | some us => ∃ p xs, v = .ref p ∧ SqL K H p xs ∧ All2 (NotesT K H) xs us ∧ us.length ≤ 1000 ∧ ∀ u ∈ us, u.length ≤ 900
def spLay (K : PySem.W.Frag) (C : Addr) (cm : Nat → Addr) : Sp := fun vs H Q E => ∃ (bk a : Addr) (v : V) (cs : List Int) (fs : List (List Tri)) (rs : List Row2) (z : Int) (uo : Option (List (List Int))), vs = [.ref bk, .ref a, .int z, v] ∧ BookAt K C H bk cs fs ∧ RowsT K H a rs ∧ rs.length = cs.length ∧ cs.length ≤ 100 ∧ BdR rs ∧ (∀ f ∈ fs, GoodF cs f) ∧ BenT K H v uo ∧
  (¬ (0 ≤ z ∧ z < (fs.length : Int)) → refuseN 24 (cm 24) [z] H E) ∧ (∀ i : Nat, z = (i : Int) → i < fs.length → OutQ K cm (laidM cs rs (fs.getD i []) (uo.getD (zeros (fs.getD i [])))) H Q E)
section
variable {P : Program} {w : World} {K : PySem.W.Frag} {mg : Str → Option Value} {base : Heap}
theorem flatR {α : Type} (x : α) : ∀ n : Nat, (List.replicate n [x]).flatten = List.replicate n x
  | 0 => rfl
  | n + 1 => by rw [List.replicate_succ, List.flatten_cons, flatR x n]; rfl
theorem ok_lay {f fSh fN C : Addr} {fd fdSh fdN : FuncData} {cm : Nat → Addr} {k : Nat} (F : Fun K "lay" "lay" sLay f fd) (TB : BkTxt K mg C) (ml : mg "len" = none) (mz : mg "zip" = none)
    (bSh : Binds K fdSh ["self", "at"] []) (mSh : Meth K C "shape" fSh) (GSh : FnOk P w K mg base (L2.CX P w) (k + 1) fSh fdSh ["self", "at"] (spShpX K C (cm 24)))
    (FN : Fun K "lay_notes" "lay_notes" sLyn fN fdN) (bN : Binds K fdN ["book", "rows", "figure", "notes"] []) (gN : mg "lay_notes" = some (.ref fN)) (GN : FnOk P w K mg base (L2.CX P w) (k + 1) fN fdN ["book", "rows", "figure", "notes"] (spLyn K C cm))
    (R : exc0 "BadBeneath" (cm 10) P w K mg base k) : FnOk P w K mg base (L2.CX P w) (k + 2) f fd ["book", "rows", "figure", "beneath"] (spLay K C cm) := by
  refine F.okX scLay (fun vs H Q E h => ?_) (fun cdv A outer s H vs Q E hr h => ?_)
  · obtain ⟨bk, a, v, cs, fs, rs, z, uo, rfl, _⟩ := h
    rfl
  · obtain ⟨bk, a, v, cs, fs, rs, z, uo, rfl, hB, hR, hrc, hc, hbd, hG, hv, q0, q⟩ := h
    refine ⟨_, pss_cons (ps_set (i := 4) scLay.nd rfl (.inl rfl) (pe_meth (pv 0) TB.cl mSh GSh hr bSh .nil (passes_call (takes_of rfl rfl rfl rfl) (fun _ _ _ _ h => h)) (pa_cons (pv 2) pa_nil)))
      (C8.pss_cut (ps_set (i := 5) scLay.nd rfl (.inl rfl) (pe_ifExp (pt_cmp (pc_isN (pv 3))) (pe_lc (own := [("pad", 6), ("note", 7), ("depth", 8)]) (g := g3 K 6 7 8) (tt := tYes) rfl scLay.nd (pi_tup (pv 4)) (blkOk_by (own := [("pad", 6), ("note", 7), ("depth", 8)]) (N := nLay) (sc := defScope sLay) (by decide +kernel)) (fun _ _ _ _ _ => pg_tup (by rfl) (pgs_cons (pg_name (i := 6) scLay.nd rfl (.inl rfl)) (pgs_cons (pg_name (i := 7) scLay.nd rfl (.inl rfl)) (pgs_cons (pg_name (i := 8) scLay.nd rfl (.inl rfl)) pgs_nil)))) (fun _ _ _ _ _ => pts_nil) (fun _ _ _ _ _ => pe_op (r := rRep0 K) op_rep0 (pe_tup (pa_cons pe_int pa_nil)) (pe_op op_sub (pv 8) pe_int))) (pv 3)))
      (pss_cons (ps_if (pt_cmpR op_ne (pe_callB call_lenQ (by rfl) ml PySem.boot_len (pa_cons (pv 5) pa_nil)) (pe_callB call_lenQ (by rfl) ml PySem.boot_len (pa_cons (pv 4) pa_nil)) (nomark _)) (pss_one (ps_raise rfl (takes_of rfl rfl rfl rfl) (pmk_ref0 R hr (by rfl)))) pss_nil)
      (pss_one (ps_ret (pe_call GN hr (by rfl) gN FN.kp bN .nil (passes_call (takes_of rfl rfl rfl rfl) (fun _ _ _ _ h => h)) (pa_cons (pv 0) (pa_cons (pv 1) (pa_cons (pv 2) (pa_cons (pe_lc (own := [("triple", 9), ("notes", 10)]) (g := g2 K 9 10) (tt := tYes) rfl scLay.nd (pi_ztl (by rfl) mz (pa_cons (pv 4) (pa_cons (pv 5) pa_nil))) (blkOk_by (own := [("triple", 9), ("notes", 10)]) (N := nLay) (sc := defScope sLay) (by decide +kernel)) (fun _ _ _ _ _ => pg_tup (by rfl) (pgs_cons (pg_name (i := 9) scLay.nd rfl (.inl rfl)) (pgs_cons (pg_name (i := 10) scLay.nd rfl (.inl rfl)) pgs_nil))) (fun _ _ _ _ _ => pts_nil) (fun _ _ _ _ _ => pe_tup (t := tCons (tOp (rIx K) (tVar 9) (tC (.int 1))) (StX.tStar K (tVar 10) tNil)) (pa_cons (pe_ix (r := rIx K) ix_seq (pv 9) pe_int (fun _ _ => rfl)) (StX.pa_star (pv 10) pa_nil)))) pa_nil))))))))), ?_⟩
    obtain ⟨dx, a0, b0, xs0, hbk, _⟩ := id hB
    refine ⟨.ref bk, rfl, bk, dx, _, rfl, hbk, rfl, .int z, rfl, bk, cs, fs, z, rfl, hB, fun i ei hi sv hsv => ?_, fun e => q0 e⟩
    subst ei
    have q1 := q i rfl hi
    have hg := goodF_get hG hi
    generalize efg : fs.getD i [] = fg at q1 hg hsv
    obtain ⟨fa, ts, rfl, hT, hTA⟩ := hsv
    have hfl := hg.len
    have htl := hTA.len
    have hdep : ∀ (j : Nat) (t : Tri), fg[j]? = some t → 1 ≤ t.2.2 ∧ t.2.2 ≤ 3 := fun j t h => ⟨(hg.all t (List.mem_of_getElem? h)).d0, (hg.all t (List.mem_of_getElem? h)).d1⟩
    refine ⟨fun σ' H' => ∃ (und : Addr) (xs : List V) (us : List (List Int)) (y6 y7 y8 y9 y10 : Option V), σ' = [some (.ref bk), some (.ref a), some (.int (i : Nat)), some v, some (.ref fa), some (.ref und), y6, y7, y8, y9, y10] ∧ Same H H' ∧ SqL K H' und xs ∧ All2 (NotesT K H') xs us ∧ us.length ≤ 1000 ∧ (∀ u ∈ us, u.length ≤ 900) ∧ OutQ K cm (laidM cs rs fg us) H Q E, ?_, ?_⟩
    · cases uo with
      | some us =>
        obtain ⟨p, xs, rfl, hp, hA, h1, h2⟩ := hv
        refine ⟨.ref p, rfl, _, rfl, ite2 (fun e => absurd (of_decide_eq_true e) (fun z => nomatch z)) (fun _ => ?_)⟩
        exact ⟨.ref p, rfl, p, xs, us, _, _, _, _, _, rfl, Same.refl H, hp, hA, h1, h2, q1⟩
      | none =>
        obtain rfl := hv
        refine ⟨.non, rfl, _, rfl, ite2 (fun _ => ?_) (fun e => absurd (by rfl) e)⟩
        refine ⟨.ref fa, rfl, fa, rfl, ⟨_, hT⟩, fun D nD => ?_⟩
        refine lc_tup (xs := ts) (fun j H' => Same H H' ∧ ∃ xs, H' D = some (.lst xs) ∧ All2 (fun v ns => ∃ x, v = V.ref x ∧ SqT K H' x (ns.map V.int)) xs ((zeros fg).take j)) ⟨same_upd nD, [], upd_same, True.intro⟩ (fun j H' _ hP => Same.tup hP.1 hT) (fun j x H' hx hP => ?_) (fun H1 hP => ?_)
        · obtain ⟨sm, zs, hD, hA⟩ := hP
          obtain ⟨t, ht, ta, rfl, hta⟩ := hTA.get hx
          have hd := hdep j t ht
          refine ⟨ta, _, rfl, Same.tup sm hta, rfl, _, _, rfl, _, _, rfl, _, _, rfl, rfl, rfl, yesT ⟨(show (1 : Nat) ≤ sizeLine by decide), fun t1 n1 => ?_⟩⟩
          have u1 := same_upd (o := .tup [V.int 0]) n1
          refine ⟨.int t.2.2, rfl, _, _, rfl, rfl, t1, t.2.2 - 1, _, rfl, rfl, SqT.of upd_same, (fun z => nomatch z), by omega, by omega, (show (1 : Nat) ≤ 1000 by decide), fun q0 H2 s2 hq => ?_⟩
          have hjl := (List.getElem?_eq_some_iff.mp ht).1
          have hz : (zeros fg)[j]? = some (List.replicate (t.2.2 - 1).toNat 0) := by
            unfold zeros
            rw [List.getElem?_map, ht]
            rfl
          have hD2 := s2 _ _ (u1 _ _ hD)
          have hzl := hA.len
          rw [List.length_take] at hzl
          refine ⟨_, hD2, ?_, Same.offUpd (sm.trans (u1.trans s2)) nD, _, upd_same, ?_⟩
          · exact small1000 (by omega)
          · rw [take_snoc hz]
            have tD : TS K H2 (upd H2 D (.lst (zs ++ [.ref q0]))) := TS.upd hD2
            refine All2.snoc ⟨q0, rfl, ?_⟩ (hA.mono fun v ns ⟨x, e, h⟩ => ⟨x, e, tD _ _ (Same.tup (u1.trans s2) h)⟩)
            · rw [flatR] at hq
              rw [List.map_replicate]
              exact tD _ _ hq
        · obtain ⟨s1, zs, hD, hA⟩ := hP
          have hzl : (zeros fg).length = fg.length := List.length_map ..
          rw [List.take_of_length_le (by omega)] at hA
          refine ⟨D, zs, zeros fg, _, _, _, _, _, rfl, s1, SqL.of hD, hA.mono (fun v ns ⟨x, e, h⟩ => ⟨x, e, .inr h⟩), by omega, fun u hu => ?_, q1⟩
          obtain ⟨t, ht, rfl⟩ := List.mem_map.mp hu
          have := (hg.all t ht).d1
          rw [List.length_replicate]
          omega
    · rintro σ' H' ⟨und, xs, us, y6, y7, y8, y9, y10, rfl, sm, hu, hA, h1, h2, qq⟩
      have hxl := hA.len
      have hT1 := Same.tup sm hT
      have hTA1 : All2 (TriAt K H') ts fg := hTA.mono fun _ _ h => h.ts (TS.of sm)
      refine ⟨.ref und, rfl, und, _, rfl, .inl hu, .ref fa, rfl, fa, _, rfl, .inr hT1, rfl, _, rfl, ite2 (fun e => ?_) (fun e => ?_)⟩
      · have hne : ¬ us.length = fg.length := fun z => by
          rw [htl, hxl, z, decide_eq_true rfl] at e
          cases e
        have eo : laidM cs rs fg us = .error (10, []) := if_neg fun z => hne z.1
        rw [eo] at qq
        exact ⟨rfl, Nat.zero_le _, fun dd H2 z1 z2 z3 => qq dd H2 (sm.trans (same_ref z1 z2)) z3⟩
      have hne : us.length = fg.length := by
        by_cases z : ((xs.length : Nat) : Int) = ((ts.length : Nat) : Int)
        · omega
        · exact absurd (by rw [decide_eq_false (fun y => z (V.int.inj y))]; rfl) e
      have zl : (fullN fg us).length = fg.length := by
        unfold fullN
        rw [List.length_zipWith]
        omega
      refine ⟨.ref bk, rfl, .ref a, rfl, .int (i : Nat), rfl, .ref fa, rfl, .ref und, rfl, fa, und, ts, xs, rfl, hT1, hu, fun D nD => ?_⟩
      refine lc_it (walk_ztl (K := K) (a := fa) (b := und) (xs := ts) (ys := xs) (n := fg.length) htl (by omega)) (fun j H2 => Same H' H2 ∧ ∃ zs, H2 D = some (.lst zs) ∧ All2 (fun v ns => ∃ x, v = V.ref x ∧ SqT K H2 x (ns.map V.int)) zs ((fullN fg us).take j)) ⟨same_upd nD, [], upd_same, True.intro⟩ (fun j H2 _ hP => ⟨Same.tup hP.1 hT1, hP.1.seq hu⟩) (fun j v H2 H3 hj hP hY => ?_) (fun H2 hP => ?_)
      · obtain ⟨s2, zs, hD, hZ⟩ := hP
        obtain ⟨T0, x, y, rfl, nT, rfl, hx, hy⟩ := hY
        have uT := same_upd (o := .tup [x, y]) nT
        obtain ⟨t, ht, ta, rfl, hta⟩ := hTA1.get hx
        obtain ⟨u, hu1, b, rfl, hb⟩ := hA.get hy
        have smu := s2.trans uT
        have hul := h2 u (List.mem_of_getElem? hu1)
        refine ⟨T0, _, rfl, SqT.of upd_same, rfl, _, _, rfl, _, _, rfl, rfl, rfl, yesT ⟨.ref ta, rfl, .inr (.inl ⟨ta, _, 1, .int t.2.1, rfl, rfl, Same.tup smu hta, atI_nat (j := 1) rfl, ?_⟩)⟩⟩
        refine ⟨.ref b, rfl, b, _, rfl, (hb.seq smu).symm, ?_⟩
        have hzl := hZ.len
        rw [List.length_take] at hzl
        have hfu : (fullN fg us)[j]? = some (t.2.1 :: u) := by
          unfold fullN
          rw [List.getElem?_zipWith, ht, hu1]
        refine ⟨?_, fun q0 nq => ?_⟩
        · show (V.int t.2.1 :: (u.map V.int ++ [])).length ≤ sizeLine
          rw [List.length_cons, List.length_append, List.length_map]
          exact Nat.le_of_lt (small1000 (by show u.length + 0 + 1 ≤ 1000; omega))
        · have uq := same_upd (o := .tup (V.int t.2.1 :: (u.map V.int ++ []))) nq
          have hD2 := uq _ _ (uT _ _ hD)
          refine ⟨_, hD2, ?_, Same.offUpd (smu.trans uq) nD, _, upd_same, ?_⟩
          · exact small1000 (by omega)
          · rw [take_snoc hfu]
            have tD : TS K (upd (upd H2 T0 (.tup [V.ref ta, V.ref b])) q0 (.tup (V.int t.2.1 :: (u.map V.int ++ [])))) (upd (upd (upd H2 T0 (.tup [V.ref ta, V.ref b])) q0 (.tup (V.int t.2.1 :: (u.map V.int ++ [])))) D (.lst (zs ++ [.ref q0]))) := TS.upd hD2
            refine All2.snoc ⟨q0, rfl, tD _ _ ?_⟩ (hZ.mono fun v ns ⟨x, e, h⟩ => ⟨x, e, tD _ _ (Same.tup (uT.trans uq) h)⟩)
            have e3 : ((t.2.1 :: u).map V.int) = V.int t.2.1 :: (u.map V.int ++ []) := by rw [List.append_nil]; rfl
            rw [e3]
            exact SqT.of upd_same
      · obtain ⟨s2, zs, hD, hZ⟩ := hP
        have s12 := sm.trans s2
        rw [List.take_of_length_le (by omega)] at hZ
        dsimp only [tNil]
        refine ⟨bk, a, D, cs, fs, rs, (i : Int), zs, fullN fg us, rfl, hB.same s12, hR.ts (TS.of s12), hrc, hc, hbd, hG, SqL.of hD, hZ.mono (fun v ns ⟨x, e, h⟩ => ⟨x, e, .inr h⟩), by omega, fun ns hns => ?_, fun e => absurd ⟨by omega, by omega⟩ e, fun i' ei hi' => ?_⟩
        · obtain ⟨n, hn⟩ := List.getElem?_of_mem hns
          unfold fullN at hn
          rw [List.getElem?_zipWith] at hn
          cases e1 : fg[n]? with
          | none => rw [e1] at hn; cases hn
          | some t =>
            cases e2 : us[n]? with
            | none => rw [e1, e2] at hn; cases hn
            | some u =>
              rw [e1, e2] at hn
              obtain rfl := Option.some.inj hn
              have := h2 u (List.mem_of_getElem? e2)
              rw [List.length_cons]
              omega
        · obtain rfl : i = i' := by omega
          rw [efg]
          refine ⟨fun hb => ?_, fun hb => ?_⟩
          · have eo : laidM cs rs fg us = .error (10, []) := if_neg fun z => by rw [hb] at z; exact absurd z.2 (by decide)
            rw [eo] at qq
            exact refuseN.later qq s12
          · have eo : laidM cs rs fg us = layM rs fg (fullN fg us) := if_pos ⟨hne, hb⟩
            rw [eo] at qq
            exact qq.later s12
end
/-! ### Board: all_of, do, with deeds that may be refused -/
/-- a deed in a tuple, and what comes of it -/
structure DeedR (K : PySem.W.Frag) (acts : Str → Sp → Prop) (okk : Str → List V → Prop) (cm : Nat → Addr) (H : Hp) (bk dd : Addr) (rs : List Row2) (o : Outc) (x : Str) (xs : List V) (sp : Sp) : Prop where
  tup : SqT K H dd (.str x :: xs)
  kind : (x, (xs.length : Int) + 1) ∈ kindL
  ns : x ≠ "settle"
  act : acts x sp
  kk : ∀ ls, o = .ok ls → okk x xs
  go : ∀ (H1 : Hp) (pl : Addr) (Q1 : VK) (E1 : XK), Same H H1 → RowsT K H1 pl rs → OutQ K cm o H1 Q1 E1 → sp (.ref bk :: .ref pl :: xs) H1 Q1 E1
theorem DeedR.same {K : PySem.W.Frag} {acts : Str → Sp → Prop} {okk : Str → List V → Prop} {cm : Nat → Addr} {H H' : Hp} {bk dd : Addr} {rs : List Row2} {o : Outc} {x : Str} {xs : List V} {sp : Sp} (h : DeedR K acts okk cm H bk dd rs o x xs sp) (s : Same H H') : DeedR K acts okk cm H' bk dd rs o x xs sp :=
  ⟨Same.tup s h.tup, h.kind, h.ns, h.act, h.kk, fun H1 pl Q1 E1 s1 hr q => h.go H1 pl Q1 E1 (s.trans s1) hr q⟩
/-- deeds one behind the other, and what comes of them -/
def Runs (K : PySem.W.Frag) (acts : Str → Sp → Prop) (okk : Str → List V → Prop) (cm : Nat → Addr) (H : Hp) (bk : Addr) : List V → List Row2 → Outc → Prop
  | [], rs, r => r = .ok rs
  | v :: vs, rs, r => ∃ dd x xs sp o, v = V.ref dd ∧ DeedR K acts okk cm H bk dd rs o x xs sp ∧ (∀ e, o = .error e → r = .error e) ∧ ∀ ls, o = .ok ls → Runs K acts okk cm H bk vs ls r
theorem Runs.same {K : PySem.W.Frag} {acts : Str → Sp → Prop} {okk : Str → List V → Prop} {cm : Nat → Addr} {H H' : Hp} {bk : Addr} (s : Same H H') : ∀ {vs : List V} {rs : List Row2} {r : Outc}, Runs K acts okk cm H bk vs rs r → Runs K acts okk cm H' bk vs rs r
  | [], _, _, h => h
  | _ :: _, _, _, ⟨dd, x, xs, sp, o, e, h, h1, h2⟩ => ⟨dd, x, xs, sp, o, e, h.same s, h1, fun ls e => Runs.same s (h2 ls e)⟩
theorem Runs.one {K : PySem.W.Frag} {acts : Str → Sp → Prop} {okk : Str → List V → Prop} {cm : Nat → Addr} {H : Hp} {bk dd : Addr} {rs : List Row2} {o : Outc} {x : Str} {xs : List V} {sp : Sp} (h : DeedR K acts okk cm H bk dd rs o x xs sp) : Runs K acts okk cm H bk [.ref dd] rs o :=
  ⟨dd, x, xs, sp, o, rfl, h, fun _ e => e, fun _ e => e⟩
def spKbdG (K : PySem.W.Frag) (C CH : Addr) (okk : Str → List V → Prop) : Sp := fun vs H Q _ => ∃ (p dd bk : Addr) (cs : List Int) (fs : List (List Tri)) (row : List Int) (x : Str) (xs : List V), vs = [.ref p, .ref dd] ∧ HpOf K C CH H p bk cs fs row ∧ SqT K H dd (.str x :: xs) ∧ okk x xs ∧ ∀ H' q row', Same H H' → HpOf K C CH H' q bk cs fs row' → Q (.ref q) H'
/-- what is asked behind the deeds: a refusal, or the new rows -/
def EndQ (K : PySem.W.Frag) (C CB CH : Addr) (cm : Nat → Addr) (H : Hp) (p pa bk : Addr) (cs : List Int) (fs : List (List Tri)) (rs : List Row2) (ps : List (List Row2)) (r : Outc) (Q : VK) (E : XK) : Prop := (∀ n ws, r = .error (n, ws) → refuseN n (cm n) ws H E) ∧ ∀ ls, r = .ok ls → DoneQ K C CB CH H p pa bk cs fs rs ps (fun l => l = ls) Q
theorem EndQ.later {K : PySem.W.Frag} {C CB CH : Addr} {cm : Nat → Addr} {H H1 : Hp} {p pa bk : Addr} {cs : List Int} {fs : List (List Tri)} {rs : List Row2} {ps : List (List Row2)} {r : Outc} {Q : VK} {E : XK} (h : EndQ K C CB CH cm H p pa bk cs fs rs ps r Q E) (s : Same H H1) : EndQ K C CB CH cm H1 p pa bk cs fs rs ps r Q E :=
  ⟨fun n ws e => (h.1 n ws e).later s, fun ls e => (h.2 ls e).later s⟩
def spAllX (K : PySem.W.Frag) (C CB CH : Addr) (cm : Nat → Addr) (acts : Str → Sp → Prop) (okk : Str → List V → Prop) : Sp := fun vs H Q E => ∃ (p pa bk l : Addr) (cs : List Int) (fs : List (List Tri)) (rs : List Row2) (ps qs : List (List Row2)) (dds : List V) (r : Outc), vs = [.ref p, .ref l] ∧ BoX K C CB CH H p pa bk cs fs rs ps qs ∧ SqA K H l dds ∧ Runs K acts okk cm H bk dds rs r ∧ ps.length ≤ 900 ∧ EndQ K C CB CH cm H p pa bk cs fs rs ps r Q E
def spDoX (K : PySem.W.Frag) (C CB CH : Addr) (cm : Nat → Addr) (acts : Str → Sp → Prop) (okk : Str → List V → Prop) : Sp := fun vs H Q E => ∃ (p pa bk dd : Addr) (cs : List Int) (fs : List (List Tri)) (rs : List Row2) (ps qs : List (List Row2)) (r : Outc) (x : Str) (xs : List V) (sp : Sp), vs = [.ref p, .ref dd] ∧ BoX K C CB CH H p pa bk cs fs rs ps qs ∧ DeedR K acts okk cm H bk dd rs r x xs sp ∧ ps.length ≤ 900 ∧ EndQ K C CB CH cm H p pa bk cs fs rs ps r Q E
section
variable {P : Program} {w : World} {K : PySem.W.Frag} {mg : Str → Option Value} {base : Heap}
theorem ok_allX {f fR fK fS C CB CH : Addr} {fd fdR fdK fdS : FuncData} {cm : Nat → Addr} {acts : Str → Sp → Prop} {okk : Str → List V → Prop} {tk : Tok} {k : Nat} (F : Fun K "all_of" "Board.all_of" sAll f fd) (T : BoTxt K mg CB) (ml : mg "len" = none) (mMW : mg "MOST_WALKED" = some (.int 20000 tk))
    (FR : Fun K "rows_behind_deed" "rows_behind_deed" sRbd fR fdR) (bR : Binds K fdR ["book", "rows", "deed", "most"] []) (gR : mg "rows_behind_deed" = some (.ref fR)) (GR : FnOk P w K mg base (L2.CX P w) k fR fdR ["book", "rows", "deed", "most"] (spRbd K acts))
    (FK : Fun K "kept_behind_deed" "kept_behind_deed" sKbd fK fdK) (bK : Binds K fdK ["heap", "deed"] []) (gK : mg "kept_behind_deed" = some (.ref fK)) (GK : FnOk P w K mg base CX0 k fK fdK ["heap", "deed"] (spKbdG K C CH okk))
    (bS : Binds K fdS nStp []) (mS : Meth K CB "step" fS) (GS : FnOk P w K mg base CX0 k fS fdS nStp (spStp K C CB CH)) : FnOk P w K mg base (L2.CX P w) (k + 1) f fd ["self", "deeds"] (spAllX K C CB CH cm acts okk) := by
  refine F.okX scAll (fun vs H Q E h => ?_) (fun cdv A outer s H vs Q E hr h => ?_)
  · obtain ⟨p, pa, bk, l, cs, fs, rs, ps, qs, dds, r, rfl, _⟩ := h
    rfl
  · obtain ⟨p, pa, bk, l, cs, fs, rs, ps, qs, dds, r, rfl, hX, hl, hD, hps, qe, q⟩ := h
    obtain ⟨dx, pl0, fu, be0, mf, wa, wh0, xs0, ys0, row0, h1, h2, h3, h4, h5, h6, h7, h8, h9⟩ := id hX
    refine ⟨_, pss_cons (ps_set (i := 2) scAll.nd rfl (.inl rfl) (pe_fld (pv 0) rfl))
      (pss_cons (ps_set (i := 3) scAll.nd rfl (.inl rfl) (pe_fld (pv 0) rfl))
      (pss_cons (ps_for (passes_of rfl) rfl (pi_seq (pv 1)) (pg_name (i := 4) scAll.nd rfl (.inl rfl)) (pss_cons (ps_set (i := 2) scAll.nd rfl (.inl rfl) (pe_call GR hr (by rfl) gR FR.kp bR .nil (passes_call (takes_of rfl rfl rfl rfl) (fun _ _ _ _ h => h)) (pa_cons (pe_fld (pv 0) rfl) (pa_cons (pv 2) (pa_cons (pv 4) (pa_cons (pe_glob (v := .int 20000) (by rfl) mMW ⟨_, rfl⟩) pa_nil))))))
      (pss_one (ps_set (i := 3) scAll.nd rfl (.inl rfl) (pe_call GK hr (by rfl) gK FK.kp bK .nil pass0 (pa_cons (pv 3) (pa_cons (pv 4) pa_nil)))))))
      (pss_one (ps_expr (pe_meth (pv 0) T.cl mS GS hr bS .nil pass0 (pa_cons (pv 2) (pa_cons (pv 3) (pa_cons (pe_and (pe_fld (pv 0) rfl) (pe_one (pe_cmpR op_eq (pe_callB call_lenQ (by rfl) ml PySem.boot_len (pa_cons (pv 1) pa_nil)) pe_int (nomark _)))) pa_nil)))))))), ?_⟩
    refine ⟨.ref p, rfl, p, CB, dx, _, _, rfl, h1, T.cl, T.nPi, rfl, .ref p, rfl, p, CB, dx, _, _, rfl, h1, T.cl, T.nBe, rfl, .ref l, rfl, l, rfl, ?_⟩
    refine for_seq (K := K) hl (Same.refl H) (fun i σ H' => ∃ (pl be : Addr) (y4 : Option V) (ls : List Row2) (row : List Int), σ = [some (.ref p), some (.ref l), some (.ref pl), some (.ref be), y4] ∧ Same H H' ∧ RowsT K H' pl ls ∧ HpOf K C CH H' be bk cs fs row ∧ Runs K acts okk cm H bk (dds.drop i) ls r)
      ⟨pl0, be0, none, rs, row0, rfl, Same.refl H, h3, h8, hD⟩ (fun i σ H' _ hP => ?_) (fun i y σ H' hy hP => ?_) (fun σ H' hP => ?_)
    · obtain ⟨_, _, _, _, _, _, sm, _⟩ := hP
      exact sm
    · obtain ⟨pl, be, y4, ls, row, rfl, sm, hR1, hb, hrun⟩ := hP
      obtain ⟨g1, e1⟩ := List.getElem?_eq_some_iff.mp hy
      rw [List.drop_eq_getElem_cons g1, e1] at hrun
      obtain ⟨dd, x, xs, sp, o, rfl, hd, hde, hdo⟩ := hrun
      have hd1 := hd.same sm
      refine ⟨.ref p, rfl, p, CB, dx, _, _, rfl, sm _ _ h1, T.cl, T.nOw, rfl, .ref pl, rfl, .ref dd, rfl, .ref bk, .ref pl, .int 20000, dd, x, xs, sp, rfl, hd1.tup, hd1.kind, hd1.ns, hd1.act, fun H1 s1 => ?_⟩
      refine hd1.go H1 pl _ _ s1 (hR1.ts (TS.of s1)) ?_
      cases ho : o with
      | error e =>
        obtain ⟨n, ws⟩ := e
        exact (qe n ws (hde _ ho)).later (sm.trans s1)
      | ok ls' =>
        intro H2 q0 s2 hq
        refine ⟨.ref be, rfl, .ref dd, rfl, be, dd, bk, cs, fs, row, x, xs, rfl, hb.same (s1.trans s2), Same.tup (s1.trans s2) hd1.tup, hd.kk _ ho, fun H3 b3 row' s3 hb3 => ?_⟩
        exact ⟨q0, b3, _, ls', row', rfl, ((sm.trans s1).trans s2).trans s3, hq.ts (TS.of s3), hb3, hdo _ ho⟩
    · obtain ⟨pl, be, y4, ls, row, rfl, sm, hR1, hb, hrun⟩ := hP
      rw [List.drop_of_length_le (Nat.le_refl _)] at hrun
      have hq := q ls hrun
      refine ⟨.ref p, rfl, p, dx, _, rfl, sm _ _ h1, rfl, .ref pl, rfl, .ref be, rfl, .ref p, rfl, p, CB, dx, _, _, rfl, sm _ _ h1, T.cl, T.nWh, rfl, ?_⟩
      refine ⟨wh0, rfl, ?_⟩
      cases wh0 with
      | false => exact iteF ⟨p, pa, bk, pl, be, false, cs, fs, rs, ls, ps, qs, row, rfl, hX.same sm, hR1, hb, hps, fun H2 o hx hk => hq.later sm H2 ls o rfl hx hk⟩
      | true => exact iteT ⟨.ref l, rfl, l, _, rfl, hl.seq sm, rfl, p, pa, bk, pl, be, _, cs, fs, rs, ls, ps, qs, row, rfl, hX.same sm, hR1, hb, hps, fun H2 o hx hk => hq.later sm H2 ls o rfl hx hk⟩
theorem ok_doX {f fA C CB CH : Addr} {fd fdA : FuncData} {cm : Nat → Addr} {acts : Str → Sp → Prop} {okk : Str → List V → Prop} {k : Nat} (F : Fun K "do" "Board.do" sDo f fd) (T : BoTxt K mg CB)
    (bA : Binds K fdA ["self", "deeds"] []) (mA : Meth K CB "all_of" fA) (GA : FnOk P w K mg base (L2.CX P w) k fA fdA ["self", "deeds"] (spAllX K C CB CH cm acts okk)) : FnOk P w K mg base (L2.CX P w) (k + 1) f fd ["self", "deed"] (spDoX K C CB CH cm acts okk) := by
  refine F.okX scDo (fun vs H Q E h => ?_) (fun cdv A outer s H vs Q E hr h => ?_)
  · obtain ⟨p, pa, bk, dd, cs, fs, rs, ps, qs, r, x, xs, sp, rfl, _⟩ := h
    rfl
  · obtain ⟨p, pa, bk, dd, cs, fs, rs, ps, qs, r, x, xs, sp, rfl, hX, hD, hps, q⟩ := h
    obtain ⟨dx, pl0, fu, be0, mf, wa, wh0, xs0, ys0, row0, h1, _⟩ := id hX
    refine ⟨_, pss_one (ps_expr (pe_meth (pv 0) T.cl mA GA hr bA .nil (passes_call (takes_of rfl rfl rfl rfl) (fun _ _ _ _ h => h)) (pa_cons (pe_lst (pa_cons (pv 1) pa_nil)) pa_nil))), ?_⟩
    refine ⟨.ref p, rfl, p, dx, _, rfl, h1, rfl, .ref dd, rfl, (show (1 : Nat) ≤ sizeLine by decide), fun l nl => ?_⟩
    have u := same_upd (o := .lst [V.ref dd]) nl
    exact ⟨p, pa, bk, l, cs, fs, rs, ps, qs, _, r, rfl, hX.same u, .inl (SqL.of upd_same), Runs.one (hD.same u), hps, q.later u⟩
end
/-- deeds behind which nothing is kept -/
def okE : Str → List V → Prop := fun x _ => x ≠ "write" ∧ x ≠ "change"
theorem kbdE {P : Program} {w : World} {K : PySem.W.Frag} {mg : Str → Option Value} {base : Heap} {f C CH : Addr} {fd : FuncData} {k : Nat} (G : FnOk P w K mg base CX0 k f fd ["heap", "deed"] (spKbd K C CH)) : FnOk P w K mg base CX0 k f fd ["heap", "deed"] (spKbdG K C CH okE) := G.imp fun vs H Q E h => by
  obtain ⟨p, dd, bk, cs, fs, row, x, xs, rfl, hp, hd, hk, q⟩ := h
  exact ⟨p, dd, bk, cs, fs, row, x, xs, rfl, hp, hd, hk.1, hk.2, fun H' q0 s hq => q H' q0 [] s hq⟩
/-! ### reset -/
abbrev nRst : List Str := ["book", "rows", "pad", "lead", "turn"]
theorem scRst : FnScope nRst nRst (defScope sRst) := ⟨rfl, rfl, rfl, by decide +kernel, rfl, by decide +kernel, by decide +kernel⟩
def spRst (K : PySem.W.Frag) (C : Addr) (cm : Nat → Addr) : Sp := fun vs H Q E => ∃ (bk a p t : Addr) (cs : List Int) (fs : List (List Tri)) (rs : List Row2) (z : Int) (r : Row2), vs = [.ref bk, .ref a, .int z, .ref p, .ref t] ∧ BookAt K C H bk cs fs ∧ RowsT K H a rs ∧ rs.length = cs.length ∧ cs.length ≤ 100 ∧ SqA K H p (r.1.map V.int) ∧ SqA K H t (r.2.map V.int) ∧ r.1.length ≤ 1000 ∧ r.2.length ≤ 1000 ∧
  (¬ (0 ≤ z ∧ z < (cs.length : Int)) → refuseN 23 (cm 23) [z] H E) ∧ (∀ i : Nat, z = (i : Int) → i < cs.length → (rowB cs i r = false → refuseN 8 (cm 8) [(i : Int)] H E) ∧ (rowB cs i r = true → ∀ l : Row2, LR r.1 r.2 l.1 l.2 → ∀ H' q, Same H H' → RowsT K H' q (rs.set i l) → Q (.ref q) H'))
section
variable {P : Program} {w : World} {K : PySem.W.Frag} {mg : Str → Option Value} {base : Heap}
theorem ok_rst {f fP fC fW fL C : Addr} {fd fdP fdC fdW fdL : FuncData} {cm : Nat → Addr} {k : Nat} (F : Fun K "reset" "reset" sRst f fd)
    (FP : Fun K "check_pad" "check_pad" sCpd fP fdP) (bP : Binds K fdP ["book", "pad"] []) (gP : mg "check_pad" = some (.ref fP)) (GP : FnOk P w K mg base (L2.CX P w) k fP fdP ["book", "pad"] (spCpd K C (cm 23)))
    (FC : Fun K "check_row" "check_row" sCr fC fdC) (bC : Binds K fdC ["book", "pad", "lead", "turn"] []) (gC : mg "check_row" = some (.ref fC)) (GC : FnOk P w K mg base (L2.CX P w) k fC fdC ["book", "pad", "lead", "turn"] (spCr K C (cm 8)))
    (FW : Fun K "with_row" "with_row" sWr fW fdW) (bW : Binds K fdW ["rows", "pad", "row"] []) (gW : mg "with_row" = some (.ref fW)) (GW : FnOk P w K mg base CX0 k fW fdW ["rows", "pad", "row"] (spWr K))
    (FL : Fun K "least_row" "least_row" sLR fL fdL) (bL : Binds K fdL ["lead", "turn"] []) (gL : mg "least_row" = some (.ref fL)) (GL : FnOk P w K mg base CX0 k fL fdL ["lead", "turn"] (spLR K)) : FnOk P w K mg base (L2.CX P w) (k + 1) f fd nRst (spRst K C cm) := by
  refine F.okX scRst (fun vs H Q E h => ?_) (fun cdv A outer s H vs Q E hr h => ?_)
  · obtain ⟨bk, a, p, t, cs, fs, rs, z, r, rfl, _⟩ := h
    rfl
  · obtain ⟨bk, a, p, t, cs, fs, rs, z, r, rfl, hB, hR, hrc, hc, hp, ht, hl1, hl2, q0, q⟩ := h
    refine ⟨_, pss_cons (ps_expr (pe_call GP hr (by rfl) gP FP.kp bP .nil (passes_call (takes_of rfl rfl rfl rfl) (fun _ _ _ _ h => h)) (pa_cons (pv 0) (pa_cons (pv 2) pa_nil))))
      (pss_cons (ps_expr (pe_call GC hr (by rfl) gC FC.kp bC .nil (passes_call (takes_of rfl rfl rfl rfl) (fun _ _ _ _ h => h)) (pa_cons (pv 0) (pa_cons (pv 2) (pa_cons (pv 3) (pa_cons (pv 4) pa_nil))))))
      (pss_one (ps_ret (pe_call GW hr (by rfl) gW FW.kp bW .nil pass0 (pa_cons (pv 1) (pa_cons (pv 2) (pa_cons (pe_call GL hr (by rfl) gL FL.kp bL .nil pass0 (pa_cons (pv 3) (pa_cons (pv 4) pa_nil))) pa_nil))))))), ?_⟩
    refine ⟨.ref bk, rfl, .int z, rfl, bk, cs, fs, z, rfl, hB, fun e0 e1 H1 s1 => ?_, fun e => q0 e⟩
    obtain ⟨i, rfl⟩ := Int.eq_ofNat_of_zero_le e0
    have hi : i < cs.length := by omega
    obtain ⟨q1, q2⟩ := q i rfl hi
    refine ⟨.ref bk, rfl, .int (i : Nat), rfl, .ref p, rfl, .ref t, rfl, bk, p, t, cs, fs, i, r, rfl, hB.same s1, hi, hp.seq s1, ht.seq s1, hl1, hl2, fun hn H2 s2 => ?_, fun hn => (q1 hn).later s1⟩
    have s12 := s1.trans s2
    refine ⟨.ref a, rfl, .int (i : Nat), rfl, .ref p, rfl, .ref t, rfl, p, t, r.1, r.2, rfl, hp.seq s12, ht.seq s12, hl1, hl2, fun H3 p3 c d s3 hlr hrow => ?_⟩
    have s13 := s12.trans s3
    exact ⟨a, p3, rs, i, (c, d), rfl, hR.ts (TS.of s13), by omega, by omega, hrow, fun H4 q4 s4 hq4 => q2 hn (c, d) hlr H4 q4 (s13.trans s4) hq4⟩
end
/-! ### put, reset, lay as deeds with what comes of them -/
noncomputable def putM (cs : List Int) (rs : List Row2) (z x : Int) : Outc := if 0 ≤ z ∧ z < (cs.length : Int) then (if notesB cs z.toNat [x] = true then roomM rs z.toNat (onTop rs z.toNat [x]) else .error (9, [x])) else .error (23, [z])
noncomputable def resetM (cs : List Int) (rs : List Row2) (z : Int) (r : Row2) : Outc := if 0 ≤ z ∧ z < (cs.length : Int) then (if rowB cs z.toNat r = true then .ok (rs.set z.toNat (leastM r)) else .error (8, [z])) else .error (23, [z])
noncomputable def layD (cs : List Int) (fs : List (List Tri)) (rs : List Row2) (z : Int) (uo : Option (List (List Int))) : Outc := if 0 ≤ z ∧ z < (fs.length : Int) then laidM cs rs (fs.getD z.toNat []) (uo.getD (zeros (fs.getD z.toNat []))) else .error (24, [z])
theorem BenT.same {K : PySem.W.Frag} {H H' : Hp} {v : V} {uo : Option (List (List Int))} (h : BenT K H v uo) (s : Same H H') : BenT K H' v uo := by
  cases uo with
  | none => exact h
  | some us =>
    obtain ⟨p, xs, e, h1, h2, h3, h4⟩ := h
    exact ⟨p, xs, e, s.seq h1, h2.mono fun _ _ h => h.same s, h3, h4⟩
theorem put_r {K : PySem.W.Frag} {C : Addr} {cm : Nat → Addr} {acts : Str → Sp → Prop} {okk : Str → List V → Prop} {H : Hp} {bk dd : Addr} {cs : List Int} {fs : List (List Tri)} {rs : List Row2} {z x : Int} (ac : acts "put" (spPut K C cm)) (hk : okk "put" [.int z, .int x]) (hd : SqT K H dd [.str "put", .int z, .int x]) (hB : BookAt K C H bk cs fs)
    (hrc : rs.length = cs.length) (hc : cs.length ≤ 100) (hbd : BdR rs) : DeedR K acts okk cm H bk dd rs (putM cs rs z x) "put" [.int z, .int x] (spPut K C cm) :=
  ⟨hd, (show (("put" : Str), (3 : Int)) ∈ kindL by decide), by decide, ac, fun _ _ => hk, fun H1 pl Q1 E1 s1 hr q => by
    refine ⟨bk, pl, cs, fs, rs, z, x, rfl, hB.same s1, hr, hrc, hc, hbd, fun e => ?_, fun i ei hi => ?_⟩
    · rw [show putM cs rs z x = .error (23, [z]) from if_neg e] at q
      exact q
    · subst ei
      have e : putM cs rs (i : Int) x = (if notesB cs (i : Int).toNat [x] = true then roomM rs (i : Int).toNat (onTop rs (i : Int).toNat [x]) else .error (9, [x])) := if_pos ⟨by omega, by omega⟩
      rw [e, Int.toNat_natCast] at q
      refine ⟨fun hn => ?_, fun hn r l gr hl => ?_⟩
      · rw [if_neg (by rw [hn]; decide)] at q
        exact q
      · rw [if_pos hn] at q
        have hdd : rs.getD i ([], []) = r := by rw [List.getD_eq_getElem?_getD, gr]; rfl
        have hot : onTop rs i [x] = (x :: r.1, r.2) := by unfold onTop; rw [hdd]; rfl
        have hlm : leastM (x :: r.1, r.2) = l := leastM_eq (r := (x :: r.1, r.2)) hl
        unfold roomM at q
        rw [hot, hlm] at q
        refine ⟨fun hb => ?_, fun hb => ?_⟩
        · rw [if_pos hb] at q
          exact q
        · rw [if_neg (by omega)] at q
          exact q⟩
theorem reset_r {K : PySem.W.Frag} {C : Addr} {cm : Nat → Addr} {acts : Str → Sp → Prop} {okk : Str → List V → Prop} {H : Hp} {bk dd p t : Addr} {cs : List Int} {fs : List (List Tri)} {rs : List Row2} {z : Int} {r : Row2} (ac : acts "reset" (spRst K C cm)) (hk : okk "reset" [.int z, .ref p, .ref t]) (hd : SqT K H dd [.str "reset", .int z, .ref p, .ref t]) (hB : BookAt K C H bk cs fs)
    (hrc : rs.length = cs.length) (hc : cs.length ≤ 100) (hp : SqA K H p (r.1.map V.int)) (ht : SqA K H t (r.2.map V.int)) (h1 : r.1.length ≤ 1000) (h2 : r.2.length ≤ 1000) : DeedR K acts okk cm H bk dd rs (resetM cs rs z r) "reset" [.int z, .ref p, .ref t] (spRst K C cm) :=
  ⟨hd, (show (("reset" : Str), (4 : Int)) ∈ kindL by decide), by decide, ac, fun _ _ => hk, fun H1 pl Q1 E1 s1 hr q => by
    refine ⟨bk, pl, p, t, cs, fs, rs, z, r, rfl, hB.same s1, hr, hrc, hc, hp.seq s1, ht.seq s1, h1, h2, fun e => ?_, fun i ei hi => ?_⟩
    · rw [show resetM cs rs z r = .error (23, [z]) from if_neg e] at q
      exact q
    · subst ei
      have e : resetM cs rs (i : Int) r = (if rowB cs (i : Int).toNat r = true then .ok (rs.set (i : Int).toNat (leastM r)) else .error (8, [(i : Int)])) := if_pos ⟨by omega, by omega⟩
      rw [e, Int.toNat_natCast] at q
      refine ⟨fun hn => ?_, fun hn l hl => ?_⟩
      · rw [if_neg (by rw [hn]; decide)] at q
        exact q
      · rw [if_pos hn, leastM_eq hl] at q
        exact q⟩
theorem lay_r {K : PySem.W.Frag} {C : Addr} {cm : Nat → Addr} {acts : Str → Sp → Prop} {okk : Str → List V → Prop} {H : Hp} {bk dd : Addr} {v : V} {cs : List Int} {fs : List (List Tri)} {rs : List Row2} {z : Int} {uo : Option (List (List Int))} (ac : acts "lay" (spLay K C cm)) (hk : okk "lay" [.int z, v]) (hd : SqT K H dd [.str "lay", .int z, v]) (hB : BookAt K C H bk cs fs)
    (hrc : rs.length = cs.length) (hc : cs.length ≤ 100) (hbd : BdR rs) (hG : ∀ f ∈ fs, GoodF cs f) (hv : BenT K H v uo) : DeedR K acts okk cm H bk dd rs (layD cs fs rs z uo) "lay" [.int z, v] (spLay K C cm) :=
  ⟨hd, (show (("lay" : Str), (3 : Int)) ∈ kindL by decide), by decide, ac, fun _ _ => hk, fun H1 pl Q1 E1 s1 hr q => by
    refine ⟨bk, pl, v, cs, fs, rs, z, uo, rfl, hB.same s1, hr, hrc, hc, hbd, hG, hv.same s1, fun e => ?_, fun i ei hi => ?_⟩
    · rw [show layD cs fs rs z uo = .error (24, [z]) from if_neg e] at q
      exact q
    · subst ei
      have e : layD cs fs rs (i : Int) uo = laidM cs rs (fs.getD (i : Int).toNat []) (uo.getD (zeros (fs.getD (i : Int).toNat []))) := if_pos ⟨by omega, by omega⟩
      rw [e, Int.toNat_natCast] at q
      exact q⟩
theorem scBLy : FnScope ["self", "figure", "beneath"] ["self", "figure", "beneath"] (defScope sBLy) := ⟨rfl, rfl, rfl, by decide +kernel, rfl, by decide +kernel, by decide +kernel⟩
def spBLy (K : PySem.W.Frag) (C CB CH : Addr) (cm : Nat → Addr) : Sp := fun vs H Q E => ∃ (p pa bk : Addr) (v : V) (cs : List Int) (fs : List (List Tri)) (rs : List Row2) (ps qs : List (List Row2)) (z : Int) (uo : Option (List (List Int))), vs = [.ref p, .int z, v] ∧ BoX K C CB CH H p pa bk cs fs rs ps qs ∧ rs.length = cs.length ∧ cs.length ≤ 100 ∧ BdR rs ∧ (∀ f ∈ fs, GoodF cs f) ∧ BenT K H v uo ∧ ps.length ≤ 900 ∧
  EndQ K C CB CH cm H p pa bk cs fs rs ps (layD cs fs rs z uo) Q E
section
variable {P : Program} {w : World} {K : PySem.W.Frag} {mg : Str → Option Value} {base : Heap}
theorem ok_bly {f fD C CB CH : Addr} {fd fdD : FuncData} {acts : Str → Sp → Prop} {okk : Str → List V → Prop} {cm : Nat → Addr} {kws : List (Str × V)} {k : Nat} (F : FunD K "lay" "Board.lay" (defArgs sBLy) (defBody sBLy) (defScope sBLy) [] kws f fd) (T : BoTxt K mg CB) (ac : acts "lay" (spLay K C cm)) (hk : ∀ xs, okk "lay" xs)
    (bD : Binds K fdD ["self", "deed"] []) (mD : Meth K CB "do" fD) (GD : FnOk P w K mg base (L2.CX P w) k fD fdD ["self", "deed"] (spDoX K C CB CH cm acts okk)) : FnOk P w K mg base (L2.CX P w) (k + 1) f fd ["self", "figure", "beneath"] (spBLy K C CB CH cm) := by
  refine F.ok (CX := L2.CX P w) scBLy (fun vs H Q E h => ?_) (fun cdv A outer s H vs Q E hr h => ?_)
  · obtain ⟨p, pa, bk, v, cs, fs, rs, ps, qs, z, uo, rfl, _⟩ := h
    rfl
  · obtain ⟨p, pa, bk, v, cs, fs, rs, ps, qs, z, uo, rfl, hX, hrc, hc, hbd, hG, hv, hps, q⟩ := h
    obtain ⟨dx, pl0, fu, be0, mf, wa, wh0, xs0, ys0, row0, h1, hB, _⟩ := id hX
    refine ⟨_, pss_one (ps_expr (pe_meth (pv 0) T.cl mD GD hr bD .nil (passes_call (takes_of rfl rfl rfl rfl) (fun _ _ _ _ h => h)) (pa_cons (pe_tup (pa_cons pe_str (pa_cons (pv 1) (pa_cons (pv 2) pa_nil)))) pa_nil))), ?_⟩
    refine ⟨.ref p, rfl, p, dx, _, rfl, h1, rfl, .int z, rfl, v, rfl, (show (3 : Nat) ≤ sizeLine by decide), fun l nl => ?_⟩
    have u := same_upd (o := .tup [V.str "lay", V.int z, v]) nl
    exact ⟨p, pa, bk, l, cs, fs, rs, ps, qs, _, _, _, _, rfl, hX.same u, lay_r ac (hk _) (SqT.of upd_same) (hB.same u) hrc hc hbd hG (hv.same u), hps, q.later u⟩
end
/-! ### Board.height -/
abbrev nHei : List Str := ["self", "pad", "lead", "turn"]
theorem scHei : FnScope nHei ["self", "pad"] (defScope sHei) := ⟨rfl, rfl, rfl, by decide +kernel, rfl, by decide +kernel, by decide +kernel⟩
def spHei (K : PySem.W.Frag) (C CB CP : Addr) : Sp := fun vs H Q E => ∃ (p : Addr) (cs : List Int) (fs : List (List Tri)) (rs : List Row2) (z : Int), vs = [.ref p, .int z] ∧ BoardAt K C CB H p cs fs rs ∧ rs.length = cs.length ∧ (¬ (0 ≤ z ∧ z < (cs.length : Int)) → refuseN 23 CP [z] H E) ∧
  ∀ (i : Nat) (r : Row2), z = (i : Int) → rs[i]? = some r → ∀ H', Same H H' → Q (if r.2 = [] then .int (r.1.length : Nat) else .non) H'
section
variable {P : Program} {w : World} {K : PySem.W.Frag} {mg : Str → Option Value} {base : Heap}
theorem ok_hei {f fP C CB CP : Addr} {fd fdP : FuncData} {k : Nat} (F : Fun K "height" "Board.height" sHei f fd) (T : BoTxt K mg CB) (ml : mg "len" = none)
    (FP : Fun K "check_pad" "check_pad" sCpd fP fdP) (bP : Binds K fdP ["book", "pad"] []) (gP : mg "check_pad" = some (.ref fP)) (GP : FnOk P w K mg base (L2.CX P w) k fP fdP ["book", "pad"] (spCpd K C CP)) : FnOk P w K mg base (L2.CX P w) (k + 1) f fd ["self", "pad"] (spHei K C CB CP) := by
  refine F.okX scHei (fun vs H Q E h => ?_) (fun cdv A outer s H vs Q E hr h => ?_)
  · obtain ⟨p, cs, fs, rs, z, rfl, _⟩ := h
    rfl
  · obtain ⟨p, cs, fs, rs, z, rfl, ⟨dx, bk, pl, pa, fu, mf, be, wh, wa, hp, hB, hR⟩, hrc, q0, q⟩ := h
    refine ⟨_, pss_cons (ps_expr (pe_call GP hr (by rfl) gP FP.kp bP .nil (passes_call (takes_of rfl rfl rfl rfl) (fun _ _ _ _ h => h)) (pa_cons (pe_fld (pv 0) rfl) (pa_cons (pv 1) pa_nil))))
      (pss_cons (ps_asg (pe_ix ix_tup (pe_fld (pv 0) rfl) (pv 1) (fun _ _ => rfl)) (pg_tup (by rfl) (pgs_cons (pg_name (i := 2) scHei.nd rfl (.inl rfl)) (pgs_cons (pg_name (i := 3) scHei.nd rfl (.inl rfl)) pgs_nil))))
      (pss_one (ps_ret (pe_ifExp (pt_cmpR op_eq (pe_callB call_lenQ (by rfl) ml PySem.boot_len (pa_cons (pv 3) pa_nil)) pe_int (nomark _)) (pe_callB call_lenQ (by rfl) ml PySem.boot_len (pa_cons (pv 2) pa_nil)) (pe_non))))), ?_⟩
    refine ⟨.ref p, rfl, p, CB, dx, _, _, rfl, hp, T.cl, T.nOw, rfl, .int z, rfl, bk, cs, fs, z, rfl, hB, fun e0 e1 H1 s1 => ?_, fun e => q0 e⟩
    obtain ⟨i, rfl⟩ := Int.eq_ofNat_of_zero_le e0
    have gi := List.getElem?_eq_getElem (show i < rs.length by omega)
    obtain ⟨xs, hx, hA⟩ := hR.ts (TS.of s1)
    obtain ⟨y, hy, ra, rfl, la, ta, hr1, hr2, hr3⟩ := hA.at gi
    refine ⟨.ref p, rfl, p, CB, dx, _, _, rfl, s1 _ _ hp, T.cl, T.nPi, rfl, .int (i : Nat), rfl, pl, xs, _, _, rfl, rfl, hx, atI_nat hy, ra, _, rfl, hr1, rfl, _, _, rfl, _, _, rfl, rfl, ?_⟩
    have qq := q i _ rfl gi H1 s1
    refine ⟨.ref ta, rfl, ta, _, rfl, .inr hr3, rfl, _, rfl, ite2 (fun e => ?_) (fun e => ?_)⟩
    · have e2 := V.int.inj (of_decide_eq_true e)
      rw [List.length_map] at e2
      rw [if_pos (List.eq_nil_of_length_eq_zero (by omega))] at qq
      refine ⟨.ref la, rfl, la, _, rfl, .inr hr2, ?_⟩
      rw [List.length_map]
      exact qq
    · rw [if_neg (fun z => e (by rw [z]; rfl))] at qq
      exact qq
end
/-! ### boards without rows handed in -/
theorem flat_rep {α : Type} (x : α) : ∀ n : Nat, (List.replicate n [x]).flatten = List.replicate n x
  | 0 => rfl
  | n + 1 => by rw [List.replicate_succ, List.flatten_cons, flat_rep x n]; rfl
theorem all2_rep {α : Type} {R : V → α → Prop} {v : V} {a : α} (h : R v a) : ∀ n : Nat, All2 R (List.replicate n v) (List.replicate n a)
  | 0 => True.intro
  | n + 1 => ⟨h, all2_rep h n⟩
def spLrsN (K : PySem.W.Frag) (C : Addr) : Sp := fun vs H Q _ => ∃ (p : Addr) (cs : List Int) (fs : List (List Tri)), vs = [.ref p, .non] ∧ BookAt K C H p cs fs ∧ 1 ≤ cs.length ∧ cs.length ≤ 100 ∧ ∀ H' q, Same H H' → RowsT K H' q (List.replicate cs.length ([], [])) → Q (.ref q) H'
def spBoInN (K : PySem.W.Frag) (C CB CH : Addr) : Sp := fun vs H Q _ => ∃ (p dx bk : Addr) (cs : List Int) (fs : List (List Tri)), vs = [.ref p, .ref bk, .non] ∧ H p = some (.ins CB dx []) ∧ BookAt K C H bk cs fs ∧ (∀ f ∈ fs, GoodF cs f) ∧ 1 ≤ cs.length ∧ cs.length ≤ 100 ∧
  ∀ H' pa, Off p H H' → H pa = none → BoX K C CB CH H' p pa bk cs fs (List.replicate cs.length ([], [])) [] [] → Q .non H'
section
variable {P : Program} {w : World} {K : PySem.W.Frag} {mg : Str → Option Value} {base : Heap}
theorem ok_lrsN {f fC fL fP C CR : Addr} {fd fdC fdL fdP : FuncData} {k : Nat} (F : Fun K "least_rows" "least_rows" sLrs f fd) (ml : mg "len" = none) (me : mg "enumerate" = none) (mt : mg "tuple" = none)
    (FC : Fun K "check_row" "check_row" sCr fC fdC) (bC : Binds K fdC ["book", "pad", "lead", "turn"] []) (gC : mg "check_row" = some (.ref fC)) (GC : FnOk P w K mg base (L2.CX P w) (k + 1) fC fdC ["book", "pad", "lead", "turn"] (spCr K C CR))
    (FL : Fun K "least_row" "least_row" sLR fL fdL) (bL : Binds K fdL ["lead", "turn"] []) (gL : mg "least_row" = some (.ref fL)) (GL : FnOk P w K mg base CX0 (k + 1) fL fdL ["lead", "turn"] (spLR K))
    (T : BkTxt K mg C) (bP : Binds K fdP ["self"] []) (mP : Meth K C "pads" fP) (GP : FnOk P w K mg base CX0 (k + 1) fP fdP ["self"] (spPadsM K C)) (R : exc1 8 "BadRow" "at" CR P w K mg base k) :
    FnOk P w K mg base (L2.CX P w) (k + 2) f fd ["book", "rows"] (spLrsN K C) := by
  refine F.okX scLrs (fun vs H Q E h => ?_) (fun cdv A outer s H vs Q E hr h => ?_)
  · obtain ⟨p, cs, fs, rfl, _⟩ := h
    rfl
  · obtain ⟨p, cs, fs, rfl, hB, hc1, hc, q⟩ := h
    refine ⟨_, pss_cons (ps_if (pt_cmp (pc_isN (pv 1))) (pss_one (ps_ret (pe_op op_repS (pe_tup (pa_cons (pe_tup (pa_cons (pe_tup pa_nil) (pa_cons (pe_tup pa_nil) pa_nil))) pa_nil)) (pe_meth0 (pv 0) T.cl mP GP hr bP .nil pass0)))) pss_nil)
      (pss_cons (ps_if (pt_cmpR op_ne (pe_callB call_lenQ (by rfl) ml PySem.boot_len (pa_cons (pv 1) pa_nil)) (pe_meth0 (pv 0) T.cl mP GP hr bP .nil pass0) (nomark _)) (pss_one (ps_raise rfl (takes_of rfl rfl rfl rfl) (pmk_ref R hr (by rfl) (pa_cons (pe_un un_neg pe_int) pa_nil)))) pss_nil)
      (pss_cons (ps_for (passes_of rfl) rfl (pi_enumA (by rfl) me (pa_cons (pv 1) pa_nil)) (pg_tup (by rfl) (pgs_cons (pg_name (i := 2) scLrs.nd rfl (.inl rfl)) (pgs_cons (pg_tup (by rfl) (pgs_cons (pg_name (i := 3) scLrs.nd rfl (.inl rfl)) (pgs_cons (pg_name (i := 4) scLrs.nd rfl (.inl rfl)) pgs_nil))) pgs_nil))) (pss_one (ps_expr (pe_call GC hr (by rfl) gC FC.kp bC .nil (passes_call (takes_of rfl rfl rfl rfl) (fun _ _ _ _ h => h)) (pa_cons (pv 0) (pa_cons (pv 2) (pa_cons (pv 3) (pa_cons (pv 4) pa_nil))))))))
      (pss_one (ps_ret (pe_callTy call_tupS (by rfl) mt (by decide +kernel) (pa_cons (pe_lc (own := [("lead", 3), ("turn", 4)]) (g := g2 K 3 4) (tt := tYes) rfl scLrs.nd (pi_seq (pv 1)) (blkOk_by (own := [("lead", 3), ("turn", 4)]) (N := nLrs) (sc := defScope sLrs) (by decide +kernel)) (fun _ _ _ _ _ => pg_tup (by rfl) (pgs_cons (pg_name (i := 3) scLrs.nd rfl (.inl rfl)) (pgs_cons (pg_name (i := 4) scLrs.nd rfl (.inl rfl)) pgs_nil))) (fun _ _ _ _ _ => pts_nil) (fun _ _ _ _ _ => pe_call GL hr (by rfl) gL FL.kp bL .nil pass0 (pa_cons (pv 3) (pa_cons (pv 4) pa_nil)))) pa_nil)))))), ?_⟩
    obtain ⟨dx, a0, b0, xs0, hp, _⟩ := id hB
    refine ⟨.non, rfl, _, rfl, ite2 (fun _ => ?_) (fun e => absurd (by rfl) e)⟩
    refine ⟨Nat.zero_le _, fun t1 n1 => ⟨Nat.zero_le _, fun t2 n2 => ⟨(show (2 : Nat) ≤ sizeLine by decide), fun t3 n3 => ⟨(show (1 : Nat) ≤ sizeLine by decide), fun t4 n4 => ?_⟩⟩⟩⟩
    have u1 := same_upd (o := .tup []) n1
    have u2 := same_upd (o := .tup []) n2
    have u3 := same_upd (o := .tup [V.ref t1, V.ref t2]) n3
    have u4 := same_upd (o := .tup [V.ref t3]) n4
    have s4 := ((u1.trans u2).trans u3).trans u4
    have hrow : RowAt K _ t3 [] [] := ⟨t1, t2, SqT.of (u4 _ _ upd_same), SqT.of (u4 _ _ (u3 _ _ (u2 _ _ upd_same))), SqT.of (u4 _ _ (u3 _ _ upd_same))⟩
    refine ⟨.ref p, rfl, p, dx, _, rfl, s4 _ _ hp, rfl, p, cs, fs, rfl, hB.same s4, t4, ((cs.length : Nat) : Int), _, rfl, rfl, SqT.of upd_same, (fun z => nomatch z), by omega, by omega, (show (1 : Nat) ≤ 1000 by decide), fun q0 H' s' hq => ?_⟩
    rw [Int.toNat_natCast, flat_rep] at hq
    exact q H' q0 (s4.trans s') ⟨_, hq, all2_rep ⟨t3, rfl, hrow.same s'⟩ cs.length⟩
theorem ok_boinN {f CB CW C CH fL fH fSt tD : Addr} {fd fdL fdH fdSt : FuncData} {k : Nat} {dsH : List Value} {kws : List (Str × V)} (F : FunD K "__init__" "Board.__init__" (defArgs sBoIn) (defBody sBoIn) (defScope sBoIn) [] kws f fd) (T : BoTxt K mg CB) (TH : HpTxt K mg CH)
    (FL : Fun K "least_rows" "least_rows" sLrs fL fdL) (bL : Binds K fdL ["book", "rows"] []) (gL : mg "least_rows" = some (.ref fL)) (GL : FnOk P w K mg base (L2.CX P w) (k + 1) fL fdL ["book", "rows"] (spLrsN K C))
    (MH : Mk K CH fH) (GH : FnOk P w K mg base CX0 k fH fdH ["self", "book", "row"] (spHInitC K C CH)) (bH : Binds K fdH ["self", "book", "row"] dsH) (vH : Vals [.ref tD] dsH) (tT : ∀ H, SqT K H tD [])
    (bSt : Binds K fdSt nBoSt []) (mSt : Meth K CB "stand" fSt) (GSt : FnOk P w K mg base CX0 (k + 1) fSt fdSt nBoSt (spBoSt CB CW)) :
    FnOk P w K mg base (L2.CX P w) (k + 2) f fd ["self", "book", "rows"] (spBoInN K C CB CH) := by
  refine F.ok (CX := L2.CX P w) scBoIn (fun vs H Q E h => ?_) (fun cdv A outer s H vs Q E hr h => ?_)
  · obtain ⟨p, dx, bk, cs, fs, rfl, _⟩ := h
    rfl
  · obtain ⟨p, dx, bk, cs, fs, rfl, hp, hB, hG, hc1, hc, q⟩ := h
    refine ⟨_, pss_cons (ps_fld (pv 0) (pv 1) rfl)
      (pss_cons (ps_fld (pv 0) (pe_lst pa_nil) rfl)
      (pss_cons (ps_fld (pv 0) (pe_lst pa_nil) rfl)
      (pss_cons (ps_fld (pv 0) pe_int rfl)
      (pss_one (ps_expr (pe_meth (pv 0) T.cl mSt GSt hr bSt .nil pass0 (pa_cons (pe_call GL hr (by rfl) gL FL.kp bL .nil (passes_call (takes_of rfl rfl rfl rfl) (fun _ _ _ _ h => h)) (pa_cons (pv 1) (pa_cons (pv 2) pa_nil))) (pa_cons (pe_make MH GH hr (by rfl) TH.mgC bH vH pass0 (pa_cons (pv 1) pa_nil)) (pa_cons pe_bl pa_nil))))))))), ?_⟩
    have hbp : bk ≠ p := fun z => by
      obtain ⟨d1, a1, b1, x1, h1, _⟩ := hB
      rw [z, hp] at h1
      cases h1
    refine ⟨.ref bk, rfl, .ref p, rfl, p, CB, dx, _, rfl, hp, T.cl, T.nOw, (show 0 < 1000 by decide), ?_⟩
    have o1 : Off p H (upd H p (.ins CB dx (putF "owner" (.ref bk) []))) := Off.upd
    have hp1 : (upd H p (.ins CB dx (putF "owner" (.ref bk) []))) p = some (.ins CB dx [("owner", .ref bk)]) := upd_same
    generalize upd H p (.ins CB dx (putF "owner" (.ref bk) [])) = H1 at o1 hp1 ⊢
    refine ⟨Nat.zero_le _, fun l1 n1 => ?_⟩
    have u1 := same_upd (o := .lst []) n1
    refine ⟨.ref p, rfl, p, CB, dx, _, rfl, u1 _ _ hp1, T.cl, T.nPa, (show 1 < 1000 by decide), ?_⟩
    have o2 : Off p H (upd (upd H1 l1 (.lst [])) p (.ins CB dx (putF "past" (.ref l1) [("owner", .ref bk)]))) := (o1.trans (Off.same u1)).trans Off.upd
    have hp2 : (upd (upd H1 l1 (.lst [])) p (.ins CB dx (putF "past" (.ref l1) [("owner", .ref bk)]))) p = some (.ins CB dx [("owner", .ref bk), ("past", .ref l1)]) := upd_same
    have nl1p : l1 ≠ p := fun z => by rw [z, hp1] at n1; cases n1
    have h2l1 : (upd (upd H1 l1 (.lst [])) p (.ins CB dx (putF "past" (.ref l1) [("owner", .ref bk)]))) l1 = some (.lst []) := by rw [upd_ne nl1p, upd_same]
    have l1H : H l1 = none := by
      cases e1 : H l1 with
      | none => rfl
      | some o =>
        rw [o1 l1 o nl1p e1] at n1
        cases n1
    generalize upd (upd H1 l1 (.lst [])) p (.ins CB dx (putF "past" (.ref l1) [("owner", .ref bk)])) = H2 at o2 hp2 h2l1 ⊢
    refine ⟨Nat.zero_le _, fun l2 n2 => ?_⟩
    have u2 := same_upd (o := .lst []) n2
    refine ⟨.ref p, rfl, p, CB, dx, _, rfl, u2 _ _ hp2, T.cl, T.nFu, (show 2 < 1000 by decide), ?_⟩
    have o3 : Off p H (upd (upd H2 l2 (.lst [])) p (.ins CB dx (putF "future" (.ref l2) [("owner", .ref bk), ("past", .ref l1)]))) := (o2.trans (Off.same u2)).trans Off.upd
    have hp3 : (upd (upd H2 l2 (.lst [])) p (.ins CB dx (putF "future" (.ref l2) [("owner", .ref bk), ("past", .ref l1)]))) p = some (.ins CB dx [("owner", .ref bk), ("past", .ref l1), ("future", .ref l2)]) := upd_same
    have nl2p : l2 ≠ p := fun z => by rw [z, hp2] at n2; cases n2
    have nl21 : l2 ≠ l1 := fun z => by rw [z, h2l1] at n2; cases n2
    have h3l1 : (upd (upd H2 l2 (.lst [])) p (.ins CB dx (putF "future" (.ref l2) [("owner", .ref bk), ("past", .ref l1)]))) l1 = some (.lst []) := by rw [upd_ne nl1p]; exact u2 _ _ h2l1
    have h3l2 : (upd (upd H2 l2 (.lst [])) p (.ins CB dx (putF "future" (.ref l2) [("owner", .ref bk), ("past", .ref l1)]))) l2 = some (.lst []) := by rw [upd_ne nl2p, upd_same]
    generalize upd (upd H2 l2 (.lst [])) p (.ins CB dx (putF "future" (.ref l2) [("owner", .ref bk), ("past", .ref l1)])) = H3 at o3 hp3 h3l1 h3l2 ⊢
    refine ⟨.ref p, rfl, p, CB, dx, _, rfl, hp3, T.cl, T.nMf, (show 3 < 1000 by decide), ?_⟩
    have o4 : Off p H (upd H3 p (.ins CB dx (putF "many_found" (.int 0) [("owner", .ref bk), ("past", .ref l1), ("future", .ref l2)]))) := o3.trans Off.upd
    have hp4 : (upd H3 p (.ins CB dx (putF "many_found" (.int 0) [("owner", .ref bk), ("past", .ref l1), ("future", .ref l2)]))) p = some (.ins CB dx [("owner", .ref bk), ("past", .ref l1), ("future", .ref l2), ("many_found", .int 0)]) := upd_same
    have h4l1 : (upd H3 p (.ins CB dx (putF "many_found" (.int 0) [("owner", .ref bk), ("past", .ref l1), ("future", .ref l2)]))) l1 = some (.lst []) := by rw [upd_ne nl1p]; exact h3l1
    have h4l2 : (upd H3 p (.ins CB dx (putF "many_found" (.int 0) [("owner", .ref bk), ("past", .ref l1), ("future", .ref l2)]))) l2 = some (.lst []) := by rw [upd_ne nl2p]; exact h3l2
    generalize upd H3 p (.ins CB dx (putF "many_found" (.int 0) [("owner", .ref bk), ("past", .ref l1), ("future", .ref l2)])) = H4 at o4 hp4 h4l1 h4l2 ⊢
    have hB4 := hB.off o4 hp hbp
    refine ⟨.ref p, rfl, p, dx, _, rfl, hp4, rfl, ?_⟩
    refine ⟨.ref bk, rfl, .non, rfl, bk, cs, fs, rfl, hB4, hc1, hc, fun H5 pl s5 hR => ?_⟩
    refine ⟨.ref bk, rfl, fun x dxx nx ndx nxd => ?_⟩
    refine hmakeC (C := C) (cs := cs) (fs := fs) (row := []) (hB4.same s5) hG hc (.inr (tT _)) (Nat.zero_le _) (fun z hz => nomatch hz) nx ndx nxd (fun H6 s6 P6 => ⟨rfl, ?_⟩)
    have s46 := s5.trans s6
    refine ⟨p, dx, .ref bk, .ref pl, .ref x, .bl false, _, rfl, s46 _ _ hp4, (show 4 ≤ 900 by decide), rfl, fun H7 wk dw g o7 nw hw hg hp7 => ?_⟩
    have o17 : Off p H H7 := (o4.trans (Off.same s46)).trans o7
    have a7 : H7 l1 = some (.lst []) := o7 _ _ nl1p (s46 _ _ h4l1)
    have b7 : H7 l2 = some (.lst []) := o7 _ _ nl2p (s46 _ _ h4l2)
    have hx7 : HpOf K C CH H7 x bk cs fs [] := ⟨P6.hp.offI (s46 _ _ hp4) (show (4 : Nat) ≠ 2 by decide) o7, hB.off o17 hp hbp, hG, hc, P6.inn⟩
    exact q H7 l1 o17 l1H ⟨dx, pl, l2, x, _, _, _, [], [], [], hp7, hB.off o17 hp hbp, (hR.ts (TS.of s6)).ts (TS.ins o7 (s46 _ _ hp4)), a7, True.intro, b7, True.intro, hx7, nl21⟩
end
/-! ### rows handed in that are good -/
def ShR (rs : List Row2) : Prop := ∀ r ∈ rs, r.1.length ≤ 1000 ∧ r.2.length ≤ 1000
/-- rows that may be handed in -/
def GoodR (cs : List Int) (rs : List Row2) : Prop := rs.length = cs.length ∧ ∀ i r, rs[i]? = some r → rowB cs i r = true
def spBoInC (K : PySem.W.Frag) (C CB CH : Addr) : Sp := fun vs H Q _ => ∃ (p dx bk a : Addr) (cs : List Int) (fs : List (List Tri)) (xs : List V) (rs : List Row2), vs = [.ref p, .ref bk, .ref a] ∧ H p = some (.ins CB dx []) ∧ BookAt K C H bk cs fs ∧ (∀ f ∈ fs, GoodF cs f) ∧ cs.length ≤ 100 ∧ SqA K H a xs ∧ All2 (HandR K H) xs rs ∧ ShR rs ∧ GoodR cs rs ∧
  ∀ H' ls pa, Off p H H' → H pa = none → BoX K C CB CH H' p pa bk cs fs ls [] [] → LRs rs ls rs.length → Q .non H'
section
variable {P : Program} {w : World} {K : PySem.W.Frag} {mg : Str → Option Value} {base : Heap}
theorem boinC {f C CB CH CR : Addr} {fd : FuncData} {k : Nat} (G : FnOk P w K mg base (L2.CX P w) k f fd ["self", "book", "rows"] (spBoIn K C CB CH CR)) : FnOk P w K mg base CX0 k f fd ["self", "book", "rows"] (spBoInC K C CB CH) := calm G fun vs H Q E h => by
  obtain ⟨p, dx, bk, a, cs, fs, xs, rs, rfl, hp, hB, hG, hc, ha, hA, hs, hgr, q⟩ := h
  refine ⟨p, dx, bk, a, cs, fs, xs, rs, rfl, hp, hB, hG, hc, ha, hA, hs, by rw [hgr.1]; exact hc, fun e => absurd hgr.1 e, fun _ => ⟨fun i r e1 e2 _ => ?_, fun _ => q⟩⟩
  rw [hgr.2 i r e1] at e2
  cases e2
end
/-! ### what stays where a lambda was made -/
theorem bag_lst {H : Hp} {b c : Addr} (h : Bag H b c) : ∃ l, H b = some (.lst l) := by
  obtain ⟨cells, a, r, s, h1, _⟩ := h.ex
  exact ⟨_, h1⟩
theorem tabs_off {T : List (Addr × Str)} {H H' : Hp} {b c : Addr} (t : LamX.Tabs T H) (hB : Bag H b c) (o : Off b H H') : LamX.Tabs T H' := fun p hp => by
  obtain ⟨l, hl⟩ := bag_lst hB
  obtain ⟨ps, h1, h2, h3⟩ := t p hp
  refine ⟨ps, o _ _ (fun z => by rw [z, hl] at h1; cases h1) h1, h2, fun pos cv hc => ?_⟩
  obtain ⟨c', e1, e2⟩ := h3 pos cv hc
  exact ⟨c', e1, o _ _ (fun z => by rw [z, hl] at e2; unfold LamX.CodeO at e2; cases e2) e2⟩
theorem sqT_ext {K : PySem.W.Frag} {H H' : Hp} {a : Addr} {xs : List V} (h : SqT K H a xs) (o : LamX.ExtN H H') : SqT K H' a xs := by
  rcases h with (q | ⟨ob, q⟩) | q
  · exact .inl (.inl (o _ _ q fun _ z => nomatch z))
  · exact .inl (.inr ⟨ob, o _ _ q (fun _ z => nomatch z)⟩)
  · exact .inr q
theorem TS.ext {K : PySem.W.Frag} {H H' : Hp} (o : LamX.ExtN H H') : TS K H H' := fun _ _ h => sqT_ext h o
theorem bag_ext {H H' : Hp} {b c : Addr} (h : Bag H b c) (o : LamX.ExtN H H') : Bag H' b c := by
  obtain ⟨cells, a, r, s, h1, h2, h3⟩ := h.ex
  exact ⟨cells, a, r, s, o _ _ h1 (fun _ z => nomatch z), o _ _ h2 (fun _ z => nomatch z), h3⟩
theorem BookAt.ext {K : PySem.W.Frag} {C : Addr} {H H' : Hp} {p : Addr} {cs : List Int} {fs : List (List Tri)} (h : BookAt K C H p cs fs) (e : LamX.ExtN H H') : BookAt K C H' p cs fs := by
  obtain ⟨dx, a, b, xs, h1, h2, h3, h4⟩ := h
  exact ⟨dx, a, b, xs, e _ _ h1 (fun _ z => nomatch z), sqT_ext h2 e, sqT_ext h3 e, h4.mono fun _ _ => FigT.ts (TS.ext e)⟩
theorem HpOf.ext {K : PySem.W.Frag} {C CH : Addr} {H H' : Hp} {p bk : Addr} {cs : List Int} {fs : List (List Tri)} {row : List Int} (h : HpOf K C CH H p bk cs fs row) (o : LamX.ExtN H H') : HpOf K C CH H' p bk cs fs row := by
  obtain ⟨dx, t, h2, h3⟩ := h.hp
  exact ⟨⟨dx, t, o _ _ h2 (fun _ z => nomatch z), h3.ts (TS.ext o)⟩, h.bk.ext o, h.good, h.len, h.inn⟩
/-! ### alike -/
theorem lk_int {K : PySem.W.Frag} {H : Hp} {n : Nat} (i : Int) : Lk K H (n + 1) (.int i) (.int i) := .inl ⟨rfl, .inr (.inr (.inl ⟨i, rfl⟩))⟩
theorem lk_bl {K : PySem.W.Frag} {H : Hp} {n : Nat} (b : Bool) : Lk K H (n + 1) (.bl b) (.bl b) := .inl ⟨rfl, .inr (.inl ⟨b, rfl⟩)⟩
theorem lk_str {K : PySem.W.Frag} {H : Hp} {n : Nat} (z : Str) : Lk K H (n + 1) (.str z) (.str z) := .inl ⟨rfl, .inr (.inr (.inr ⟨z, rfl⟩))⟩
theorem lk_non {K : PySem.W.Frag} {H : Hp} {n : Nat} : Lk K H (n + 1) .non .non := .inl ⟨rfl, .inl rfl⟩
/-- two lists of things that are alike one by one -/
theorem lk_seq {K : PySem.W.Frag} {H : Hp} {n : Nat} {a b : Addr} {xs ys : List V} (h : (SqL K H a xs ∧ SqL K H b ys) ∨ (SqT K H a xs ∧ SqT K H b ys)) (hl : xs.length = ys.length) (h1 : xs.length ≤ 1000) (q : ∀ (i : Nat) (x y : V), xs[i]? = some x → ys[i]? = some y → Lk K H n x y) : Lk K H (n + 1) (.ref a) (.ref b) :=
  .inr ⟨a, b, xs, ys, rfl, rfl, h, hl, h1, q⟩
theorem ints_alike {K : PySem.W.Frag} {H : Hp} {n : Nat} (c : List Int) : ∀ (i : Nat) (x y : V), (c.map V.int)[i]? = some x → (c.map V.int)[i]? = some y → Lk K H (n + 1) x y := fun i x y hx hy => by
  rw [hx] at hy
  obtain rfl := Option.some.inj hy
  rw [List.getElem?_map] at hx
  cases hz : c[i]? with
  | none => rw [hz] at hx; cases hx
  | some z =>
    rw [hz] at hx
    obtain rfl := Option.some.inj hx
    exact lk_int z
theorem lk_intL {K : PySem.W.Frag} {H : Hp} {n : Nat} {a b : Addr} {c : List Int} (h1 : SqL K H a (c.map V.int)) (h2 : SqL K H b (c.map V.int)) (hl : c.length ≤ 1000) : Lk K H (n + 2) (.ref a) (.ref b) :=
  lk_seq (.inl ⟨h1, h2⟩) rfl (by rw [List.length_map]; exact hl) (ints_alike c)
theorem lk_intT {K : PySem.W.Frag} {H : Hp} {n : Nat} {a b : Addr} {c : List Int} (h1 : SqT K H a (c.map V.int)) (h2 : SqT K H b (c.map V.int)) (hl : c.length ≤ 1000) : Lk K H (n + 2) (.ref a) (.ref b) :=
  lk_seq (.inr ⟨h1, h2⟩) rfl (by rw [List.length_map]; exact hl) (ints_alike c)
theorem lk_two {α : Type} {K : PySem.W.Frag} {H : Hp} {n : Nat} {R S : V → α → Prop} {xs ys : List V} {as : List α} (h1 : All2 R xs as) (h2 : All2 S ys as) (q : ∀ x y a, a ∈ as → R x a → S y a → Lk K H n x y) : ∀ (i : Nat) (x y : V), xs[i]? = some x → ys[i]? = some y → Lk K H n x y := fun i x y hx hy => by
  obtain ⟨a, ha, r⟩ := h1.get hx
  obtain ⟨b, hb, s⟩ := h2.get hy
  rw [ha] at hb
  obtain rfl := Option.some.inj hb
  exact q x y a (List.mem_of_getElem? ha) r s
theorem lk_lists {K : PySem.W.Frag} {H : Hp} {n : Nat} {a b : Addr} {xs ys : List V} {ts : List (List Int)} (h1 : SqL K H a xs) (h2 : SqL K H b ys) (h3 : All2 (fun v t => ∃ a, v = .ref a ∧ SqL K H a (t.map V.int)) xs ts) (h4 : All2 (fun v t => ∃ a, v = .ref a ∧ SqL K H a (t.map V.int)) ys ts) (hl : ts.length ≤ 1000) (hd : ∀ t ∈ ts, t.length ≤ 1000) : Lk K H (n + 3) (.ref a) (.ref b) :=
  lk_seq (.inl ⟨h1, h2⟩) (by rw [h3.len, h4.len]) (by rw [h3.len]; exact hl) (lk_two h3 h4 fun x y t ht ⟨c, e1, r1⟩ ⟨d, e2, r2⟩ => by
    subst e1
    subst e2
    exact lk_intL r1 r2 (hd t ht))
/-! ### rows alike -/
theorem lk_row {K : PySem.W.Frag} {H : Hp} {n : Nat} {a b : Addr} {c d : List Int} (h1 : RowAt K H a c d) (h2 : RowAt K H b c d) (l1 : c.length ≤ 1000) (l2 : d.length ≤ 1000) : Lk K H (n + 3) (.ref a) (.ref b) := by
  obtain ⟨x, y, p1, p2, p3⟩ := h1
  obtain ⟨x', y', q1, q2, q3⟩ := h2
  refine lk_seq (.inr ⟨p1, q1⟩) rfl (show (2 : Nat) ≤ 1000 by decide) fun i v u hv hu => ?_
  match i, hv, hu with
  | 0, hv, hu =>
    cases hv
    cases hu
    exact lk_intT p2 q2 l1
  | 1, hv, hu =>
    cases hv
    cases hu
    exact lk_intT p3 q3 l2
theorem lk_rows {K : PySem.W.Frag} {H : Hp} {n : Nat} {a b : Addr} {xs ys : List V} {ls : List Row2} (h1 : SqL K H a xs) (h2 : SqL K H b ys) (hx : All2 (fun v r => ∃ a, v = .ref a ∧ RowAt K H a r.1 r.2) xs ls) (hy : All2 (fun v r => ∃ a, v = .ref a ∧ RowAt K H a r.1 r.2) ys ls) (hl : ls.length ≤ 1000) (sh : ∀ r ∈ ls, r.1.length ≤ 1000 ∧ r.2.length ≤ 1000) : Lk K H (n + 4) (.ref a) (.ref b) :=
  lk_seq (.inl ⟨h1, h2⟩) (by rw [hx.len, hy.len]) (by rw [hx.len]; exact hl) (lk_two hx hy fun y1 y2 r hr ⟨a1, e1, r1⟩ ⟨a2, e2, r2⟩ => by
    subst e1 e2
    exact lk_row (n := n) r1 r2 (sh r hr).1 (sh r hr).2)
theorem lk_2 {K : PySem.W.Frag} {H : Hp} {n : Nat} {a b : Addr} {x y u v : V} (h : (SqL K H a [x, y] ∧ SqL K H b [u, v]) ∨ (SqT K H a [x, y] ∧ SqT K H b [u, v])) (h1 : Lk K H n x u) (h2 : Lk K H n y v) : Lk K H (n + 1) (.ref a) (.ref b) :=
  lk_seq h rfl (show (2 : Nat) ≤ 1000 by decide) fun i p q hp hq => match i, hp, hq with
    | 0, hp, hq => by
      cases hp
      cases hq
      exact h1
    | 1, hp, hq => by
      cases hp
      cases hq
      exact h2
/-! ### boards where the bag is asked -/
theorem All2.refs {α : Type} {R : V → α → Prop} : ∀ {xs : List V} {as : List α}, (∀ v a, R v a → ∃ x, v = V.ref x) → All2 R xs as → ∀ v ∈ xs, ∃ x, v = V.ref x
  | [], _, _, _, _, hv => nomatch hv
  | _ :: _, [], _, h, _, _ => h.elim
  | v :: r, a :: as, k, h, u, hu => by
    rcases List.mem_cons.mp hu with rfl | hu
    · exact k _ _ h.1
    · exact All2.refs k h.2 u hu
section
variable {K : PySem.W.Frag} {C CB CH : Addr} {H H' : Hp} {p pa bk b c : Addr} {cs : List Int} {fs : List (List Tri)} {rs : List Row2} {ps qs : List (List Row2)}
theorem BoX.move (h : BoX K C CB CH H p pa bk cs fs rs ps qs) (t : TS K H H') (ki : ∀ a C dx fl, H a = some (.ins C dx fl) → H' a = some (.ins C dx fl)) (ka : ∀ xs, H pa = some (.lst xs) → H' pa = some (.lst xs))
    (kf : ∀ fu ys, H fu = some (.lst ys) → (∀ v ∈ ys, ∃ x, v = V.ref x) → H' fu = some (.lst ys)) : BoX K C CB CH H' p pa bk cs fs rs ps qs := by
  obtain ⟨dx, pl, fu, be, mf, wa, wh, xs, ys, row, h1, h2, h3, h4, h5, h6, h7, h8, h9⟩ := h
  have kb : ∀ {k : Addr}, BookAt K C H k cs fs → BookAt K C H' k cs fs := fun ⟨d, a1, b1, zs, z1, z2, z3, z4⟩ => ⟨d, a1, b1, zs, ki _ _ _ _ z1, t _ _ z2, t _ _ z3, z4.mono fun _ _ => FigT.ts t⟩
  refine ⟨dx, pl, fu, be, mf, wa, wh, xs, ys, row, ki _ _ _ _ h1, kb h2, h3.ts t, ka _ h4, h5.mono fun _ _ ⟨a, e, h⟩ => ⟨a, e, h.ts t⟩, kf _ _ h6 (h7.refs fun _ _ ⟨a, e, _⟩ => ⟨a, e⟩), h7.mono fun _ _ ⟨a, e, h⟩ => ⟨a, e, h.ts t⟩, ?_, h9⟩
  obtain ⟨d2, tt, y1, y2⟩ := h8.hp
  exact ⟨⟨d2, tt, ki _ _ _ _ y1, y2.ts t⟩, kb h8.bk, h8.good, h8.len, h8.inn⟩
theorem bag_ints (hB : Bag H b c) {ys : List V} (h : H b = some (.lst ys)) (k : ∀ v ∈ ys, ∃ x, v = V.ref x) : False := by
  obtain ⟨cells, a, r, s, h1, _⟩ := hB.ex
  rw [h1] at h
  injection h with h
  injection h with h
  obtain ⟨x, e⟩ := k (.int a) (by rw [← h]; exact List.mem_cons_of_mem _ (List.mem_cons_self ..))
  cases e
theorem BoX.off (h : BoX K C CB CH H p pa bk cs fs rs ps qs) (hB : Bag H b c) (o : Off b H H') (n : pa ≠ b) : BoX K C CB CH H' p pa bk cs fs rs ps qs := by
  obtain ⟨cells, a, r, s, h1, _⟩ := hB.ex
  exact h.move (TS.bag o hB) (fun x C dx fl e => o _ _ (fun z => by rw [z, h1] at e; cases e) e) (fun xs e => o _ _ n e) fun fu ys e k => o _ _ (fun z => by subst z; exact bag_ints hB e k) e
theorem BoX.ins (h : BoX K C CB CH H p pa bk cs fs rs ps qs) : ∃ (dx : Addr) (o a u m i e w k : V), H p = some (.ins CB dx (boF o a u m i e w k)) := by
  obtain ⟨dx, pl, fu, be, mf, wa, wh, xs, ys, row, h1, _⟩ := h
  exact ⟨_, _, _, _, _, _, _, _, _, h1⟩
theorem BoX.kinds (h : BoX K C CB CH H p pa bk cs fs rs ps qs) : (∃ dx fl, H p = some (.ins CB dx fl)) ∧ ∃ xs, H pa = some (.lst xs) := by
  obtain ⟨dx, pl, fu, be, mf, wa, wh, xs, ys, row, h1, h2, h3, h4, _⟩ := h
  exact ⟨⟨_, _, h1⟩, _, h4⟩
end
/-! ### a dict comprehension over a list that stays -/
theorem dc_list {K : PySem.W.Frag} {a : Addr} {xs : List V} {g : TG} {tt : TT} {tk tv : TE} {vs : List Nat} {σ : L2.St} {H1 : Hp} {D : Addr} {Qd : Hp → Prop} (Pv : Nat → Hp → Prop) (h0 : Pv 0 (upd H1 D (.dK []))) (hl : ∀ i H, i ≤ xs.length → Pv i H → SqL K H a xs) (hs : ∀ i x H, xs[i]? = some x → Pv i H → g x (wipe σ vs) H fun σ2 H2 => wipe σ2 vs = wipe σ vs ∧ tt σ2 H2 fun b H3 => if b = true then tk σ2 H3 fun y H4 => tv σ2 H4 fun z H5 => ∃ kvs k, y = kV k ∧ H5 D = some (.dK kvs) ∧ kvs.length < sizeLine ∧ Pv (i + 1) (upd H5 D (.dK (putK kvs k z))) else Pv (i + 1) H3) (hd : ∀ H, Pv xs.length H → Qd H) : ∃ W : Nat → Nat → Hp → Prop, (∃ m, W 0 m (upd H1 D (.dK []))) ∧ ∀ i m H, W i m H → ((Itl K a).stop i H ∧ Qd H) ∨ ((Itl K a).go i H ∧ ∃ Nx : Hp → Prop, (∀ H', Nx H' → ∃ m', m' < m ∧ W (i + 1) m' H') ∧ ∀ x H', (Itl K a).yld i H x H' → g x (wipe σ vs) H' fun σ2 H2 => wipe σ2 vs = wipe σ vs ∧ tt σ2 H2 fun b H3 => if b = true then tk σ2 H3 fun y H4 => tv σ2 H4 fun z H5 => ∃ kvs k, y = kV k ∧ H5 D = some (.dK kvs) ∧ kvs.length < sizeLine ∧ Nx (upd H5 D (.dK (putK kvs k z))) else Nx H3) := by
  refine ⟨fun i m H => i ≤ xs.length ∧ m = xs.length - i ∧ Pv i H, ⟨_, Nat.zero_le _, rfl, h0⟩, fun i m H ⟨hi, em, p⟩ => ?_⟩
  subst em
  have st := hl i H hi p
  rcases Nat.lt_or_eq_of_le hi with lt | eq
  · refine .inr ⟨⟨xs, xs[i], st, List.getElem?_eq_getElem lt⟩, Pv (i + 1), fun H' p' => ⟨_, Nat.sub_lt_sub_left lt (Nat.lt_succ_self i), lt, rfl, p'⟩, fun x H' ⟨eH, gy⟩ => ?_⟩
    subst eH
    exact hs i x _ (gy xs st) p
  · subst eq
    exact .inl ⟨⟨xs, st, Nat.le_refl _⟩, hd H p⟩
/-! ### lists or tuples: what stays, a dict comprehension -/
theorem SqA.same {K : PySem.W.Frag} {H H' : Hp} {a : Addr} {xs : List V} (e : Same H H') (h : SqA K H a xs) : SqA K H' a xs := by
  rcases h with h | h
  · exact .inl (e.seq h)
  · exact .inr (Same.tup e h)
theorem SqA.insOff {K : PySem.W.Frag} {H H' : Hp} {p C dx a : Addr} {fs : List (Str × V)} {xs : List V} (e : Off p H H') (h : H p = some (.ins C dx fs)) (q : SqA K H a xs) : SqA K H' a xs := by
  rcases q with q | q
  · exact .inl (seqL_off e h q)
  · exact .inr (TS.ins e h _ _ q)
theorem dc_seq {K : PySem.W.Frag} {H0 H1 : Hp} {a : Addr} {xs : List V} {g : TG} {tt : TT} {tk tv : TE} {vs : List Nat} {σ : L2.St} {Qd : Addr → Hp → Prop} (h : SqA K H0 a xs) (s1 : Same H0 H1) (Pv : Addr → Nat → Hp → Prop) (h0 : ∀ D, H1 D = none → Pv D 0 (upd H1 D (.dK []))) (hl : ∀ D, H1 D = none → ∀ i H, i ≤ xs.length → Pv D i H → Same H0 H)
    (hs : ∀ D, H1 D = none → ∀ i x H, xs[i]? = some x → Pv D i H → g x (wipe σ vs) H fun σ2 H2 => wipe σ2 vs = wipe σ vs ∧ tt σ2 H2 fun b H3 => if b = true then tk σ2 H3 fun y H4 => tv σ2 H4 fun z H5 => ∃ kvs k, y = kV k ∧ H5 D = some (.dK kvs) ∧ kvs.length < sizeLine ∧ Pv D (i + 1) (upd H5 D (.dK (putK kvs k z))) else Pv D (i + 1) H3) (hd : ∀ D, H1 D = none → ∀ H, Pv D xs.length H → Qd D H) :
    (∃ xs, SqL K H1 a xs) ∧ (∀ D, H1 D = none → ∃ W : Nat → Nat → Hp → Prop, (∃ m, W 0 m (upd H1 D (.dK []))) ∧ ∀ i m H, W i m H → ((Itl K a).stop i H ∧ Qd D H) ∨ ((Itl K a).go i H ∧ ∃ Nx : Hp → Prop, (∀ H', Nx H' → ∃ m', m' < m ∧ W (i + 1) m' H') ∧ ∀ x H', (Itl K a).yld i H x H' → g x (wipe σ vs) H' fun σ2 H2 => wipe σ2 vs = wipe σ vs ∧ tt σ2 H2 fun b H3 => if b = true then tk σ2 H3 fun y H4 => tv σ2 H4 fun z H5 => ∃ kvs k, y = kV k ∧ H5 D = some (.dK kvs) ∧ kvs.length < sizeLine ∧ Nx (upd H5 D (.dK (putK kvs k z))) else Nx H3)) ∨
    (∃ xs, SqT K H1 a xs) ∧ (∀ D, H1 D = none → ∃ W : Nat → Nat → Hp → Prop, (∃ m, W 0 m (upd H1 D (.dK []))) ∧ ∀ i m H, W i m H → ((Itt K a).stop i H ∧ Qd D H) ∨ ((Itt K a).go i H ∧ ∃ Nx : Hp → Prop, (∀ H', Nx H' → ∃ m', m' < m ∧ W (i + 1) m' H') ∧ ∀ x H', (Itt K a).yld i H x H' → g x (wipe σ vs) H' fun σ2 H2 => wipe σ2 vs = wipe σ vs ∧ tt σ2 H2 fun b H3 => if b = true then tk σ2 H3 fun y H4 => tv σ2 H4 fun z H5 => ∃ kvs k, y = kV k ∧ H5 D = some (.dK kvs) ∧ kvs.length < sizeLine ∧ Nx (upd H5 D (.dK (putK kvs k z))) else Nx H3)) := by
  rcases h with h | h
  · exact .inl ⟨⟨_, s1.seq h⟩, fun D nD => dc_list (K := K) (a := a) (xs := xs) (Pv D) (h0 D nD) (fun i H hi hP => (hl D nD i H hi hP).seq h) (hs D nD) (hd D nD)⟩
  · exact .inr ⟨⟨_, Same.tup s1 h⟩, fun D nD => dc_tup (K := K) (a := a) (xs := xs) (Pv D) (h0 D nD) (fun i H hi hP => Same.tup (hl D nD i H hi hP) h) (hs D nD) (hd D nD)⟩
/-! ### a figure as a list or a tuple of triples -/
def FigA (K : PySem.W.Frag) (H : Hp) (v : V) (f : List Tri) : Prop := ∃ a xs, v = .ref a ∧ SqA K H a xs ∧ All2 (TriAt K H) xs f
theorem FigA.same {K : PySem.W.Frag} {H H' : Hp} (e : Same H H') {v : V} {f : List Tri} (h : FigA K H v f) : FigA K H' v f := by
  obtain ⟨a, xs, h1, h2, h3⟩ := h
  exact ⟨a, xs, h1, h2.same e, h3.mono fun _ _ => TriAt.ts (TS.of e)⟩
theorem FigA.insOff {K : PySem.W.Frag} {H H' : Hp} {p C dx : Addr} {fs : List (Str × V)} (e : Off p H H') (hp : H p = some (.ins C dx fs)) {v : V} {f : List Tri} (h : FigA K H v f) : FigA K H' v f := by
  obtain ⟨a, xs, h1, h2, h3⟩ := h
  exact ⟨a, xs, h1, h2.insOff e hp, h3.mono fun _ _ => TriAt.ts (TS.ins e hp)⟩
theorem FigT.any {K : PySem.W.Frag} {H : Hp} {v : V} {f : List Tri} (h : FigT K H v f) : FigA K H v f := by
  obtain ⟨a, xs, h1, h2, h3⟩ := h
  exact ⟨a, xs, h1, .inr h2, h3⟩
/-! ### pads_of, mask_of, bar, copy_of_figure of such -/
def spPadsA (K : PySem.W.Frag) : Sp := fun vs H Q _ => ∃ (v : V) (f : List Tri), vs = [v] ∧ FigA K H v f ∧ f.length ≤ 100 ∧ ∀ (H' : Hp) (p : Addr), Same H H' → H p = none → H' p = some (.lst ((f.map (·.1)).map V.int)) → Q (.ref p) H'
def spMaskA (K : PySem.W.Frag) : Sp := fun vs H Q _ => ∃ (v : V) (f : List Tri), vs = [v] ∧ FigA K H v f ∧ f.length ≤ 100 ∧ PadsUp f ∧ ∀ H' : Hp, Same H H' → Q (.int (maskN f : Nat)) H'
def spBarA (K : PySem.W.Frag) : Sp := fun vs H Q _ => ∃ (v u : V) (f g : List Tri), vs = [v, u] ∧ FigA K H v f ∧ FigA K H u g ∧ f.length ≤ 100 ∧ g.length ≤ 100 ∧ ∀ H', Same H H' → Q (.bl (barB f g)) H'
def spCopyFA (K : PySem.W.Frag) : Sp := fun vs H Q _ => ∃ (v : V) (f : List Tri), vs = [v] ∧ FigA K H v f ∧ f.length ≤ 100 ∧ ∀ H' u, Same H H' → FigT K H' u f → Q u H'
section
variable {P : Program} {w : World} {K : PySem.W.Frag} {mg : Str → Option Value} {base : Heap}
theorem ok_padsofA {f : Addr} {fd : FuncData} {k : Nat} (F : Fun K "pads_of" "pads_of" sPadsOf f fd) : FnOk P w K mg base CX0 (k + 1) f fd ["figure"] (spPadsA K) := by
  refine F.ok scPadsOf (fun vs H Q E h => ?_) (fun cdv A outer s H vs Q E hr h => ?_)
  · obtain ⟨v, f, rfl, _⟩ := h
    rfl
  · obtain ⟨v, f, rfl, hV, hfl, q⟩ := h
    obtain ⟨a, xs, rfl, ha, hxs⟩ := hV
    refine ⟨_, pss_one (ps_ret (pe_lc (own := [("pad", 1), ("note", 2), ("depth", 3)]) (g := g3 K 1 2 3) (tt := tYes) rfl scPadsOf.nd (pi_seq (pv 0))
        (blkOk_by (own := [("pad", 1), ("note", 2), ("depth", 3)]) (N := nPadsOf) (sc := defScope sPadsOf) (by decide +kernel))
        (fun _ _ _ _ _ => pg_tup rfl (pgs_cons (pg_name (i := 1) scPadsOf.nd rfl (.inl rfl)) (pgs_cons (pg_name (i := 2) scPadsOf.nd rfl (.inl rfl)) (pgs_cons (pg_name (i := 3) scPadsOf.nd rfl (.inl rfl)) pgs_nil)))) (fun _ _ _ _ _ => pts_nil)
        (fun _ _ _ _ _ => pv 1))), ?_⟩
    refine ⟨.ref a, rfl, a, rfl, lc_seq (K := K) ha (Same.refl H) (fun D i H' => Same H H' ∧ H' D = some (.lst (((f.take i).map (·.1)).map V.int))) (fun D nD => ⟨same_upd nD, upd_same⟩) (fun D nD i H' _ hP => hP.1) (fun D nD i x H' hx hP => ?_) (fun D nD H1 hP => ?_)⟩
    · obtain ⟨sm, hD⟩ := hP
      obtain ⟨t, ht, tp, rfl, htp⟩ := hxs.get hx
      refine ⟨tp, triV t, rfl, Same.tup sm htp, rfl, _, _, rfl, _, _, rfl, _, _, rfl, rfl, rfl, yesT ⟨_, rfl, _, hD, ?_, Same.offUpd sm nD, ?_⟩⟩
      · rw [List.length_map, List.length_map, List.length_take]
        exact small1000 (by omega)
      · rw [upd_same, take_snoc ht, List.map_append, List.map_append]
        rfl
    · obtain ⟨sm, hD⟩ := hP
      rw [hxs.len, List.take_length] at hD
      exact q H1 D sm nD hD
theorem ok_maskA {f : Addr} {fd : FuncData} {k : Nat} (F : Fun K "mask_of" "mask_of" sMask f fd) (ms : mg "sum" = none) : FnOk P w K mg base CX0 (k + 1) f fd ["figure"] (spMaskA K) := by
  refine F.ok scMask (fun vs H Q E h => ?_) (fun cdv A outer s H vs Q E hr h => ?_)
  · obtain ⟨v, f, rfl, _⟩ := h
    rfl
  · obtain ⟨v, f, rfl, hV, hfl, hU, q⟩ := h
    obtain ⟨a, xs, rfl, ha, hxs⟩ := hV
    refine ⟨_, pss_one (ps_ret (pe_callB (cr_sum rfl) (by rfl) ms (by decide +kernel) (pa_cons (pe_lc (own := [("pad", 1), ("note", 2), ("depth", 3)]) (g := g3 K 1 2 3) (tt := tYes) rfl scMask.nd (pi_seq (pv 0))
        (blkOk_by (own := [("pad", 1), ("note", 2), ("depth", 3)]) (N := nMask) (sc := defScope sMask) (by decide +kernel))
        (fun _ _ _ _ _ => pg_tup rfl (pgs_cons (pg_name (i := 1) scMask.nd rfl (.inl rfl)) (pgs_cons (pg_name (i := 2) scMask.nd rfl (.inl rfl)) (pgs_cons (pg_name (i := 3) scMask.nd rfl (.inl rfl)) pgs_nil)))) (fun _ _ _ _ _ => pts_nil)
        (fun _ _ _ _ _ => pe_op op_shl pe_int (pv 1))) pa_nil))), ?_⟩
    refine ⟨.ref a, rfl, a, rfl, lc_seq (K := K) ha (Same.refl H) (fun D i H' => Same H H' ∧ H' D = some (.lst ((masksI (f.take i)).map V.int))) (fun D nD => ⟨same_upd nD, upd_same⟩) (fun D nD i H' _ hP => hP.1) (fun D nD i x H' hx hP => ?_) (fun D nD H1 hP => ?_)⟩
    · obtain ⟨sm, hD⟩ := hP
      obtain ⟨t, ht, tp, rfl, htp⟩ := hxs.get hx
      have m := List.mem_of_getElem? ht
      have b1 := hU.lo t m
      have b2 := hU.hi t m
      refine ⟨tp, triV t, rfl, Same.tup sm htp, rfl, _, _, rfl, _, _, rfl, _, _, rfl, rfl, rfl, yesT ⟨_, rfl, 1, t.1, rfl, rfl, ⟨b1, by omega, by decide⟩, _, hD, ?_, Same.offUpd sm nD, ?_⟩⟩
      · unfold masksI
        rw [List.length_map, List.length_map, List.length_take]
        exact small1000 (by omega)
      · unfold masksI
        rw [upd_same, take_snoc ht, List.map_append, List.map_append]
        rfl
    · obtain ⟨sm, hD⟩ := hP
      rw [hxs.len, List.take_length] at hD
      refine ⟨D, _, rfl, SqL.of hD, ?_⟩
      rw [masksI_sum]
      exact q H1 sm
theorem ok_barA {f : Addr} {fd : FuncData} {k : Nat} (F : Fun K "bar" "bar" sBar f fd) (ma : mg "any" = none) : FnOk P w K mg base CX0 (k + 1) f fd ["one", "other"] (spBarA K) := by
  refine F.ok scBar (fun vs H Q E h => ?_) (fun cdv A outer s H vs Q E hr h => ?_)
  · obtain ⟨v, u, f, g, rfl, _⟩ := h
    rfl
  · obtain ⟨v, u, f, g, rfl, hV, hU, hfl, hgl, q⟩ := h
    obtain ⟨a, xs, rfl, ha, hxs⟩ := hV
    obtain ⟨b, ys, rfl, hb, hys⟩ := hU
    refine ⟨_, pss_cons (ps_set (i := 2) scBar.nd rfl (.inr rfl) (pe_dc (own := [("pad", 3), ("note", 4), ("depth", 5)]) (g := g3 K 3 4 5) (tt := tYes) rfl scBar.nd (pi_seq (pv 0))
        (blkOk_by (own := [("pad", 3), ("note", 4), ("depth", 5)]) (N := nBar) (sc := defScope sBar) (by decide +kernel))
        (fun _ _ _ _ _ => pg_tup rfl (pgs_cons (pg_name (i := 3) scBar.nd rfl (.inl rfl)) (pgs_cons (pg_name (i := 4) scBar.nd rfl (.inl rfl)) (pgs_cons (pg_name (i := 5) scBar.nd rfl (.inl rfl)) pgs_nil)))) (fun _ _ _ _ _ => pts_nil)
        (fun _ _ _ _ _ => pv 3) (fun _ _ _ _ _ => pv 4)))
      (pss_one (ps_ret (pe_callB (cr_any rfl) (by rfl) ma (by decide +kernel) (pa_cons (pe_lc (own := [("pad", 3), ("note", 4), ("depth", 5)]) (g := g3 K 3 4 5) (tt := tYes) rfl scBar.nd (pi_seq (pv 1))
        (blkOk_by (own := [("pad", 3), ("note", 4), ("depth", 5)]) (N := nBar) (sc := defScope sBar) (by decide +kernel))
        (fun _ _ _ _ _ => pg_tup rfl (pgs_cons (pg_name (i := 3) scBar.nd rfl (.inl rfl)) (pgs_cons (pg_name (i := 4) scBar.nd rfl (.inl rfl)) (pgs_cons (pg_name (i := 5) scBar.nd rfl (.inl rfl)) pgs_nil)))) (fun _ _ _ _ _ => pts_nil)
        (fun _ _ _ _ _ => pe_cmpR op_ne (pe_dget2 (hu_of hr) (pv 2) (pv 3) (pv 4) ⟨rfl, rfl, rfl, rfl⟩) (pv 4) (nomark _))) pa_nil)))), ?_⟩
    refine ⟨.ref a, rfl, a, rfl, dc_seq (K := K) ha (Same.refl H) (fun D i H' => Same H H' ∧ H' D = some (.dK (mergeK [] (kvsOf (f.take i))))) (fun D nD => ⟨same_upd nD, upd_same⟩) (fun D nD i H' _ hP => hP.1) (fun D nD i x H' hx hP => ?_) (fun D nD H1 hP => ?_)⟩
    · obtain ⟨sm, hD⟩ := hP
      obtain ⟨t, ht, tp, rfl, htp⟩ := hxs.get hx
      refine ⟨tp, triV t, rfl, Same.tup sm htp, rfl, _, _, rfl, _, _, rfl, _, _, rfl, rfl, rfl, yesT ⟨_, rfl, _, rfl, _, Sum.inl t.1, rfl, hD, ?_, Same.offUpd sm nD, ?_⟩⟩
      · have := merge_len (f.take i)
        rw [List.length_take] at this
        exact small1000 (by omega)
      · rw [upd_same, take_snoc ht, merge_snoc]
    · obtain ⟨s1, hD⟩ := hP
      rw [hxs.len, List.take_length] at hD
      refine ⟨.ref b, rfl, b, rfl, lc_seq (K := K) hb s1 (fun D2 i H' => Same H1 H' ∧ H' D2 = some (.lst (((g.take i).map fun u => !decide ((noteOf f u.1).getD u.2.1 = u.2.1)).map V.bl))) (fun D2 nD2 => ⟨same_upd nD2, upd_same⟩) (fun D2 nD2 i H' _ hP => s1.trans hP.1) (fun D2 nD2 i x H' hx hP => ?_) (fun D2 nD2 H2 hP => ?_)⟩
      · obtain ⟨sm, hD2⟩ := hP
        obtain ⟨t, ht, tp, rfl, htp⟩ := hys.get hx
        refine ⟨tp, triV t, rfl, Same.tup (s1.trans sm) htp, rfl, _, _, rfl, _, _, rfl, _, _, rfl, rfl, rfl, yesT ?_⟩
        refine ⟨_, rfl, D, rfl, .inl ⟨_, .inl (sm _ _ hD)⟩, _, rfl, _, rfl, _, DGet.k (k := Sum.inl t.1) (sm _ _ hD), _, rfl, ?_⟩
        rw [val_fig]
        have ev : (((noteOf f t.1).map V.int).getD (V.int t.2.1)) = V.int ((noteOf f t.1).getD t.2.1) := by
          cases noteOf f t.1 <;> rfl
        rw [ev]
        refine ⟨rfl, _, hD2, ?_, Same.offUpd sm nD2, ?_⟩
        · rw [List.length_map, List.length_map, List.length_take]
          exact small1000 (by omega)
        · rw [upd_same, take_snoc ht, List.map_append, List.map_append]
          have : (!decide (V.int ((noteOf f t.1).getD t.2.1) = V.int t.2.1)) = (!decide ((noteOf f t.1).getD t.2.1 = t.2.1)) := by
            congr 1
            rw [decide_eq_decide]
            exact ⟨fun z => V.int.inj z, fun z => by rw [z]⟩
          rw [this]
          rfl
      · obtain ⟨sm, hD2⟩ := hP
        rw [hys.len, List.take_length] at hD2
        refine ⟨D2, _, rfl, SqL.of hD2, ?_⟩
        have := q _ (s1.trans sm)
        unfold barB at this
        rw [List.any_map]
        exact this
theorem ok_copyfA {f : Addr} {fd : FuncData} {k : Nat} (F : Fun K "copy_of_figure" "copy_of_figure" sCopyF f fd) (mt : mg "tuple" = none) : FnOk P w K mg base CX0 (k + 1) f fd ["figure"] (spCopyFA K) := by
  refine F.ok scCopyF (fun vs H Q E h => ?_) (fun cdv A outer s H vs Q E hr h => ?_)
  · obtain ⟨v, f, rfl, _⟩ := h
    rfl
  · obtain ⟨v, f, rfl, hV, hfl, q⟩ := h
    obtain ⟨a, xs, rfl, ha, hxs⟩ := hV
    refine ⟨_, pss_one (ps_ret (pe_callTy call_tupS (by rfl) mt (by decide +kernel) (pa_cons (pe_lc (own := [("triple", 1)]) (g := gName 1) (tt := tYes) rfl scCopyF.nd (pi_seq (pv 0))
        (blkOk_by (own := [("triple", 1)]) (N := nCopyF) (sc := defScope sCopyF) (by decide +kernel)) (fun _ _ _ _ _ => pg_name (i := 1) scCopyF.nd rfl (.inl rfl)) (fun _ _ _ _ _ => pts_nil)
        (fun _ _ _ _ _ => pe_callTy (r := rTupS K) call_tupS (by rfl) mt (by decide +kernel) (pa_cons (pv 1) pa_nil))) pa_nil))), ?_⟩
    refine ⟨.ref a, rfl, a, rfl, lc_seq (K := K) ha (Same.refl H) (fun D i H' => Same H H' ∧ ∃ zs, H' D = some (.lst zs) ∧ All2 (TriAt K H') zs (f.take i)) (fun D nD => ⟨same_upd nD, [], upd_same, True.intro⟩) (fun D nD i H' _ hP => hP.1) (fun D nD i x H' hx hP => ?_) (fun D nD H1 hP => ?_)⟩
    · obtain ⟨sm, zs, hD, hz⟩ := hP
      obtain ⟨t, ht, tp, rfl, htp⟩ := hxs.get hx
      refine ⟨rfl, yesT ⟨.ref tp, rfl, tp, _, rfl, .inr (Same.tup sm htp), fun l H2 s2 hl => ?_⟩⟩
      have hD2 := s2 _ _ hD
      refine ⟨_, hD2, ?_, Same.offUpd (sm.trans s2) nD, zs ++ [.ref l], upd_same, ?_⟩
      · rw [hz.len, List.length_take]
        exact small1000 (by omega)
      · rw [take_snoc ht]
        exact All2.snoc ⟨l, rfl, TS.upd hD2 _ _ hl⟩ (hz.mono fun _ _ => TriAt.ts ((TS.of s2).trans (TS.upd hD2)))
    · obtain ⟨sm, zs, hD, hz⟩ := hP
      rw [hxs.len, List.take_length] at hz
      refine ⟨D, _, rfl, .inl (SqL.of hD), fun l H2 s2 hl => ?_⟩
      exact q _ _ (sm.trans s2) ⟨l, zs, rfl, hl, hz.mono fun _ _ => TriAt.ts (TS.of s2)⟩
end
/-! ### Book.__init__ over lists or tuples: good colours, good figures; refused for how many there are, and for figures that meet -/
abbrev exc2 (nm f1 f2 : Str) (C : Addr) (P : Program) (w : World) (K : PySem.W.Frag) (mg : Str → Option Value) (base : Heap) (k : Nat) : Prop := ExcK P w K mg base k nm C 2 (fun ws => [(f2, ws.getD 1 .non), (f1, ws.getD 0 .non), ("word", .str nm)])
def mtT (fs : List (List Tri)) (i j : Nat) : Bool := okB (fs.getD i []) (fs.getD j [])
def FirstT (fs : List (List Tri)) (i j : Nat) : Prop := (i < j ∧ j < fs.length ∧ mtT fs i j = false) ∧ ∀ i' j', i' < j' → j' < fs.length → (i' < i ∨ (i' = i ∧ j' < j)) → mtT fs i' j' = true
def NoneT (fs : List (List Tri)) : Prop := ∀ i j, i < j → j < fs.length → mtT fs i j = true
def spCColA (K : PySem.W.Frag) (C : Addr) : Sp := fun vs H Q E => ∃ (a : Addr) (cs : List Int), vs = [.ref a] ∧ SqA K H a (cs.map V.int) ∧ (∀ x ∈ cs, colOk x) ∧ (1 ≤ cs.length ∧ cs.length ≤ 6 → ∀ H', Same H H' → Q .non H') ∧ (¬ (1 ≤ cs.length ∧ cs.length ≤ 6) → refuseN 0 C [-1] H E)
def spIsFigA (K : PySem.W.Frag) : Sp := fun vs H Q _ => ∃ (a : Addr) (cs : List Int) (v : V) (f : List Tri), vs = [.ref a, v] ∧ SqA K H a (cs.map V.int) ∧ FigA K H v f ∧ GoodF cs f ∧ f.length ≤ 100 ∧ ∀ H', Same H H' → Q (.bl true) H'
def spCFigA (K : PySem.W.Frag) : Sp := fun vs H Q _ => ∃ (a b : Addr) (cs : List Int) (xs : List V) (fs : List (List Tri)), vs = [.ref a, .ref b] ∧ SqA K H a (cs.map V.int) ∧ SqA K H b xs ∧ All2 (FigA K H) xs fs ∧ (∀ f ∈ fs, GoodF cs f) ∧ cs.length ≤ 6 ∧ ∀ H', Same H H' → Q .non H'
def spCMeetA (K : PySem.W.Frag) (C : Addr) : Sp := fun vs H Q E => ∃ (b : Addr) (cs : List Int) (xs : List V) (fs : List (List Tri)), vs = [.ref b] ∧ SqA K H b xs ∧ All2 (FigA K H) xs fs ∧ (∀ f ∈ fs, GoodF cs f) ∧ cs.length ≤ 6 ∧ fs.length ≤ 100 ∧ (NoneT fs → ∀ H', Same H H' → Q .non H') ∧ ∀ i j : Nat, FirstT fs i j → refuseN 2 C [(i : Int), (j : Int)] H E
section
variable {P : Program} {w : World} {K : PySem.W.Frag} {mg : Str → Option Value} {base : Heap}
theorem ok_ccolA {f C : Addr} {fd : FuncData} {k : Nat} {tkP tkC : Tok} (F : Fun K "check_colours" "check_colours" sCCol f fd) (R : exc1 0 "BadColours" "at" C P w K mg base k) (ml : mg "len" = none) (me : mg "enumerate" = none) (mP : mg "MOST_PADS" = some (.int 6 tkP)) (mC : mg "MOST_COLOURS" = some (.int 4 tkC)) :
    FnOk P w K mg base (L2.CX P w) (k + 2) f fd ["colours"] (spCColA K C) := by
  refine F.okX scCCol (fun vs H Q E h => ?_) (fun cdv A outer s H vs Q E hr h => ?_)
  · obtain ⟨a, cs, rfl, _⟩ := h
    rfl
  · obtain ⟨a, cs, rfl, ha, hco, q, q1⟩ := h
    refine ⟨_, pss_cons (ps_if (pt_not (pt_chain op_le op_le pe_int (pe_callB call_lenQ (by rfl) ml PySem.boot_len (pa_cons (pv 0) pa_nil)) (pe_glob (v := .int 6) (by rfl) mP ⟨_, rfl⟩)))
        (pss_one (ps_raise rfl (takes_of rfl rfl rfl rfl) (pmk_ref R hr (by rfl) (pa_cons (pe_un un_neg pe_int) pa_nil)))) pss_nil)
      (pss_one (ps_for (passes_of rfl) rfl (pi_enumA (by rfl) me (pa_cons (pv 0) pa_nil)) (pg_tup rfl (pgs_cons (pg_name (i := 1) scCCol.nd rfl (.inl rfl)) (pgs_cons (pg_name (i := 2) scCCol.nd rfl (.inl rfl)) pgs_nil)))
        (pss_one (ps_if (pt_not (pt_chain op_le op_le pe_int (pv 2) (pe_glob (v := .int 4) (by rfl) mC ⟨_, rfl⟩))) (pss_one ps_never) pss_nil)))), ?_⟩
    have bad : ¬ (1 ≤ cs.length ∧ cs.length ≤ 6) → ∀ σ : L2.St, tRef C 1 (fun ws => [("at", ws.getD 0 .non), ("word", .str "BadColours")]) (tCons (tUn (rU fun i => .int (-i)) (L2.tC (.int 1))) tNil) σ H fun cls d H' => E cls d H' := fun e σ =>
      ⟨_, rfl, rfl, (show (1 : Nat) ≤ 1000 by decide), fun dd H2 h1 h2 h3 => q1 e dd H2 (same_ref h1 h2) h3⟩
    refine ⟨.ref a, rfl, a, _, rfl, ha, 1, _, rfl, rfl, _, rfl, ?_⟩
    rw [List.length_map]
    by_cases e1 : 1 ≤ cs.length
    rotate_left
    · rw [decide_eq_false (show ¬ (1 : Int) ≤ ((cs.length : Nat) : Int) by omega)]
      exact iteF ⟨_, rfl, iteT (bad (fun z => e1 z.1) _)⟩
    rw [decide_eq_true (show (1 : Int) ≤ ((cs.length : Nat) : Int) by omega)]
    refine iteT ⟨_, 6, rfl, rfl, _, rfl, ?_⟩
    by_cases e6 : cs.length ≤ 6
    rotate_left
    · rw [decide_eq_false (show ¬ ((cs.length : Nat) : Int) ≤ 6 by omega)]
      exact iteT (bad (fun z => e6 z.2) _)
    rw [decide_eq_true (show ((cs.length : Nat) : Int) ≤ 6 by omega)]
    refine iteF ⟨.ref a, rfl, a, rfl, for_enumA (K := K) ha (Same.refl H) (fun i σ H' => ∃ (y1 y2 : Option V), σ = [some (.ref a), y1, y2] ∧ Same H H') ⟨none, none, rfl, Same.refl H⟩ (fun i σ H' _ hP => ?_) (fun i y σ H' T hy hP nT => ?_) (fun σ H' hP => ?_)⟩
    · obtain ⟨_, _, _, sm⟩ := hP
      exact sm
    · obtain ⟨y1, y2, rfl, sm⟩ := hP
      have u1 := same_upd (o := .tup [.int (i : Nat), y]) nT
      have hi : i < cs.length := by
        have := (List.getElem?_eq_some_iff.mp hy).1
        rw [List.length_map] at this
        exact this
      rw [List.getElem?_map, List.getElem?_eq_getElem hi] at hy
      obtain rfl := Option.some.inj hy
      have hci := hco _ (List.getElem_mem hi)
      refine ⟨T, _, rfl, SqT.of upd_same, rfl, _, _, rfl, _, _, rfl, rfl, ?_⟩
      refine ⟨_, rfl, 1, cs[i], rfl, rfl, _, rfl, ?_⟩
      rw [decide_eq_true hci.1]
      exact iteT ⟨cs[i], 4, rfl, rfl, _, rfl, iteNS hci.2 ⟨_, _, rfl, sm.trans u1⟩⟩
    · obtain ⟨y1, y2, rfl, sm⟩ := hP
      exact q ⟨e1, e6⟩ _ sm
theorem ok_isfigA {f fT fP : Addr} {fd fdT fdP : FuncData} {k : Nat} {tkD : Tok} (F : Fun K "is_figure" "is_figure" sIsFig f fd) (ml : mg "len" = none) (ma : mg "all" = none) (mz : mg "zip" = none) (mD : mg "MOST_DEPTH" = some (.int 3 tkD))
    (FT : Fun K "is_triple" "is_triple" sIsTri fT fdT) (bT : Binds K fdT ["colours", "triple"] []) (gT : mg "is_triple" = some (.ref fT))
    (FP : Fun K "pads_of" "pads_of" sPadsOf fP fdP) (bP : Binds K fdP ["figure"] []) (gP : mg "pads_of" = some (.ref fP)) : FnOk P w K mg base CX0 (k + 2) f fd ["colours", "figure"] (spIsFigA K) := by
  have GT : FnOk P w K mg base CX0 (k + 1) fT fdT ["colours", "triple"] (spIsTri K) := ok_istri FT ml mD
  have GP : FnOk P w K mg base CX0 (k + 1) fP fdP ["figure"] (spPadsA K) := ok_padsofA FP
  refine F.ok scIsFig (fun vs H Q E h => ?_) (fun cdv A outer s H vs Q E hr h => ?_)
  · obtain ⟨a, cs, v, f, rfl, _⟩ := h
    rfl
  · obtain ⟨a, cs, v, f, rfl, ha, hV, hG, hfl, q⟩ := h
    obtain ⟨b, xs, rfl, hb, hxs⟩ := id hV
    refine ⟨_, pss_cons (ps_if (PW.pt (pw_or (pt_cmpR op_eq (pe_callB call_lenQ (by rfl) ml PySem.boot_len (pa_cons (pv 1) pa_nil)) pe_int (nomark _))
        (pw_or1 (pt_not (pt_val (pe_callB (cr_all rfl) (by rfl) ma (by decide +kernel) (pa_cons (pe_lc (own := [("triple", 3)]) (g := gName 3) (tt := tYes) rfl scIsFig.nd (pi_seq (pv 1))
          (blkOk_by (own := [("triple", 3)]) (N := nIsFig) (sc := defScope sIsFig) (by decide +kernel)) (fun _ _ _ _ _ => pg_name (i := 3) scIsFig.nd rfl (.inl rfl)) (fun _ _ _ _ _ => pts_nil)
          (fun _ _ _ _ _ => pe_call GT hr (by rfl) gT FT.kp bT .nil pass0 (pa_cons (pv 0) (pa_cons (pv 3) pa_nil)))) pa_nil))))))) (pss_one (ps_ret pe_bl)) pss_nil)
      (pss_cons (ps_set (i := 2) scIsFig.nd rfl (.inl rfl) (pe_call GP hr (by rfl) gP FP.kp bP .nil pass0 (pa_cons (pv 1) pa_nil)))
      (pss_one (ps_ret (pe_callB (cr_all rfl) (by rfl) ma (by decide +kernel) (pa_cons (pe_lc (own := [("pad", 4), ("later", 5)]) (g := g2 K 4 5) (tt := tYes) rfl scIsFig.nd (pi_zip (by rfl) mz (pa_cons (pv 2) (pa_cons (pe_slice sl_list (pv 2) (po_some pe_int) po_none) pa_nil)))
        (blkOk_by (own := [("pad", 4), ("later", 5)]) (N := nIsFig) (sc := defScope sIsFig) (by decide +kernel))
        (fun _ _ _ _ _ => pg_tup rfl (pgs_cons (pg_name (i := 4) scIsFig.nd rfl (.inl rfl)) (pgs_cons (pg_name (i := 5) scIsFig.nd rfl (.inl rfl)) pgs_nil))) (fun _ _ _ _ _ => pts_nil)
        (fun _ _ _ _ _ => pe_cmpR op_lt (pv 4) (pv 5) (nomark _))) pa_nil))))), ?_⟩
    have hlen : 0 < f.length := List.length_pos_iff.mpr hG.ne
    have hxl := hxs.len
    refine ⟨.ref b, rfl, b, _, rfl, hb, rfl, _, rfl, ?_⟩
    rw [decide_eq_false (fun z => by have := V.int.inj z; omega)]
    refine iteF ?_
    refine ⟨.ref b, rfl, b, rfl, lc_seq (K := K) hb (Same.refl H) (fun D i H' => Same H H' ∧ H' D = some (.lst ((List.replicate i true).map V.bl))) (fun D nD => ⟨same_upd nD, upd_same⟩) (fun D nD i H' _ hP => hP.1) (fun D nD i x H' hx hP => ?_) (fun D nD H1 hP => ?_)⟩
    · obtain ⟨sm, hD⟩ := hP
      obtain ⟨t, ht, htp⟩ := hxs.get hx
      have hi : i < xs.length := (List.getElem?_eq_some_iff.mp hx).1
      refine ⟨rfl, yesT ⟨.ref a, rfl, x, rfl, a, cs, x, t, rfl, ha.same sm, htp.ts (TS.of sm), hG.all t (List.mem_of_getElem? ht), fun H2 s2 => ⟨_, s2 _ _ hD, ?_, Same.offUpd (sm.trans s2) nD, ?_⟩⟩⟩
      · rw [List.length_map, List.length_replicate]
        exact small1000 (by omega)
      · rw [upd_same, List.replicate_succ', List.map_append]
        rfl
    · obtain ⟨s1, hD⟩ := hP
      refine ⟨D, _, rfl, SqL.of hD, ?_⟩
      rw [show (List.replicate xs.length true).all id = true by simp]
      refine ⟨_, rfl, iteF ?_⟩
      refine ⟨_, rfl, _, f, rfl, hV.same s1, hfl, fun H2 p s2 _ hp => ?_⟩
      refine ⟨.ref p, rfl, .ref p, rfl, 1, rfl, p, _, rfl, SqL.of hp, fun p2 np2 => ?_⟩
      rw [show (some (1 : Int)) = some ((1 : Nat) : Int) from rfl, cutV_from]
      have s3 := same_upd (o := .lst (((f.map (·.1)).map V.int).drop 1)) np2
      refine ⟨p, p2, _, _, rfl, SqL.of (s3 _ _ hp), SqL.of upd_same, fun D2 nD2 => ?_⟩
      have hp3 := s3 _ _ hp
      have hp23 : (upd H2 p2 (.lst (((f.map (·.1)).map V.int).drop 1))) p2 = some (.lst (((f.map (·.1)).map V.int).drop 1)) := upd_same
      have s123 := (s1.trans s2).trans s3
      generalize upd H2 p2 (.lst (((f.map (·.1)).map V.int).drop 1)) = H3 at hp3 hp23 s123 nD2 ⊢
      refine lc_it (walk_zip (K := K) (a := p) (b := p2) (xs := (f.map (·.1)).map V.int) (ys := ((f.map (·.1)).map V.int).drop 1) rfl) (fun i H' => Same H3 H' ∧ H' D2 = some (.lst ((List.replicate i true).map V.bl))) ⟨same_upd nD2, upd_same⟩ (fun i H' _ hP => ⟨SqL.of (hP.1 _ _ hp3), SqL.of (hP.1 _ _ hp23)⟩) (fun i v H' H'' hi hP hY => ?_) (fun H4 hP => ?_)
      · obtain ⟨sm, hD2⟩ := hP
        obtain ⟨T, x, y, rfl, nT, rfl, hx, hy⟩ := hY
        have u1 := same_upd (o := .tup [x, y]) nT
        rw [List.length_drop, List.length_map, List.length_map] at hi
        have h1 : i < (f.map (·.1)).length := by rw [List.length_map]; omega
        have h2 : i + 1 < (f.map (·.1)).length := by rw [List.length_map]; omega
        have ex : x = .int (f.map (·.1))[i] := by
          have hx : ((f.map (·.1)).map V.int)[i]? = some x := hx
          rw [List.getElem?_map, List.getElem?_eq_getElem h1] at hx
          exact (Option.some.inj hx).symm
        have ey : y = .int (f.map (·.1))[i + 1] := by
          have hy : (((f.map (·.1)).map V.int).drop 1)[i]? = some y := hy
          rw [List.getElem?_drop, Nat.add_comm 1 i, List.getElem?_map, List.getElem?_eq_getElem h2] at hy
          exact (Option.some.inj hy).symm
        have hlt := List.pairwise_iff_getElem.mp hG.up i (i + 1) h1 h2 (Nat.lt_succ_self i)
        have hD2' := u1 _ _ hD2
        refine ⟨T, [x, y], rfl, SqT.of upd_same, rfl, x, _, rfl, y, _, rfl, rfl, rfl, yesT ⟨x, rfl, y, rfl, _, _, ex, ey, ?_⟩⟩
        refine ⟨_, hD2', ?_, Same.offUpd (sm.trans u1) nD2, ?_⟩
        · rw [List.length_map, List.length_replicate]
          exact small1000 (by omega)
        · rw [upd_same, List.replicate_succ', List.map_append]
          show some (HO.lst (_ ++ [V.bl (decide ((f.map (·.1))[i] < (f.map (·.1))[i + 1]))])) = _
          rw [decide_eq_true hlt]
          rfl
      · obtain ⟨sm, hD2⟩ := hP
        refine ⟨D2, _, rfl, SqL.of hD2, ?_⟩
        have e : (List.replicate (min ((f.map (·.1)).map V.int).length (((f.map (·.1)).map V.int).drop 1).length) true).all id = true := by simp
        rw [e]
        exact q _ (s123.trans sm)
theorem ok_cfigA {f fI : Addr} {fd fdI : FuncData} {k : Nat} (F : Fun K "check_figures" "check_figures" sCFig f fd) (me : mg "enumerate" = none)
    (FI : Fun K "is_figure" "is_figure" sIsFig fI fdI) (bI : Binds K fdI ["colours", "figure"] []) (gI : mg "is_figure" = some (.ref fI)) (GI : FnOk P w K mg base CX0 k fI fdI ["colours", "figure"] (spIsFigA K)) : FnOk P w K mg base CX0 (k + 1) f fd ["colours", "figures"] (spCFigA K) := by
  refine F.ok scCFig (fun vs H Q E h => ?_) (fun cdv A outer s H vs Q E hr h => ?_)
  · obtain ⟨a, b, cs, xs, fs, rfl, _⟩ := h
    rfl
  · obtain ⟨a, b, cs, xs, fs, rfl, ha, hb, hA, hG, h6, q⟩ := h
    refine ⟨_, pss_one (ps_for PassesOwn.never rfl (pi_enumA (by rfl) me (pa_cons (pv 1) pa_nil)) (pg_tup rfl (pgs_cons (pg_name (i := 2) scCFig.nd rfl (.inl rfl)) (pgs_cons (pg_name (i := 3) scCFig.nd rfl (.inl rfl)) pgs_nil)))
        (pss_one (ps_if (pt_not (pt_val (pe_call GI hr (by rfl) gI FI.kp bI .nil pass0 (pa_cons (pv 0) (pa_cons (pv 3) pa_nil))))) (pss_one ps_never) pss_nil))), ?_⟩
    refine ⟨.ref b, rfl, b, rfl, for_enumA (K := K) hb (Same.refl H) (fun i σ H' => ∃ (y1 y2 : Option V), σ = [some (.ref a), some (.ref b), y1, y2] ∧ Same H H') ⟨none, none, rfl, Same.refl H⟩ (fun i σ H' _ hP => ?_) (fun i y σ H' T hy hP nT => ?_) (fun σ H' hP => ?_)⟩
    · obtain ⟨_, _, _, sm⟩ := hP
      exact sm
    · obtain ⟨y1, y2, rfl, sm⟩ := hP
      have u1 := same_upd (o := .tup [.int (i : Nat), y]) nT
      have s1 := sm.trans u1
      obtain ⟨g, hg, hgT⟩ := hA.get hy
      have hgG := hG g (List.mem_of_getElem? hg)
      have hgl := hgG.len
      refine ⟨T, _, rfl, SqT.of upd_same, rfl, _, _, rfl, y, _, rfl, rfl, ?_⟩
      refine ⟨_, rfl, y, rfl, a, cs, y, g, rfl, ha.same s1, hgT.same s1, hgG, by omega, fun H2 s2 => ⟨_, rfl, iteF ⟨_, _, rfl, s1.trans s2⟩⟩⟩
    · obtain ⟨y1, y2, rfl, sm⟩ := hP
      exact q _ sm
theorem ok_cmeetA {f fM fB C : Addr} {fd fdM fdB : FuncData} {k : Nat} (F : Fun K "check_meetings" "check_meetings" sCMeet f fd) (me : mg "enumerate" = none) (mr : mg "range" = none) (ml : mg "len" = none) (R : exc2 "Meeting" "one" "other" C P w K mg base k)
    (FM : Fun K "mask_of" "mask_of" sMask fM fdM) (bM : Binds K fdM ["figure"] []) (gM : mg "mask_of" = some (.ref fM)) (GM : FnOk P w K mg base CX0 (k + 1) fM fdM ["figure"] (spMaskA K))
    (FB : Fun K "bar" "bar" sBar fB fdB) (bB : Binds K fdB ["one", "other"] []) (gB : mg "bar" = some (.ref fB)) (GB : FnOk P w K mg base CX0 (k + 1) fB fdB ["one", "other"] (spBarA K)) : FnOk P w K mg base (L2.CX P w) (k + 2) f fd ["figures"] (spCMeetA K C) := by
  refine F.okX scCMeet (fun vs H Q E h => ?_) (fun cdv A outer s H vs Q E hr h => ?_)
  · obtain ⟨b, cs, xs, fs, rfl, _⟩ := h
    rfl
  · obtain ⟨b, cs, xs, fs, rfl, hb, hA, hG, h6, hfs, q, qe⟩ := h
    refine ⟨_, pss_cons (ps_setLc (i := 1) (own := [("figure", 3)]) (g := gName 3) (tt := tYes) rfl scCMeet.nd rfl rfl (sw_true rfl rfl rfl (by decide +kernel)) (pi_seq (pv 0)) (blkOk_by (own := [("figure", 3)]) (N := nCMeet) (sc := defScope sCMeet) (by decide +kernel)) (fun _ _ _ _ _ => pg_name (i := 3) scCMeet.nd rfl (.inl rfl)) (fun _ _ _ _ _ => pts_nil) (fun _ _ _ _ _ => pe_call GM hr (by rfl) gM FM.kp bM .nil pass0 (pa_cons (pv 3) pa_nil)))
      (pss_one (ps_for (passes_of rfl) rfl (pi_enumA (by rfl) me (pa_cons (pv 0) pa_nil)) (pg_tup (by rfl) (pgs_cons (pg_name (i := 2) scCMeet.nd rfl (.inl rfl)) (pgs_cons (pg_name (i := 3) scCMeet.nd rfl (.inl rfl)) pgs_nil))) (pss_one (ps_for (passes_of rfl) rfl (pi_range2 (by rfl) mr (pa_cons (pe_op op_add (pv 2) pe_int) (pa_cons (pe_callB call_lenQ (by rfl) ml PySem.boot_len (pa_cons (pv 0) pa_nil)) pa_nil))) (pg_name (i := 4) scCMeet.nd rfl (.inl rfl)) (pss_one (ps_if (PW.pt (pw_and (pt_cmpR op_ne (pe_op op_and (pe_ix ix_list (pv 1) (pv 2) (fun _ _ => rfl)) (pe_ix ix_list (pv 1) (pv 4) (fun _ _ => rfl))) pe_int (nomark _)) (pw_and1 (pt_not (pt_val (pe_call GB hr (by rfl) gB FB.kp bB .nil pass0 (pa_cons (pv 3) (pa_cons (pe_ix (r := rIx K) ix_seq (pv 0) (pv 4) (fun _ _ => rfl)) pa_nil)))))))) (pss_one (ps_raise rfl (takes_of rfl rfl rfl rfl) (pmk_ref R hr (by rfl) (pa_cons (pv 2) (pa_cons (pv 4) pa_nil))))) pss_nil)))))), ?_⟩
    have hxl := hA.len
    have fat : ∀ {i : Nat} {y : V}, xs[i]? = some y → FigA K H y (fs.getD i []) ∧ (fs.getD i []).length ≤ 100 ∧ PadsUp (fs.getD i []) ∧ fs[i]? = some (fs.getD i []) := fun {i y} hy => by
      obtain ⟨g, hg, hgT⟩ := hA.get hy
      rw [List.getD_eq_getElem?_getD, hg]
      have hgG := hG g (List.mem_of_getElem? hg)
      have hgl := hgG.len
      exact ⟨hgT, Nat.le_trans hgl (by omega), hgG.padsUp h6, rfl⟩
    refine ⟨.ref b, rfl, b, rfl, lc_seq (K := K) hb (Same.refl H) (fun D i H' => Same H H' ∧ H' D = some (.lst ((fs.take i).map fun f => V.int (maskN f : Nat)))) (fun D nD => ⟨same_upd nD, upd_same⟩) (fun D nD i H' _ hP => hP.1) (fun D nD i x H' hx hP => ?_) (fun D nD H0 hP => ?_)⟩
    · obtain ⟨sm, hD⟩ := hP
      obtain ⟨hg1, hl1, hu1, he1⟩ := fat hx
      have hi : i < xs.length := (List.getElem?_eq_some_iff.mp hx).1
      refine ⟨rfl, yesT ⟨x, rfl, x, _, rfl, hg1.same sm, hl1, hu1, fun H2 s2 => ⟨_, s2 _ _ hD, ?_, Same.offUpd (sm.trans s2) nD, ?_⟩⟩⟩
      · rw [List.length_map, List.length_take]
        exact small1000 (by omega)
      · rw [upd_same, take_snoc he1, List.map_append]
        rfl
    obtain ⟨s0, hD⟩ := hP
    rw [hxl, List.take_length] at hD
    have hmk : ∀ (i : Nat), fs[i]? = some (fs.getD i []) → atI (fs.map fun f => V.int (maskN f : Nat)) (i : Int) = some (.int (maskN (fs.getD i []) : Nat)) := fun i e => atI_nat (by rw [List.getElem?_map, e]; rfl)
    refine ⟨.ref b, rfl, b, rfl, for_enumA (K := K) hb s0 (fun i σ H' => ∃ (y1 y2 y3 : Option V), σ = [some (.ref b), some (.ref D), y1, y2, y3] ∧ Same H0 H' ∧ ∀ i' j', i' < j' → j' < fs.length → i' < i → mtT fs i' j' = true) ⟨none, none, none, rfl, Same.refl H0, fun i' j' _ _ z => absurd z (by omega)⟩ (fun i σ H' _ hP => ?_) (fun i y σ H' T hy hP nT => ?_) (fun σ H' hP => ?_)⟩
    · obtain ⟨_, _, _, _, sm, _⟩ := hP
      exact s0.trans sm
    · obtain ⟨y1, y2, y3, rfl, sm, hok⟩ := hP
      have u1 := same_upd (o := .tup [.int (i : Nat), y]) nT
      have s1 := sm.trans u1
      obtain ⟨hg1, hl1, hu1, he1⟩ := fat hy
      have hi : i < xs.length := (List.getElem?_eq_some_iff.mp hy).1
      refine ⟨T, _, rfl, SqT.of upd_same, rfl, _, _, rfl, y, _, rfl, rfl, ?_⟩
      generalize upd H' T (.tup [.int (i : Nat), y]) = H1 at s1 ⊢
      refine ⟨_, rfl, _, _, rfl, rfl, .ref b, rfl, b, _, rfl, hb.same (s0.trans s1), (i : Int) + 1, ((xs.length : Nat) : Int), rfl, ⟨by omega, by omega, by omega, by omega⟩, ?_⟩
      refine for_range (lo := (i : Int) + 1) (n := (((xs.length : Nat) : Int) - ((i : Int) + 1)).toNat) (fun j σ H' => ∃ (y3 : Option V), σ = [some (.ref b), some (.ref D), some (.int (i : Nat)), some y, y3] ∧ Same H0 H' ∧ ∀ j', i < j' → j' < i + 1 + j → j' < fs.length → mtT fs i j' = true) ⟨_, rfl, s1, fun j' _ z => absurd z (by omega)⟩ ?_ ?_
      · rintro j σ H2 hj ⟨y3, rfl, sm2, hok2⟩
        have hj2 : i + 1 + j < xs.length := by omega
        have ej : (i : Int) + 1 + (j : Int) = ((i + 1 + j : Nat) : Int) := by omega
        obtain ⟨hg2, hl2, hu2, he2⟩ := fat (List.getElem?_eq_getElem hj2)
        have hix : atI xs ((i : Int) + 1 + (j : Int)) = some xs[i + 1 + j] := by
          rw [ej]
          exact atI_nat (List.getElem?_eq_getElem hj2)
        have emt : mtT fs i (i + 1 + j) = okB (fs.getD i []) (fs.getD (i + 1 + j) []) := rfl
        unfold okB at emt
        have good : mtT fs i (i + 1 + j) = true → ∀ {H3 : Hp}, Same H0 H3 → ∃ (y3 : Option V), ([some (.ref b), some (.ref D), some (.int (i : Nat)), some y, some (.int ((i : Int) + 1 + (j : Int)))] : L2.St) = [some (.ref b), some (.ref D), some (.int (i : Nat)), some y, y3] ∧ Same H0 H3 ∧ ∀ j', i < j' → j' < i + 1 + (j + 1) → j' < fs.length → mtT fs i j' = true := fun em {H3} s3 =>
          ⟨_, rfl, s3, fun j' h1 h2 h3 => by
            by_cases e : j' = i + 1 + j
            · rw [e]
              exact em
            · exact hok2 j' h1 (by omega) h3⟩
        have hm2 := hmk _ he2
        rw [← ej] at hm2
        have hD2 := sm2 _ _ hD
        refine ⟨.ref D, rfl, .int (i : Nat), rfl, D, _, _, _, rfl, rfl, SqL.of hD2, hmk _ he1, .ref D, rfl, .int ((i : Int) + 1 + (j : Int)), rfl, D, _, _, _, rfl, rfl, SqL.of hD2, hm2, _, _, rfl, rfl, rfl, _, rfl, ?_⟩
        rw [mask_test hu1 hu2]
        have s02 := s0.trans sm2
        have hread : ∀ Q : VK, Q xs[i + 1 + j] H2 → rIx K (.ref b) (.int ((i : Int) + 1 + (j : Int))) H2 Q := fun Q z => by
          rcases hb.same s02 with hb | hb
          · exact .inl ⟨b, _, _, _, rfl, rfl, hb, hix, z⟩
          · exact .inr (.inl ⟨b, _, _, _, rfl, rfl, hb, hix, z⟩)
        cases em : meetB (fs.getD i []) (fs.getD (i + 1 + j) []) with
        | false =>
          rw [em] at emt
          exact iteF (iteF (good emt sm2))
        | true =>
          rw [em] at emt
          refine iteT ⟨y, rfl, .ref b, rfl, .int ((i : Int) + 1 + (j : Int)), rfl, hread _ ⟨y, _, _, _, rfl, hg1.same s02, hg2.same s02, hl1, hl2, fun H4 s4 => ⟨_, rfl, ?_⟩⟩⟩
          cases eb : barB (fs.getD i []) (fs.getD (i + 1 + j) []) with
          | true =>
            rw [eb] at emt
            exact iteF (good emt (sm2.trans s4))
          | false =>
            rw [eb] at emt
            refine iteT ⟨.int (i : Nat), rfl, .int ((i : Int) + 1 + (j : Int)), rfl, rfl, (show (2 : Nat) ≤ 1000 by decide), fun dd H5 h1 h2 h3 => ?_⟩
            rw [ej] at h3
            refine qe i (i + 1 + j) ⟨⟨by omega, by omega, emt⟩, fun i' j' h5 h6 h7 => ?_⟩ dd H5 ((s02.trans s4).trans (same_ref h1 h2)) h3
            rcases h7 with h7 | ⟨rfl, h7⟩
            · exact hok i' j' h5 h6 h7
            · exact hok2 j' h5 h7 h6
      · rintro σ H2 ⟨y3, rfl, sm2, hok2⟩
        refine ⟨_, _, _, rfl, sm2, fun i' j' h5 h6 h7 => ?_⟩
        by_cases e : i' = i
        · subst e
          exact hok2 j' h5 (by omega) h6
        · exact hok i' j' h5 h6 (by omega)
    · obtain ⟨y1, y2, y3, rfl, sm, hok⟩ := hP
      exact q (fun i' j' h5 h6 => hok i' j' h5 h6 (by omega)) _ (s0.trans sm)
end
/-! ### Book(colours, figures=..) over lists or tuples -/
def spInitA (K : PySem.W.Frag) (C : Addr) (cm : Nat → Addr) : Sp := fun vs H Q E => ∃ (p dx a b : Addr) (cs : List Int) (xs : List V) (fs : List (List Tri)), vs = [.ref p, .ref a, .ref b] ∧ H p = some (.ins C dx []) ∧ SqA K H a (cs.map V.int) ∧ SqA K H b xs ∧ All2 (FigA K H) xs fs ∧ (∀ x ∈ cs, colOk x) ∧ (∀ f ∈ fs, GoodF cs f) ∧ fs.length ≤ 1000 ∧
  (¬ (1 ≤ cs.length ∧ cs.length ≤ 6) → refuseN 0 (cm 0) [-1] H E) ∧ (1 ≤ cs.length ∧ cs.length ≤ 6 → 12 < fs.length → refuseN 3 (cm 3) [12] H E) ∧
  (1 ≤ cs.length ∧ cs.length ≤ 6 → fs.length ≤ 12 → (NoneT fs → ∀ H', Off p H H' → BookAt K C H' p cs fs → Q .non H') ∧ ∀ i j : Nat, FirstT fs i j → refuseN 2 (cm 2) [(i : Int), (j : Int)] H E)
section
variable {P : Program} {w : World} {K : PySem.W.Frag} {mg : Str → Option Value} {base : Heap}
theorem ok_initA {f C f1 f2 f3 f4 : Addr} {fd fd1 fd2 fd3 fd4 : FuncData} {k : Nat} {tkF : Tok} {kws : List (Str × V)} {cm : Nat → Addr} (F : FunD K "__init__" "Book.__init__" (defArgs sInit) (defBody sInit) (defScope sInit) [] kws f fd) (T : BkTxt K mg C)
    (ml : mg "len" = none) (mt : mg "tuple" = none) (mF : mg "MOST_FIGURES" = some (.int 12 tkF)) (R3 : exc1 3 "TooMany" "most" (cm 3) P w K mg base k)
    (F1 : Fun K "check_colours" "check_colours" sCCol f1 fd1) (b1 : Binds K fd1 ["colours"] []) (g1 : mg "check_colours" = some (.ref f1)) (G1 : FnOk P w K mg base (L2.CX P w) (k + 1) f1 fd1 ["colours"] (spCColA K (cm 0)))
    (F2 : Fun K "check_figures" "check_figures" sCFig f2 fd2) (b2 : Binds K fd2 ["colours", "figures"] []) (g2 : mg "check_figures" = some (.ref f2)) (G2 : FnOk P w K mg base CX0 (k + 1) f2 fd2 ["colours", "figures"] (spCFigA K))
    (F3 : Fun K "check_meetings" "check_meetings" sCMeet f3 fd3) (b3 : Binds K fd3 ["figures"] []) (g3 : mg "check_meetings" = some (.ref f3)) (G3 : FnOk P w K mg base (L2.CX P w) (k + 1) f3 fd3 ["figures"] (spCMeetA K (cm 2)))
    (F4 : Fun K "copy_of_figure" "copy_of_figure" sCopyF f4 fd4) (b4 : Binds K fd4 ["figure"] []) (g4 : mg "copy_of_figure" = some (.ref f4)) (G4 : FnOk P w K mg base CX0 (k + 1) f4 fd4 ["figure"] (spCopyFA K)) :
    FnOk P w K mg base (L2.CX P w) (k + 2) f fd ["self", "colours", "figures"] (spInitA K C cm) := by
  refine F.ok (CX := L2.CX P w) scInit (fun vs H Q E h => ?_) (fun cdv A outer s H vs Q E hr h => ?_)
  · obtain ⟨p, dx, a, b, cs, xs, fs, rfl, _⟩ := h
    rfl
  · obtain ⟨p, dx, a, b, cs, xs, fs, rfl, hp, ha, hb, hA, hco, hG, hfs, q0, q3, q2⟩ := h
    refine ⟨_, pss_cons (ps_expr (pe_call G1 hr (by rfl) g1 F1.kp b1 .nil (passes_call (takes_of rfl rfl rfl rfl) (fun _ _ _ _ h => h)) (pa_cons (pv 1) pa_nil)))
      (pss_cons (ps_if (pt_cmpR op_gt (pe_callB call_lenQ (by rfl) ml PySem.boot_len (pa_cons (pv 2) pa_nil)) (pe_glob (v := .int 12) (by rfl) mF ⟨_, rfl⟩) (nomark _)) (pss_one (ps_raise rfl (takes_of rfl rfl rfl rfl) (pmk_ref R3 hr (by rfl) (pa_cons (pe_glob (v := .int 12) (by rfl) mF ⟨_, rfl⟩) pa_nil)))) pss_nil)
      (pss_cons (ps_expr (pe_call G2 hr (by rfl) g2 F2.kp b2 .nil pass0 (pa_cons (pv 1) (pa_cons (pv 2) pa_nil))))
      (pss_cons (ps_expr (pe_call G3 hr (by rfl) g3 F3.kp b3 .nil (passes_call (takes_of rfl rfl rfl rfl) (fun _ _ _ _ h => h)) (pa_cons (pv 2) pa_nil)))
      (pss_cons (ps_fld (pv 0) (pe_callTy call_tupS (by rfl) mt (by decide +kernel) (pa_cons (pv 1) pa_nil)) rfl)
      (pss_one (ps_fld (pv 0) (pe_callTy call_tupS (by rfl) mt (by decide +kernel) (pa_cons (pe_lc (own := [("figure", 3)]) (g := gName 3) (tt := tYes) rfl scInit.nd (pi_seq (pv 2))
        (blkOk_by (own := [("figure", 3)]) (N := nInit) (sc := defScope sInit) (by decide +kernel)) (fun _ _ _ _ _ => pg_name (i := 3) scInit.nd rfl (.inl rfl)) (fun _ _ _ _ _ => pts_nil)
        (fun _ _ _ _ _ => pe_call G4 hr (by rfl) g4 F4.kp b4 .nil pass0 (pa_cons (pv 3) pa_nil))) pa_nil)) rfl)))))), ?_⟩
    have hxl := hA.len
    refine ⟨.ref a, rfl, a, cs, rfl, ha, hco, fun hC H1 s1 => ?_, q0⟩
    refine ⟨.ref b, rfl, b, _, rfl, hb.same s1, _, 12, rfl, rfl, _, rfl, ite2 (fun e => ?_) (fun e => ?_)⟩
    · have e12 : 12 < fs.length := by
        have := of_decide_eq_true e
        omega
      exact ⟨rfl, (show (1 : Nat) ≤ 1000 by decide), fun dd H2 h1 h2 h3 => q3 hC e12 dd H2 (s1.trans (same_ref h1 h2)) h3⟩
    have h12 : fs.length ≤ 12 := by
      by_cases z : fs.length ≤ 12
      · exact z
      · exact absurd (decide_eq_true (by omega)) e
    obtain ⟨q, qm⟩ := q2 hC h12
    refine ⟨.ref a, rfl, .ref b, rfl, a, b, cs, xs, fs, rfl, ha.same s1, hb.same s1, hA.mono fun _ _ => FigA.same s1, hG, hC.2, fun H2 s2 => ?_⟩
    have s12 := s1.trans s2
    refine ⟨.ref b, rfl, b, cs, xs, fs, rfl, hb.same s12, hA.mono fun _ _ => FigA.same s12, hG, hC.2, by omega, fun hM H3 s3 => ?_, fun i j e => (qm i j e).later s12⟩
    have s13 := s12.trans s3
    refine ⟨.ref a, rfl, a, _, rfl, ha.same s13, fun a2 H4 s4 ha2 => ?_⟩
    have s14 := s13.trans s4
    have hp4 := s14 _ _ hp
    refine ⟨.ref p, rfl, p, C, dx, [], rfl, hp4, T.cl, T.nP, (show 0 < 1000 by decide), ?_⟩
    have off5 : Off p H4 (upd H4 p (.ins C dx (putF "palette" (.ref a2) []))) := Off.upd
    have hp5 : (upd H4 p (.ins C dx (putF "palette" (.ref a2) []))) p = some (.ins C dx [("palette", .ref a2)]) := upd_same
    have hb5 := (hb.same s14).insOff off5 hp4
    have ha5 : SqT K (upd H4 p (.ins C dx (putF "palette" (.ref a2) []))) a2 (cs.map V.int) := TS.ins off5 hp4 _ _ ha2
    have off15 : Off p H (upd H4 p (.ins C dx (putF "palette" (.ref a2) []))) := (Off.same s14).trans off5
    have hL5 : All2 (FigA K (upd H4 p (.ins C dx (putF "palette" (.ref a2) [])))) xs fs := hA.mono fun x g z => (z.same s14).insOff off5 hp4
    generalize upd H4 p (.ins C dx (putF "palette" (.ref a2) [])) = H5 at off5 hp5 hb5 ha5 off15 hL5 ⊢
    refine ⟨.ref b, rfl, b, rfl, lc_seq (K := K) hb5 (Same.refl H5) (fun D i H' => Same H5 H' ∧ ∃ zs, H' D = some (.lst zs) ∧ All2 (FigT K H') zs (fs.take i)) (fun D nD => ⟨same_upd nD, [], upd_same, True.intro⟩) (fun D nD i H' _ hP => hP.1) (fun D nD i x H' hx hP => ?_) (fun D nD H6 hP => ?_)⟩
    · obtain ⟨sm, zs, hD, hz⟩ := hP
      obtain ⟨g, hg, hgT⟩ := hL5.get hx
      have hgl := (hG g (List.mem_of_getElem? hg)).len
      refine ⟨rfl, yesT ⟨x, rfl, x, g, rfl, hgT.same sm, by omega, fun H7 u s7 hu => ?_⟩⟩
      have hD7 := s7 _ _ hD
      refine ⟨_, hD7, ?_, Same.offUpd (sm.trans s7) nD, zs ++ [u], upd_same, ?_⟩
      · rw [hz.len, List.length_take]
        exact small1000 (by omega)
      · rw [take_snoc hg]
        exact All2.snoc (hu.ts (TS.upd hD7)) (hz.mono fun _ _ => FigT.ts ((TS.of s7).trans (TS.upd hD7)))
    · obtain ⟨sm, zs, hD, hz⟩ := hP
      rw [hxl, List.take_length] at hz
      refine ⟨D, _, rfl, .inl (SqL.of hD), fun l H7 s7 hl => ?_⟩
      have s57 := sm.trans s7
      have hp7 := s57 _ _ hp5
      refine ⟨.ref p, rfl, p, C, dx, _, rfl, hp7, T.cl, T.nS, (show 1 < 1000 by decide), ?_⟩
      have off8 : Off p H7 (upd H7 p (.ins C dx (putF "shapes" (.ref l) [("palette", .ref a2)]))) := Off.upd
      refine q hM _ ((off15.trans (Off.same s57)).trans off8) ⟨dx, a2, l, zs, upd_same, ?_, TS.ins off8 hp7 _ _ hl, hz.mono fun _ _ => FigT.ts ((TS.of s7).trans (TS.ins off8 hp7))⟩
      exact TS.ins off8 hp7 _ _ (Same.tup s57 ha5)
end
/-! ### tables of lambdas beside boards; height where nothing is refused -/
theorem tabs_k {T : List (Addr × Str)} {H H' : Hp} (t : LamX.Tabs T H) (k : ∀ a o, (∀ xs, o ≠ .lst xs) → (∀ C dx fl, o ≠ .ins C dx fl) → H a = some o → H' a = some o) : LamX.Tabs T H' := fun p hp => by
  obtain ⟨ps, h1, h2, h3⟩ := t p hp
  refine ⟨ps, k _ _ (fun _ z => nomatch z) (fun _ _ _ z => nomatch z) h1, h2, fun pos cv hc => ?_⟩
  obtain ⟨c', e1, e2⟩ := h3 pos cv hc
  exact ⟨c', e1, k _ _ (fun _ z => by unfold LamX.CodeO at z; cases z) (fun _ _ _ z => by unfold LamX.CodeO at z; cases z) e2⟩
section
variable {K : PySem.W.Frag} {C CB CH : Addr} {H H' : Hp} {p pa fu bk : Addr} {cs : List Int} {fs : List (List Tri)} {rs : List Row2} {ps qs : List (List Row2)} {T : List (Addr × Str)}
theorem BoX.tabs (h : BoX K C CB CH H p pa bk cs fs rs ps qs) (t : LamX.Tabs T H) (o : Off2 p pa H H') : LamX.Tabs T H' := by
  obtain ⟨dx, pl, fu, be, mf, wa, wh, xs, ys, row, h1, h2, h3, h4, _⟩ := h
  exact tabs_k t fun a ob n1 n2 e => o a ob (fun z => by rw [z, h1] at e; exact n2 _ _ _ (Option.some.inj e).symm) (fun z => by rw [z, h4] at e; exact n1 _ (Option.some.inj e).symm) e
theorem BoX.ext (h : BoX K C CB CH H p pa bk cs fs rs ps qs) (o : LamX.ExtN H H') : BoX K C CB CH H' p pa bk cs fs rs ps qs := by
  obtain ⟨dx, pl, fu, be, mf, wa, wh, xs, ys, row, h1, h2, h3, h4, h5, h6, h7, h8, h9⟩ := h
  exact ⟨dx, pl, fu, be, mf, wa, wh, xs, ys, row, o _ _ h1 (fun _ z => nomatch z), h2.ext o, h3.ts (TS.ext o), o _ _ h4 (fun _ z => nomatch z), h5.mono fun _ _ ⟨a, e, h⟩ => ⟨a, e, h.ts (TS.ext o)⟩, o _ _ h6 (fun _ z => nomatch z), h7.mono fun _ _ ⟨a, e, h⟩ => ⟨a, e, h.ts (TS.ext o)⟩, h8.ext o, h9⟩
theorem BoX.bag2 {b c : Addr} (h : BoX K C CB CH H p pa bk cs fs rs ps qs) (hB : Bag H b c) (n : pa ≠ b) (n' : pa ≠ c) (o : Off2 p pa H H') : Bag H' b c := by
  obtain ⟨dx, pl, fu, be, mf, wa, wh, xs, ys, row, h1, _⟩ := h
  obtain ⟨cells, a, r, s, g1, g2, g3⟩ := hB.ex
  exact ⟨cells, a, r, s, o _ _ (fun z => by rw [z, h1] at g1; cases g1) (Ne.symm n) g1, o _ _ (fun z => by rw [z, h1] at g2; cases g2) (Ne.symm n') g2, g3⟩
end
def spHeiC (K : PySem.W.Frag) (C CB : Addr) : Sp := fun vs H Q _ => ∃ (p : Addr) (cs : List Int) (fs : List (List Tri)) (rs : List Row2) (i : Nat) (r : Row2), vs = [.ref p, .int (i : Nat)] ∧ BoardAt K C CB H p cs fs rs ∧ rs.length = cs.length ∧ rs[i]? = some r ∧ ∀ H', Same H H' → Q (if r.2 = [] then .int (r.1.length : Nat) else .non) H'
section
variable {P : Program} {w : World} {K : PySem.W.Frag} {mg : Str → Option Value} {base : Heap} {f C CB CH CP CD CN : Addr} {fd : FuncData} {k : Nat} {cm : Nat → Addr}
theorem heiC (G : FnOk P w K mg base (L2.CX P w) k f fd ["self", "pad"] (spHei K C CB CP)) : FnOk P w K mg base CX0 k f fd ["self", "pad"] (spHeiC K C CB) := calm G fun vs H Q E h => by
  obtain ⟨p, cs, fs, rs, i, r, rfl, hB, hrc, gr, q⟩ := h
  have hi := (List.getElem?_eq_some_iff.mp gr).1
  refine ⟨p, cs, fs, rs, (i : Int), rfl, hB, hrc, fun e => absurd ⟨by omega, by omega⟩ e, fun j r' ej gr' H' s => ?_⟩
  obtain rfl : i = j := by omega
  rw [gr] at gr'
  obtain rfl := Option.some.inj gr'
  exact q H' s
end
theorem lr_flat {xs c d : List Int} (h : LR xs [] c d) : c = xs ∧ d = [] := by
  rcases h with ⟨_, rfl, rfl⟩ | ⟨h, _⟩
  · exact ⟨rfl, rfl⟩
  · exact absurd rfl h
theorem lk_1 {K : PySem.W.Frag} {H : Hp} {n : Nat} {a b : Addr} {x u : V} (h : (SqL K H a [x] ∧ SqL K H b [u]) ∨ (SqT K H a [x] ∧ SqT K H b [u])) (h1 : Lk K H n x u) : Lk K H (n + 1) (.ref a) (.ref b) :=
  lk_seq h rfl (show (1 : Nat) ≤ 1000 by decide) fun i p q hp hq => match i, hp, hq with
    | 0, hp, hq => by
      cases hp
      cases hq
      exact h1
/-! ### a book without figures, a board without rows -/
def spBk0 (K : PySem.W.Frag) (C : Addr) : Sp := fun vs H Q _ => ∃ (p dx a b : Addr) (cs : List Int), vs = [.ref p, .ref a, .ref b] ∧ H p = some (.ins C dx []) ∧ SqL K H a (cs.map V.int) ∧ SqT K H b [] ∧ GoodC cs ∧ ∀ H', Off p H H' → BookAt K C H' p cs [] → Q .non H'
section
variable {P : Program} {w : World} {K : PySem.W.Frag} {mg : Str → Option Value} {base : Heap} {f C CB CH CP CD CN : Addr} {fd : FuncData} {k : Nat} {cm : Nat → Addr}
theorem bk0 (G : FnOk P w K mg base (L2.CX P w) k f fd ["self", "colours", "figures"] (spInitA K C cm)) : FnOk P w K mg base CX0 k f fd ["self", "colours", "figures"] (spBk0 K C) := calm G fun vs H Q E h => by
  obtain ⟨p, dx, a, b, cs, rfl, hp, ha, hb, hC, q⟩ := h
  exact ⟨p, dx, a, b, cs, [], [], rfl, hp, .inl ha, .inr hb, True.intro, hC.2.2, (fun f hf => nomatch hf), Nat.zero_le _, fun e => absurd ⟨hC.1, hC.2.1⟩ e, fun _ e => absurd e (Nat.not_lt_zero _), fun _ _ => ⟨fun _ H' off hB => q H' off hB, fun i j hF => absurd hF.1.2.1 (Nat.not_lt_zero _)⟩⟩
theorem boNC (G : FnOk P w K mg base (L2.CX P w) k f fd ["self", "book", "rows"] (spBoInN K C CB CH)) : FnOk P w K mg base CX0 k f fd ["self", "book", "rows"] (spBoInN K C CB CH) := calm G fun _ _ _ _ h => h
end
/-! ### k82: two full pads, long rows -/
abbrev nTF : List Str := ["_law_bag_here", "_law_book", "_law_ends", "_law_bad", "_law_due", "_law_deep", "_law_room", "_law_board", "_law_many", "_law_pad", "_law_k"]
theorem scTF : FnScope nTF ["_law_bag_here"] (defScope sTF) := ⟨rfl, rfl, rfl, by decide +kernel, rfl, by decide +kernel, by decide +kernel⟩
def qTF : Str := (envOfC "_law_two_full" (defScope sTF) 0 0 .none).qual ++ "<lambda>"
abbrev nLG : List Str := ["_law_bag_here", "_law_due", "_law_row", "_law_again", "_law_board", "_law_many", "_law_pad"]
theorem scLG : FnScope nLG ["_law_bag_here"] (defScope sLG) := ⟨rfl, rfl, rfl, by decide +kernel, rfl, by decide +kernel, by decide +kernel⟩
def qLG : Str := (envOfC "_law_long_reset" (defScope sLG) 0 0 .none).qual ++ "<lambda>"
/-- T tells this table -/
def InT (T : List (Addr × Str)) (p : Addr) (q : Str) : Prop := (p, q) ∈ T ∧ ∀ z ∈ T, z.1 = p → z.2 = q
theorem lrs_flat {rs ls : List Row2} (h : LRs rs ls rs.length) (hf : ∀ r ∈ rs, r.2 = []) : ls = rs := by
  refine List.ext_getElem? fun i => ?_
  by_cases hi : i < rs.length
  · obtain ⟨l, e1, e2⟩ := h.2 i _ hi (List.getElem?_eq_getElem hi)
    have e3 := hf _ (List.getElem_mem hi)
    rw [e3] at e2
    obtain ⟨e4, e5⟩ := lr_flat e2
    rw [e1, List.getElem?_eq_getElem hi]
    exact congrArg some (Prod.ext e4 (e5.trans e3.symm))
  · rw [List.getElem?_eq_none (by rw [h.1]; omega), List.getElem?_eq_none (by omega)]
/-- rows of noughts -/
def zrow (n : Nat) : Row2 := (List.replicate n 0, [])
/-- what is due where these pads are bad -/
def dueV : List Int → List V
  | [] => [.str "told", .non]
  | z :: _ => [.str "Full", .int z]
theorem leastM_flat (xs : List Int) : leastM (xs, []) = (xs, []) := leastM_eq (r := (xs, [])) (l := (xs, [])) (.inl ⟨rfl, rfl, rfl⟩)
theorem rep_tail (d : Nat) (h : 1 ≤ d) : (0 : Int) :: List.replicate ((d : Int) - 1).toNat 0 = List.replicate d 0 := by
  rw [show ((d : Int) - 1).toNat = d - 1 by omega, ← List.replicate_succ, show d - 1 + 1 = d by omega]
theorem room_z {rs : List Row2} {i d n : Nat} (h : rs[i]? = some (zrow n)) : roomM rs i (onTop rs i (List.replicate d 0)) = if 400 < d + n then .error (11, [(i : Int)]) else .ok (rs.set i (zrow (d + n))) := by
  have e : onTop rs i (List.replicate d 0) = (List.replicate (d + n) 0, []) := by
    unfold onTop
    rw [List.getD_eq_getElem?_getD, h]
    show (List.replicate d 0 ++ List.replicate n 0, []) = _
    rw [List.replicate_append_replicate]
  unfold roomM
  rw [e, leastM_flat, List.length_replicate]
  rfl
theorem lay_two {d0 d1 r0 r1 : Nat} (a0 : 1 ≤ d0) (a1 : 1 ≤ d1) (b0 : r0 ≤ 400) (b1 : r1 ≤ 400) : layD [1, 1, 1] [[((0 : Int), (0 : Int), (d0 : Int)), ((2 : Int), (0 : Int), (d1 : Int))]] [zrow (400 - r0), zrow 0, zrow (400 - r1)] 0 none =
    if r0 < d0 then .error (11, [0]) else if r1 < d1 then .error (11, [2]) else .ok [zrow (d0 + (400 - r0)), zrow 0, zrow (d1 + (400 - r1))] := by
  have e1 : fullN [((0 : Int), (0 : Int), (d0 : Int)), ((2 : Int), (0 : Int), (d1 : Int))] (zeros [((0 : Int), (0 : Int), (d0 : Int)), ((2 : Int), (0 : Int), (d1 : Int))]) = [List.replicate d0 0, List.replicate d1 0] := by
    show [(0 : Int) :: List.replicate ((d0 : Int) - 1).toNat 0, (0 : Int) :: List.replicate ((d1 : Int) - 1).toNat 0] = _
    rw [rep_tail d0 a0, rep_tail d1 a1]
  have tk : ∀ (p : Int) (d : Nat), 1 ≤ d → ([1, 1, 1] : List Int).getD p.toNat 0 = 1 → takenB [1, 1, 1] (p, 0, (d : Int)) (List.replicate d 0) = true := fun p d h hp => by
    unfold takenB notesB
    rw [hp]
    have : (List.replicate d (0 : Int)).getD 0 0 = 0 := by
      rw [List.getD_eq_getElem?_getD, List.getElem?_replicate, if_pos (by omega)]
      rfl
    rw [this]
    simp
  have e2 : takesB [1, 1, 1] [((0 : Int), (0 : Int), (d0 : Int)), ((2 : Int), (0 : Int), (d1 : Int))] [List.replicate d0 0, List.replicate d1 0] = true := by
    unfold takesB
    show (decide (2 = 2) && (takenB [1, 1, 1] (0, 0, (d0 : Int)) (List.replicate d0 0) && (takenB [1, 1, 1] (2, 0, (d1 : Int)) (List.replicate d1 0) && true))) = true
    rw [tk 0 d0 a0 rfl, tk 2 d1 a1 rfl]
    rfl
  have e3 : layD [1, 1, 1] [[((0 : Int), (0 : Int), (d0 : Int)), ((2 : Int), (0 : Int), (d1 : Int))]] [zrow (400 - r0), zrow 0, zrow (400 - r1)] 0 none = laidM [1, 1, 1] [zrow (400 - r0), zrow 0, zrow (400 - r1)] [((0 : Int), (0 : Int), (d0 : Int)), ((2 : Int), (0 : Int), (d1 : Int))] (zeros [((0 : Int), (0 : Int), (d0 : Int)), ((2 : Int), (0 : Int), (d1 : Int))]) := if_pos ⟨by decide, (show (0 : Int) < 1 by decide)⟩
  rw [e3]
  unfold laidM
  rw [e1, if_pos ⟨rfl, e2⟩]
  unfold layM
  rw [show ((0 : Int), (0 : Int), (d0 : Int)).1.toNat = 0 from rfl, room_z (n := 400 - r0) rfl]
  by_cases c0 : r0 < d0
  · rw [if_pos (by omega), if_pos c0]
    rfl
  · rw [if_neg (by omega), if_neg c0]
    show layM [zrow (d0 + (400 - r0)), zrow 0, zrow (400 - r1)] [((2 : Int), (0 : Int), (d1 : Int))] [List.replicate d1 0] = _
    unfold layM
    rw [show ((2 : Int), (0 : Int), (d1 : Int)).1.toNat = 2 from rfl, room_z (n := 400 - r1) rfl]
    by_cases c1 : r1 < d1
    · rw [if_pos (by omega), if_pos c1]
      rfl
    · rw [if_neg (by omega), if_neg c1]
      rfl
def spScn (q : Str) (pA : Addr) : Sp := fun vs H Q _ => ∃ (T : List (Addr × Str)) (b c : Addr), vs = [.ref b] ∧ InT T pA q ∧ Bag H b c ∧ LamX.Tabs T H ∧ ∀ H', Bag H' b c → LamX.Tabs T H' → Q (.bl true) H'
section
variable {P : Program} {w : World} {K : PySem.W.Frag} {mg : Str → Option Value} {base : Heap}
theorem ok_two {f C CB CH fP fK fIs fTr fBK fBO fLy fHi cL pL : Addr} {fdP fdK fdIs fdTr fdBK fdBO fdLy fdHi : FuncData} {dsL : List Value} {cm : Nat → Addr} {oc kV doc pm ct : Value} {od an : Option Addr} {osl : Array (Option Value)} {gI gJ : List Value → List Value → List Value}
    (lk : K.lookup f = some ⟨oc, od, .func (PySem.W.fnOf "_law_two_full" "_law_two_full" (defArgs sTF) (defBody sTF) (defScope sTF) .none kV doc pm an (.ref cL) ct), osl⟩) (hcd : PySem.W.codeIn K (.ref cL) "_law_two_full" = true) (tb : LamX.TabB base mg cL pL)
    (T : BoTxt K mg CB) (TB : BkTxt K mg C)
    (FP : Fun K "_law_pull" "_law_pull" sPull fP fdP) (bP : Binds K fdP ["_law_bag_here", "_law_size"] []) (gP : mg "_law_pull" = some (.ref fP)) (GP : FnOk P w K mg base CX0 18 fP fdP ["_law_bag_here", "_law_size"] spPull)
    (FK : Fun K "_law_like" "_law_like" sLike fK fdK) (bK : Binds K fdK ["_law_one", "_law_due"] []) (gK : mg "_law_like" = some (.ref fK)) (GK0 : FnOk P w K mg base CX0 5 fK fdK ["_law_one", "_law_due"] (spLike K 5))
    (FIs : Fun K "_law_is" "_law_is" sIs fIs fdIs) (bIs : Binds K fdIs ["_law_act", "_law_due"] []) (gIs : mg "_law_is" = some (.ref fIs))
    (FTr : Fun K "_law_tried" "_law_tried" sTried fTr fdTr) (bTr : Binds K fdTr ["_law_act"] []) (gTr : mg "_law_tried" = some (.ref fTr)) (RT : RefsT K mg cm)
    (MBK : Mk K C fBK) (kBK : KBn K fdBK ["self", "colours", "figures"] 2 ["figures"] gI (fun vs zs => vs ++ zs)) (GBK : FnOk P w K mg base CX0 17 fBK fdBK ["self", "colours", "figures"] (spInit K C))
    (MBO : Mk K CB fBO) (kBO : KBn K fdBO ["self", "book", "rows"] 2 ["rows"] gJ (fun vs zs => vs ++ zs)) (GBO : FnOk P w K mg base CX0 17 fBO fdBO ["self", "book", "rows"] (spBoInC K C CB CH))
    (bLy : Binds K fdLy ["self", "figure", "beneath"] dsL) (vLy : Vals [.non] dsL) (mLy : Meth K CB "lay" fLy) (GLy : FnOk P w K mg base (L2.CX P w) 15 fLy fdLy ["self", "figure", "beneath"] (spBLy K C CB CH cm))
    (bHi : Binds K fdHi ["self", "pad"] []) (mHi : Meth K CB "height" fHi) (GHi : FnOk P w K mg base CX0 18 fHi fdHi ["self", "pad"] (spHeiC K C CB)) :
    FnOk P w K mg base CX0 19 f (PySem.W.fnOf "_law_two_full" "_law_two_full" (defArgs sTF) (defBody sTF) (defScope sTF) .none kV doc pm an (.ref cL) ct) ["_law_bag_here"] (spScn qTF pL) := by
  have GK := GK0.mono (show 5 ≤ 18 by decide)
  have GK15 := GK0.mono (show 5 ≤ 17 by decide)
  refine fn_of lk hcd scTF (fun vs H Q E h => ?_) (fun A outer s H vs Q E hr h => ?_)
  · obtain ⟨_, b, c, rfl, _⟩ := h
    rfl
  · obtain ⟨Tl, b, c, rfl, ⟨hmT, huT⟩, hB, hT, q⟩ := h
    refine ⟨_, PSs.nox (pss_cons (ps_asg (pe_tup (pa_cons (pe_lst (pa_cons (pe_op op_add pe_int (pe_call GP hr (by rfl) gP FP.kp bP .nil pass0 (pa_cons (pv 0) (pa_cons pe_int pa_nil)))) (pa_cons (pe_op op_add pe_int (pe_call GP hr (by rfl) gP FP.kp bP .nil pass0 (pa_cons (pv 0) (pa_cons pe_int pa_nil)))) pa_nil))) (pa_cons (pe_lst (pa_cons (pe_call GP hr (by rfl) gP FP.kp bP .nil pass0 (pa_cons (pv 0) (pa_cons pe_int pa_nil))) (pa_cons (pe_call GP hr (by rfl) gP FP.kp bP .nil pass0 (pa_cons (pv 0) (pa_cons pe_int pa_nil))) pa_nil))) pa_nil))) (pg_tup (by rfl) (pgs_cons (pg_name (i := 5) scTF.nd rfl (.inr rfl)) (pgs_cons (pg_name (i := 6) scTF.nd rfl (.inr rfl)) pgs_nil))))
      (pss_cons (ps_set (i := 1) scTF.nd rfl (.inl rfl) (pe_makeK (n := 1) MBK GBK hr (by rfl) TB.mgC kBK pass0 (pa_cons (pe_lst (pa_cons pe_int (pa_cons pe_int (pa_cons pe_int pa_nil)))) pa_nil) (pk_cons (pe_lst (pa_cons (pe_tup (pa_cons (pe_tup (pa_cons pe_int (pa_cons pe_int (pa_cons (pe_ix ix_list (pv 5) pe_int (fun _ _ => rfl)) pa_nil)))) (pa_cons (pe_tup (pa_cons pe_int (pa_cons pe_int (pa_cons (pe_ix ix_list (pv 5) pe_int (fun _ _ => rfl)) pa_nil)))) pa_nil))) pa_nil)) pk_nil)))
      (pss_cons (ps_set (i := 2) scTF.nd rfl (.inl rfl) (pe_lst (pa_cons (pe_op op_sub pe_int (pe_ix ix_list (pv 6) pe_int (fun _ _ => rfl))) (pa_cons pe_int (pa_cons (pe_op op_sub pe_int (pe_ix ix_list (pv 6) pe_int (fun _ _ => rfl))) pa_nil)))))
      (pss_cons (ps_set (i := 7) scTF.nd rfl (.inr rfl) (pe_makeK (n := 1) MBO GBO hr (by rfl) T.mgC kBO pass0 (pa_cons (pv 1) pa_nil) (pk_cons (pe_lc (own := [("_law_many", 8)]) (g := gName 8) (tt := tYes) rfl scTF.nd (pi_list (pv 2)) (blkOk_by (own := [("_law_many", 8)]) (N := nTF) (sc := defScope sTF) (by decide +kernel)) (fun _ _ _ _ _ => pg_name (i := 8) scTF.nd rfl (.inl rfl)) (fun _ _ _ _ _ => pts_nil) (fun _ _ _ _ _ => pe_tup (pa_cons (pe_op op_rep (pe_lst (pa_cons pe_int pa_nil)) (pv 8)) (pa_cons (pe_lst pa_nil) pa_nil)))) pk_nil)))
      (pss_cons (ps_setLc (i := 3) (own := [("_law_pad", 9), ("_law_k", 10)]) (g := g2 K 9 10) rfl scTF.nd rfl rfl (sw_true rfl rfl rfl (by decide +kernel)) (pi_list (pe_lst (pa_cons (pe_tup (pa_cons pe_int (pa_cons pe_int pa_nil))) (pa_cons (pe_tup (pa_cons pe_int (pa_cons pe_int pa_nil))) pa_nil)))) (blkOk_by (own := [("_law_pad", 9), ("_law_k", 10)]) (N := nTF) (sc := defScope sTF) (by decide +kernel)) (fun _ _ _ _ _ => pg_tup (by rfl) (pgs_cons (pg_name (i := 9) scTF.nd rfl (.inl rfl)) (pgs_cons (pg_name (i := 10) scTF.nd rfl (.inl rfl)) pgs_nil))) (fun _ _ _ _ _ => pts_one (pt_cmpR op_gt (pe_ix (r := rIxL K) ix_list (pv 5) (pv 10) (fun _ _ => rfl)) (pe_ix (r := rIxL K) ix_list (pv 6) (pv 10) (fun _ _ => rfl)) (nomark _))) (fun _ _ _ _ _ => pv 9))
      (C8.pss_cut (ps_set (i := 4) scTF.nd rfl (.inl rfl) (pe_ifExp (pt_cmpR ((op_eqD hr.units)) (pv 3) (pe_lst pa_nil) (nomark _)) (pe_tup (pa_cons pe_str (pa_cons pe_non pa_nil))) (pe_tup (pa_cons pe_str (pa_cons (pe_ix ix_list (pv 3) pe_int (fun _ _ => rfl)) pa_nil)))))
      (C8.pss_cut (ps_if (pt_cmpR ((op_eqD hr.units)) (pv 3) (pe_lst pa_nil) (nomark _)) (pss_one (ps_set (i := 2) scTF.nd rfl (.inl rfl) (pe_lst (pa_cons (pe_op op_add (pe_ix ix_list (pv 2) pe_int (fun _ _ => rfl)) (pe_ix ix_list (pv 5) pe_int (fun _ _ => rfl))) (pa_cons pe_int (pa_cons (pe_op op_add (pe_ix ix_list (pv 2) pe_int (fun _ _ => rfl)) (pe_ix ix_list (pv 5) pe_int (fun _ _ => rfl))) pa_nil)))))) pss_nil)
      (C8.pss_cut (ps_if (pt_not (pt_val (pe_is (T := Tl) (cm := cm) (k := 15) (n := 5) FIs gIs bIs (by rfl) RT FTr gTr bTr FK gK bK GK15 rfl tb rfl hmT huT hr (LamX.lamS_by (sc := defScope sTF) (by decide +kernel)) rfl (fun _ _ _ _ _ => rfl) (fun A2 outer2 s2 H2 E2 f2 c2 hr2 => pe_meth (pv 7) T.cl mLy GLy hr2 bLy vLy (passes_call (takes_of rfl rfl rfl rfl) (fun _ _ _ _ h => h)) (pa_cons pe_int pa_nil)) (pv 4)))) (pss_one (ps_ret pe_bl)) pss_nil)
      (pss_one (ps_ret (pe_call GK hr (by rfl) gK FK.kp bK .nil pass0 (pa_cons (pe_lst (pa_cons (pe_meth (pv 7) T.cl mHi GHi hr bHi .nil pass0 (pa_cons pe_int pa_nil)) (pa_cons (pe_meth (pv 7) T.cl mHi GHi hr bHi .nil pass0 (pa_cons pe_int pa_nil)) (pa_cons (pe_meth (pv 7) T.cl mHi GHi hr bHi .nil pass0 (pa_cons pe_int pa_nil)) pa_nil)))) (pa_cons (pv 2) pa_nil))))))))))))), ?_⟩
    refine ⟨.ref b, rfl, b, c, 3, rfl, hB, by decide, by decide, fun H1 x1 o1 hB1 x10 x11 => ?_⟩
    have hT1 := tabs_off hT hB o1
    refine ⟨1, x1, rfl, rfl, .ref b, rfl, b, c, 3, rfl, hB1, by decide, by decide, fun H2 x2 o2 hB2 x20 x21 => ?_⟩
    have hT2 := tabs_off hT1 hB1 o2
    refine ⟨1, x2, rfl, rfl, (show (2 : Nat) ≤ sizeLine by decide), fun dp ndp => ?_⟩
    have ud := same_upd (o := .lst [V.int (1 + x1), V.int (1 + x2)]) ndp
    have hB3 := hB2.same ud
    have hT3 := hT2.ext ud
    have hd3 : (upd H2 dp (.lst [V.int (1 + x1), V.int (1 + x2)])) dp = some (.lst [V.int (1 + x1), V.int (1 + x2)]) := upd_same
    have db : dp ≠ b := (hB2.ne ndp).1
    generalize upd H2 dp (.lst [V.int (1 + x1), V.int (1 + x2)]) = H3 at hB3 hT3 hd3 ⊢
    clear hB hT hB1 hT1 hB2 hT2 ud o1 o2 ndp
    refine ⟨.ref b, rfl, b, c, 5, rfl, hB3, by decide, by decide, fun H4 y1 o4 hB4 y10 y11 => ?_⟩
    have hT4 := tabs_off hT3 hB3 o4
    have hd4 := o4 _ _ db hd3
    refine ⟨.ref b, rfl, b, c, 5, rfl, hB4, by decide, by decide, fun H5 y2 o5 hB5 y20 y21 => ?_⟩
    have hT5 := tabs_off hT4 hB4 o5
    have hd5 := o5 _ _ db hd4
    refine ⟨(show (2 : Nat) ≤ sizeLine by decide), fun rm nrm => ?_⟩
    have ur := same_upd (o := .lst [V.int y1, V.int y2]) nrm
    refine ⟨(show (2 : Nat) ≤ sizeLine by decide), fun tt ntt => ?_⟩
    have ut := same_upd (o := .tup [V.ref dp, V.ref rm]) ntt
    have hB6 := hB5.same (ur.trans ut)
    have hT6 := hT5.ext (ur.trans ut)
    have hd6 := (ur.trans ut) _ _ hd5
    have hr6 := ut _ _ (upd_same : (upd H5 rm (.lst [V.int y1, V.int y2])) rm = _)
    refine ⟨tt, _, rfl, SqT.of upd_same, rfl, _, _, rfl, _, _, rfl, rfl, ?_⟩
    generalize upd (upd H5 rm (.lst [V.int y1, V.int y2])) tt (.tup [V.ref dp, V.ref rm]) = H6 at hB6 hT6 hd6 hr6 ⊢
    clear hB3 hT3 hB4 hT4 hB5 hT5 hd3 hd4 hd5 ur ut nrm ntt o4 o5
    obtain ⟨d0, ed0, d00, d01⟩ : ∃ n : Nat, 1 + x1 = (n : Int) ∧ 1 ≤ n ∧ n ≤ 3 := ⟨(1 + x1).toNat, by omega, by omega, by omega⟩
    obtain ⟨d1, ed1, d10, d11⟩ : ∃ n : Nat, 1 + x2 = (n : Int) ∧ 1 ≤ n ∧ n ≤ 3 := ⟨(1 + x2).toNat, by omega, by omega, by omega⟩
    obtain ⟨r0, rfl⟩ := Int.eq_ofNat_of_zero_le y10
    obtain ⟨r1, rfl⟩ := Int.eq_ofNat_of_zero_le y20
    rw [ed0, ed1] at hd6
    clear x10 x11 x20 x21 y10 y20
    -- the book
    refine ⟨(show (3 : Nat) ≤ sizeLine by decide), fun la na => ?_⟩
    have ua := same_upd (o := .lst [V.int 1, V.int 1, V.int 1]) na
    refine ⟨.ref dp, rfl, dp, _, 0, .int (d0 : Nat), rfl, rfl, SqL.of (ua _ _ hd6), rfl, (show (3 : Nat) ≤ sizeLine by decide), fun t1 n1 => ?_⟩
    have u1 := same_upd (o := .tup [V.int 0, V.int 0, V.int (d0 : Nat)]) n1
    refine ⟨.ref dp, rfl, dp, _, 1, .int (d1 : Nat), rfl, rfl, SqL.of ((ua.trans u1) _ _ hd6), rfl, (show (3 : Nat) ≤ sizeLine by decide), fun t2 n2 => ?_⟩
    have u2 := same_upd (o := .tup [V.int 2, V.int 0, V.int (d1 : Nat)]) n2
    refine ⟨(show (2 : Nat) ≤ sizeLine by decide), fun t3 n3 => ⟨(show (1 : Nat) ≤ sizeLine by decide), fun lf nlf => ?_⟩⟩
    have u3 := same_upd (o := .tup [V.ref t1, V.ref t2]) n3
    have u4 := same_upd (o := .lst [V.ref t3]) nlf
    have u24 := (u2.trans u3).trans u4
    have u14 := u1.trans u24
    have u04 := ua.trans u14
    refine ⟨rfl, rfl, fun bk dxb nbk ndb nxb => ?_⟩
    have hG : GoodB [1, 1, 1] [[((0 : Int), (0 : Int), (d0 : Int)), ((2 : Int), (0 : Int), (d1 : Int))]] := by
      refine ⟨fun f hf => ?_, List.pairwise_singleton _ _⟩
      obtain rfl := List.mem_singleton.mp hf
      refine ⟨(fun z => nomatch z), fun t ht => ?_, by simp⟩
      rcases List.mem_cons.mp ht with rfl | ht
      · exact ⟨(show (0 : Int) ≤ 0 by decide), (show (0 : Int) < 3 by decide), (show (0 : Int) ≤ 0 by decide), (show (0 : Int) < 1 by decide), by show (1 : Int) ≤ d0; omega, by show (d0 : Int) ≤ 3; omega⟩
      · obtain rfl := List.mem_singleton.mp ht
        exact ⟨(show (0 : Int) ≤ 2 by decide), (show (2 : Int) < 3 by decide), (show (0 : Int) ≤ 0 by decide), (show (0 : Int) < 1 by decide), by show (1 : Int) ≤ d1; omega, by show (d1 : Int) ≤ 3; omega⟩
    refine bmake (C := C) (cs := [1, 1, 1]) (xs := [.ref t3]) (fs := [[((0 : Int), (0 : Int), (d0 : Int)), ((2 : Int), (0 : Int), (d1 : Int))]]) (SqL.of (u14 _ _ upd_same)) (SqL.of upd_same) ⟨⟨t3, [.ref t1, .ref t2], rfl, SqT.of (u4 _ _ upd_same), ⟨t1, rfl, SqT.of (u24 _ _ upd_same)⟩, ⟨t2, rfl, SqT.of ((u3.trans u4) _ _ upd_same)⟩, True.intro⟩, True.intro⟩ ⟨by decide, by decide, by decide⟩ hG (show (1 : Nat) ≤ 12 by decide) nbk ndb nxb (fun H7 s7 hX => ⟨rfl, ?_⟩)
    have s67 := u04.trans s7
    have hB7 := hB6.same s67
    have hT7 := hT6.ext s67
    have hd7 := s67 _ _ hd6
    have hr7 := s67 _ _ hr6
    clear hB6 hT6 hd6 hr6 u04 u14 u24 u4 u3 u2 u1 ua s7 s67 na n1 n2 n3 nlf nbk ndb nxb
    -- the rows
    refine ⟨.ref rm, rfl, rm, _, 0, .int (r0 : Nat), rfl, rfl, SqL.of hr7, rfl, 400, (r0 : Nat), rfl, rfl, .ref rm, rfl, rm, _, 1, .int (r1 : Nat), rfl, rfl, SqL.of hr7, rfl, 400, (r1 : Nat), rfl, rfl, (show (3 : Nat) ≤ sizeLine by decide), fun en nen => ?_⟩
    have g0 : (400 : Int) - (r0 : Nat) = ((400 - r0 : Nat) : Int) := by omega
    have g1 : (400 : Int) - (r1 : Nat) = ((400 - r1 : Nat) : Int) := by omega
    dsimp only [tNil]
    rw [g0, g1]
    have ue := same_upd (o := .lst [V.int (400 - r0 : Nat), V.int 0, V.int (400 - r1 : Nat)]) nen
    have hB8 := hB7.same ue
    have hT8 := hT7.ext ue
    have hd8 := ue _ _ hd7
    have hr8 := ue _ _ hr7
    have hX8 := hX.same ue
    have he8 : (upd H7 en (.lst [V.int (400 - r0 : Nat), V.int 0, V.int (400 - r1 : Nat)])) en = some (.lst (([400 - r0, 0, 400 - r1] : List Nat).map fun (n : Nat) => V.int (n : Nat))) := upd_same
    generalize upd H7 en (.lst [V.int (400 - r0 : Nat), V.int 0, V.int (400 - r1 : Nat)]) = H8 at hB8 hT8 hd8 hr8 hX8 he8 ⊢
    clear hB7 hT7 hd7 hr7 hX ue nen
    refine ⟨.ref bk, rfl, .ref en, rfl, en, rfl, ⟨_, SqL.of he8⟩, fun D nD => ?_⟩
    refine lc_list (K := K) (a := en) (xs := ([400 - r0, 0, 400 - r1] : List Nat).map fun (n : Nat) => V.int (n : Nat)) (fun i H' => Same H8 H' ∧ ∃ ys, H' D = some (.lst ys) ∧ All2 (fun v r => ∃ p la ta, v = .ref p ∧ H' p = some (.tup [.ref la, .ref ta]) ∧ H' la = some (.lst (r.1.map V.int)) ∧ H' ta = some (.lst (r.2.map V.int)) ∧ p ≠ D ∧ la ≠ D ∧ ta ≠ D) ys ((([400 - r0, 0, 400 - r1] : List Nat).map zrow).take i)) ⟨same_upd nD, [], upd_same, True.intro⟩ (fun i H' _ hP => hP.1.seq (SqL.of he8)) (fun i x H' hx hP => ?_) (fun H9 hP => ?_)
    · obtain ⟨sm, ys, hD, hy⟩ := hP
      rw [List.getElem?_map] at hx
      cases hn : ([400 - r0, 0, 400 - r1] : List Nat)[i]? with
      | none => rw [hn] at hx; cases hx
      | some n =>
        rw [hn] at hx
        obtain rfl := Option.some.inj hx
        have hn4 : n ≤ 400 := by
          have := List.mem_of_getElem? hn
          simp at this
          omega
        have hyl := hy.len
        rw [List.length_take] at hyl
        have hi3 : i < 3 := (List.getElem?_eq_some_iff.mp hn).1
        refine ⟨rfl, yesT ⟨(show (1 : Nat) ≤ sizeLine by decide), fun l1 n1 => ?_⟩⟩
        have u1 := same_upd (o := .lst [V.int 0]) n1
        refine ⟨.int (n : Nat), rfl, l1, (n : Nat), _, rfl, rfl, upd_same, by omega, by omega, ?_, fun l2 n2 => ?_⟩
        · rw [Int.toNat_natCast]
          exact Nat.le_of_lt (small1000 (by show 1 * n ≤ 1000; omega))
        rw [Int.toNat_natCast, flat_rep]
        have u2 := same_upd (o := .lst (List.replicate n (V.int 0))) n2
        refine ⟨Nat.zero_le _, fun l3 n3 => ⟨(show (2 : Nat) ≤ sizeLine by decide), fun t nt => ?_⟩⟩
        have u3 := same_upd (o := .lst []) n3
        have u4 := same_upd (o := .tup [V.ref l2, V.ref l3]) nt
        have u := ((u1.trans u2).trans u3).trans u4
        have hD2 := u _ _ hD
        have q1 : l2 ≠ D := fun z => by rw [z, u1 _ _ hD] at n2; cases n2
        have q2 : l3 ≠ D := fun z => by rw [z, (u1.trans u2) _ _ hD] at n3; cases n3
        have q3 : t ≠ D := fun z => by rw [z, ((u1.trans u2).trans u3) _ _ hD] at nt; cases nt
        have hz : (([400 - r0, 0, 400 - r1] : List Nat).map zrow)[i]? = some (zrow n) := by rw [List.getElem?_map, hn]; rfl
        refine ⟨_, hD2, small1000 (by omega), Same.offUpd (sm.trans u) nD, ys ++ [.ref t], upd_same, ?_⟩
        rw [take_snoc hz]
        refine All2.snoc ⟨t, l2, l3, rfl, by rw [upd_ne q3]; exact upd_same, ?_, by rw [upd_ne q2]; exact u4 _ _ upd_same, q3, q1, q2⟩ (hy.mono fun v r ⟨p, la, ta, e, h1, h2, h3, m1, m2, m3⟩ => ⟨p, la, ta, e, by rw [upd_ne m1]; exact u _ _ h1, by rw [upd_ne m2]; exact u _ _ h2, by rw [upd_ne m3]; exact u _ _ h3, m1, m2, m3⟩)
        rw [upd_ne q1, show (zrow n).1.map V.int = List.replicate n (V.int 0) by unfold zrow; rw [List.map_replicate]]
        exact (u3.trans u4) _ _ upd_same
    obtain ⟨s9, zs, hD, hz⟩ := hP
    rw [show List.take (([400 - r0, 0, 400 - r1] : List Nat).map fun (n : Nat) => V.int (n : Nat)).length (([400 - r0, 0, 400 - r1] : List Nat).map zrow) = [zrow (400 - r0), zrow 0, zrow (400 - r1)] from rfl] at hz
    have hB9 := hB8.same s9
    have hT9 := hT8.ext s9
    have hd9 := s9 _ _ hd8
    have hr9 := s9 _ _ hr8
    have he9 := s9 _ _ he8
    have hX9 := hX8.same s9
    clear hB8 hT8 hd8 hr8 he8 hX8 s9 nD
    dsimp only [tNil]
    refine ⟨rfl, rfl, fun x dx nx ndx nxd => ?_⟩
    have v1 := same_upd (o := .own x) ndx
    have nx2 : (upd H9 dx (.own x)) x = none := by
      rw [upd_ne nxd.symm]
      exact nx
    have v2 := same_upd (o := .ins CB dx []) nx2
    have v12 := v1.trans v2
    have hzr : ∀ n : Nat, n ≤ 400 → (zrow n).1.length ≤ 400 ∧ (zrow n).2.length ≤ 12 ∧ ∀ cs : List Int, ∀ i, cs.getD i 0 = 1 → rowB cs i (zrow n) = true := fun n hn => by
      refine ⟨by unfold zrow; rw [List.length_replicate]; exact hn, Nat.zero_le _, fun cs i hc => ?_⟩
      unfold rowB notesB zrow
      rw [hc]
      simp
      omega
    have sh : ∀ r ∈ [zrow (400 - r0), zrow 0, zrow (400 - r1)], r.1.length ≤ 400 ∧ r.2.length ≤ 12 := fun r hr => by
      rcases List.mem_cons.mp hr with rfl | hr
      · exact ⟨(hzr _ (by omega)).1, (hzr _ (by omega)).2.1⟩
      rcases List.mem_cons.mp hr with rfl | hr
      · exact ⟨(hzr _ (by omega)).1, (hzr _ (by omega)).2.1⟩
      obtain rfl := List.mem_singleton.mp hr
      exact ⟨(hzr _ (by omega)).1, (hzr _ (by omega)).2.1⟩
    refine ⟨x, dx, bk, D, [1, 1, 1], _, zs, [zrow (400 - r0), zrow 0, zrow (400 - r1)], rfl, upd_same, hX9.same v12, hG.all, (show (3 : Nat) ≤ 100 by decide), .inl (SqL.of (v12 _ _ hD)), hz.mono fun v r ⟨p, la, ta, e, h1, h2, h3, _⟩ => ⟨p, la, ta, e, SqT.of (v12 _ _ h1), .inl (SqL.of (v12 _ _ h2)), .inl (SqL.of (v12 _ _ h3))⟩, fun r hr => ⟨Nat.le_trans (sh r hr).1 (by decide), Nat.le_trans (sh r hr).2 (by decide)⟩, ⟨rfl, fun i r hr => ?_⟩, fun H' ls pa off npa hBo hL => ⟨rfl, ?_⟩⟩
    · match i, hr with
      | 0, hr => cases hr; exact (hzr _ (by omega)).2.2 _ _ rfl
      | 1, hr => cases hr; exact (hzr _ (by omega)).2.2 _ _ rfl
      | 2, hr => cases hr; exact (hzr _ (by omega)).2.2 _ _ rfl
      | n + 3, hr => cases hr
    have s10 : Same H9 H' := fun bb oo ee => off bb oo (ne_of_none ee nx) (v12 _ _ ee)
    obtain rfl := lrs_flat hL (fun r hr => by
      rcases List.mem_cons.mp hr with rfl | hr
      · rfl
      rcases List.mem_cons.mp hr with rfl | hr
      · rfl
      obtain rfl := List.mem_singleton.mp hr
      rfl)
    have hpb := hB9.ne (v12.free npa)
    have hB10 := hB9.same s10
    have hT10 := hT9.ext s10
    have hd10 := s10 _ _ hd9
    have hr10 := s10 _ _ hr9
    have he10 := s10 _ _ he9
    clear hB9 hT9 hd9 hr9 he9 hX9 v1 nx2 v2 v12 off s10 hz hD nx ndx nxd npa hL zs D
    -- what is bad
    refine ⟨(show (2 : Nat) ≤ sizeLine by decide), fun ta nta => ⟨(show (2 : Nat) ≤ sizeLine by decide), fun tc ntc => ⟨(show (2 : Nat) ≤ sizeLine by decide), fun ll nll => ?_⟩⟩⟩
    have u1 := same_upd (o := .tup [V.int 0, V.int 0]) nta
    have u2 := same_upd (o := .tup [V.int 2, V.int 1]) ntc
    have u3 := same_upd (o := .lst [V.ref ta, V.ref tc]) nll
    have u13 := (u1.trans u2).trans u3
    have hB11 := hB10.same u13
    have hT11 := hT10.ext u13
    have hd11 := u13 _ _ hd10
    have hr11 := u13 _ _ hr10
    have he11 := u13 _ _ he10
    have hX11 := hBo.same u13
    have k1 := (u2.trans u3) _ _ (upd_same : (upd H' ta (.tup [V.int 0, V.int 0])) ta = _)
    have k2 := u3 _ _ (upd_same : (upd (upd H' ta (.tup [V.int 0, V.int 0])) tc (.tup [V.int 2, V.int 1])) tc = _)
    have k3 : (upd (upd (upd H' ta (.tup [V.int 0, V.int 0])) tc (.tup [V.int 2, V.int 1])) ll (.lst [V.ref ta, V.ref tc])) ll = some (.lst [V.ref ta, V.ref tc]) := upd_same
    generalize upd (upd (upd H' ta (.tup [V.int 0, V.int 0])) tc (.tup [V.int 2, V.int 1])) ll (.lst [V.ref ta, V.ref tc]) = H11 at hB11 hT11 hd11 hr11 he11 hX11 k1 k2 k3 ⊢
    clear hB10 hT10 hd10 hr10 he10 hBo u1 u2 u3 u13 nta ntc nll
    refine ⟨ll, rfl, ⟨_, SqL.of k3⟩, fun D nD => ?_⟩
    refine lc_list (K := K) (a := ll) (xs := [V.ref ta, V.ref tc]) (fun i H' => Same H11 H' ∧ H' D = some (.lst (((if 0 < i ∧ r0 < d0 then [(0 : Int)] else []) ++ (if 1 < i ∧ r1 < d1 then [(2 : Int)] else [])).map V.int))) ⟨same_upd nD, upd_same⟩ (fun i H' _ hP => hP.1.seq (SqL.of k3)) (fun i v H' hx hP => ?_) (fun H12 hP => ?_)
    · obtain ⟨sm, hD⟩ := hP
      match i, hx with
      | 0, hx =>
        cases hx
        refine ⟨ta, _, rfl, SqT.of (sm _ _ k1), rfl, _, _, rfl, _, _, rfl, rfl, rfl, .ref dp, rfl, .int 0, rfl, dp, _, 0, .int (d0 : Nat), rfl, rfl, SqL.of (sm _ _ hd11), rfl, .ref rm, rfl, .int 0, rfl, rm, _, 0, .int (r0 : Nat), rfl, rfl, SqL.of (sm _ _ hr11), rfl, _, _, rfl, rfl, ?_⟩
        have hD0 : H' D = some (.lst []) := by simpa using hD
        refine ⟨_, rfl, ite2 (fun e => ?_) (fun e => ?_)⟩
        · have e1 : r0 < d0 := by have := of_decide_eq_true e; omega
          refine ⟨.int 0, rfl, [], hD0, small1000 (by decide), Same.offUpd sm nD, ?_⟩
          rw [upd_same]
          simp [e1]
        · have e1 : ¬ r0 < d0 := fun z => e (decide_eq_true (by omega))
          refine ⟨sm, ?_⟩
          rw [hD0]
          simp [e1]
      | 1, hx =>
        cases hx
        refine ⟨tc, _, rfl, SqT.of (sm _ _ k2), rfl, _, _, rfl, _, _, rfl, rfl, rfl, .ref dp, rfl, .int 1, rfl, dp, _, 1, .int (d1 : Nat), rfl, rfl, SqL.of (sm _ _ hd11), rfl, .ref rm, rfl, .int 1, rfl, rm, _, 1, .int (r1 : Nat), rfl, rfl, SqL.of (sm _ _ hr11), rfl, _, _, rfl, rfl, ?_⟩
        have hD0 : H' D = some (.lst ((if r0 < d0 then [(0 : Int)] else []).map V.int)) := by simpa using hD
        have hln : ((if r0 < d0 then [(0 : Int)] else []).map V.int).length ≤ 1 := by split <;> simp
        refine ⟨_, rfl, ite2 (fun e => ?_) (fun e => ?_)⟩
        · have e1 : r1 < d1 := by have := of_decide_eq_true e; omega
          refine ⟨.int 2, rfl, _, hD0, small1000 (by omega), Same.offUpd sm nD, ?_⟩
          rw [upd_same]
          simp [e1]
        · have e1 : ¬ r1 < d1 := fun z => e (decide_eq_true (by omega))
          refine ⟨sm, ?_⟩
          rw [hD0]
          simp [e1]
      | n + 2, hx => cases hx
    obtain ⟨s12, hD⟩ := hP
    have hB12 := hB11.same s12
    have hT12 := hT11.ext s12
    have hd12 := s12 _ _ hd11
    have he12 := s12 _ _ he11
    have hX12 := hX11.same s12
    have eb : (((if 0 < [V.ref ta, V.ref tc].length ∧ r0 < d0 then [(0 : Int)] else []) ++ (if 1 < [V.ref ta, V.ref tc].length ∧ r1 < d1 then [(2 : Int)] else []))) = (if r0 < d0 then [(0 : Int)] else []) ++ (if r1 < d1 then [(2 : Int)] else []) := by simp
    rw [eb] at hD
    obtain ⟨bad, hbad⟩ : ∃ bad : List Int, bad = (if r0 < d0 then [(0 : Int)] else []) ++ (if r1 < d1 then [(2 : Int)] else []) := ⟨_, rfl⟩
    rw [← hbad] at hD
    clear hB11 hT11 hd11 hr11 he11 hX11 k1 k2 k3 s12 nD eb
    refine ⟨fun σ' H' => ∃ du, σ' = [some (.ref b), some (.ref bk), some (.ref en), some (.ref D), some (.ref du), some (.ref dp), some (.ref rm), some (.ref x), none, none, none] ∧ Same H12 H' ∧ H' du = some (.tup (dueV bad)), ?_, ?_⟩
    · refine ⟨.ref D, rfl, Nat.zero_le _, fun l0 n0 => ?_⟩
      have u0 := same_upd (o := .lst []) n0
      refine ⟨_, _, dpL (u0.seq (SqL.of hD)), dpL (ns := []) (SqL.of upd_same), shL _, shL _, ?_⟩
      rw [eqvL]
      refine ⟨_, rfl, ite2 (fun e => ?_) (fun e => ?_)⟩
      · have e1 : bad = [] := by simpa using e
        refine ⟨(show (2 : Nat) ≤ sizeLine by decide), fun du ndu => ⟨du, rfl, u0.trans (same_upd ndu), ?_⟩⟩
        rw [e1]
        exact upd_same
      · cases hb : bad with
        | nil => exact absurd (by simp [hb]) e
        | cons z zs =>
          refine ⟨.ref D, rfl, D, _, 0, .int z, rfl, rfl, u0.seq (SqL.of hD), by rw [hb]; exact atI_nat (j := 0) rfl, (show (2 : Nat) ≤ sizeLine by decide), fun du ndu => ⟨du, rfl, u0.trans (same_upd ndu), upd_same⟩⟩
    rintro σ13 H13 ⟨du, rfl, s13, hdu⟩
    refine ⟨fun σ' H' => ∃ en2, σ' = [some (.ref b), some (.ref bk), some (.ref en2), some (.ref D), some (.ref du), some (.ref dp), some (.ref rm), some (.ref x), none, none, none] ∧ Same H13 H' ∧ H' en2 = some (.lst (if bad = [] then [V.int (400 - r0 + d0 : Nat), V.int 0, V.int (400 - r1 + d1 : Nat)] else [V.int (400 - r0 : Nat), V.int 0, V.int (400 - r1 : Nat)])), ?_, ?_⟩
    · refine ⟨.ref D, rfl, Nat.zero_le _, fun l0 n0 => ?_⟩
      have u0 := same_upd (o := .lst []) n0
      refine ⟨_, _, dpL ((s13.trans u0).seq (SqL.of hD)), dpL (ns := []) (SqL.of upd_same), shL _, shL _, ?_⟩
      rw [eqvL]
      have he13 := (s13.trans u0) _ _ he12
      have hd13 := (s13.trans u0) _ _ hd12
      refine ⟨_, rfl, ite2 (fun e => ?_) (fun e => ?_)⟩
      · have e1 : bad = [] := by simpa using e
        refine ⟨.ref en, rfl, en, _, 0, .int (400 - r0 : Nat), rfl, rfl, SqL.of he13, rfl, .ref dp, rfl, dp, _, 0, .int (d0 : Nat), rfl, rfl, SqL.of hd13, rfl, _, _, rfl, rfl, .ref en, rfl, en, _, 2, .int (400 - r1 : Nat), rfl, rfl, SqL.of he13, rfl, .ref dp, rfl, dp, _, 1, .int (d1 : Nat), rfl, rfl, SqL.of hd13, rfl, _, _, rfl, rfl, ?_⟩
        refine ⟨(show (3 : Nat) ≤ sizeLine by decide), fun en2 ne2 => ⟨en2, rfl, u0.trans (same_upd ne2), ?_⟩⟩
        rw [if_pos e1]
        exact upd_same
      · have e1 : ¬ bad = [] := fun z => e (by simp [z])
        refine ⟨en, rfl, u0, ?_⟩
        rw [if_neg e1]
        exact he13
    rintro σ14 H14 ⟨en2, rfl, s14, hen2⟩
    have s24 := s13.trans s14
    have hB14 := hB12.same s24
    have hT14 := hT12.ext s24
    have hX14 := hX12.same s24
    have hdu14 := s14 _ _ hdu
    clear hB12 hT12 hX12 hd12 he12 hD s13 s14 s24 hdu
    -- the figure is put on
    refine ⟨fun σ' H' => σ' = [some (.ref b), some (.ref bk), some (.ref en2), some (.ref D), some (.ref du), some (.ref dp), some (.ref rm), some (.ref x), none, none, none] ∧ Bag H' b c ∧ LamX.Tabs Tl H' ∧ ∃ (n0 n1 n2 : Nat) (ps : List (List Row2)), BoX K C CB CH H' x pa bk [1, 1, 1] [[((0 : Int), (0 : Int), (d0 : Int)), ((2 : Int), (0 : Int), (d1 : Int))]] [zrow n0, zrow n1, zrow n2] ps [] ∧ H' en2 = some (.lst [V.int (n0 : Nat), V.int (n1 : Nat), V.int (n2 : Nat)]), ?_, ?_⟩
    · refine ⟨hT14, fun H15 e15 hT15 => ⟨.ref du, rfl, LamX.ExtN.of (Same.refl _), fun Q' hQ => ?_⟩⟩
      have hX15 := hX14.ext e15
      have hB15 := bag_ext hB14 e15
      have hdu15 := e15 _ _ hdu14 (fun _ z => nomatch z)
      have hen15 := e15 _ _ hen2 (fun _ z => by split at z <;> cases z)
      clear hB14 hT14 hX14 hdu14 hen2 e15
      obtain ⟨dx2, f1, f2, f3, f4, f5, f6, f7, f8, hx⟩ := hX15.ins
      refine ⟨.ref x, rfl, x, dx2, _, rfl, hx, rfl, ?_⟩
      have sh4 : BdR [zrow (400 - r0), zrow 0, zrow (400 - r1)] := fun r hr => ⟨(sh r hr).1, Nat.le_trans (sh r hr).2 (by decide)⟩
      have ED := lay_two (d0 := d0) (d1 := d1) (r0 := r0) (r1 := r1) d00 d10 (by omega) (by omega)
      refine ⟨x, pa, bk, .non, [1, 1, 1], _, _, [], [], 0, none, rfl, hX15, rfl, (show (3 : Nat) ≤ 100 by decide), sh4, hG.all, rfl, Nat.zero_le _, ?_⟩
      rw [ED]
      clear ED
      have refused : ∀ z : Int, (∃ zs, bad = z :: zs) → ∀ (dd : Addr) (H16 : Hp), Same H15 H16 → H16 dd = some (.xd (rFs 11 ([z].map V.int))) → ∃ (i : Nat) (ws : List V) (dd' : Addr), i < 28 ∧ Value.ref (cm 11) = Value.ref (cm i) ∧ some dd = some dd' ∧ ws.length = (rFl i).length ∧ H16 dd' = some (.xd (rFs i ws)) ∧ ∀ (p : Addr), H16 p = none → Q' (V.ref p) (upd H16 p (HO.tup (V.str (rNm i) :: ws))) := fun z hz dd H16 s16 hdd => by
        obtain ⟨zs, hbz⟩ := hz
        refine ⟨11, [.int z], dd, by decide, rfl, rfl, rfl, hdd, fun p3 n3 => hQ _ _ ?_⟩
        have u3 := same_upd (o := .tup [.str (rNm 11), .int z]) n3
        have hdu3 := (s16.trans u3) _ _ hdu15
        rw [hbz] at hdu3
        refine ⟨_, _, rfl, lk_2 (.inr ⟨SqT.of upd_same, SqT.of hdu3⟩) (lk_str _) (lk_int _), fun H17 s17 => ⟨_, rfl, iteF ?_⟩⟩
        have sE := (s16.trans u3).trans s17
        refine ⟨rfl, hB15.same sE, hT15.ext sE, 400 - r0, 0, 400 - r1, [], hX15.same sE, ?_⟩
        rw [hbz, if_neg (fun z => nomatch z)] at hen15
        exact sE _ _ hen15
      by_cases c0 : r0 < d0
      · have hbd : ∃ zs, bad = 0 :: zs := by rw [hbad, if_pos c0]; exact ⟨_, rfl⟩
        rw [if_pos c0]
        refine ⟨fun n ws e => ?_, fun ls e => by cases e⟩
        cases e
        exact refused 0 hbd
      by_cases c1 : r1 < d1
      · have hbd : ∃ zs, bad = 2 :: zs := by rw [hbad, if_neg c0, if_pos c1]; exact ⟨_, rfl⟩
        rw [if_neg c0, if_pos c1]
        refine ⟨fun n ws e => ?_, fun ls e => by cases e⟩
        cases e
        exact refused 2 hbd
      have hbd : bad = [] := by rw [hbad, if_neg c0, if_neg c1]; rfl
      rw [if_neg c0, if_neg c1]
      refine ⟨(fun n ws e => nomatch e), fun ls e => ?_⟩
      cases e
      intro H16 ls o16 el hX16 _
      subst el
      refine ⟨(show (2 : Nat) ≤ sizeLine by decide), fun p3 n3 => hQ _ _ ?_⟩
      have u3 := same_upd (o := .tup [.str "told", .non]) n3
      have hi := hX15.ins
      obtain ⟨dx3, ka, _, _, _, _, _, _, _, kb⟩ := hi
      have k4 : ∃ ys, H15 pa = some (.lst ys) := hX15.kinds.2
      obtain ⟨ys, k4⟩ := k4
      have hdu3 := u3 _ _ (o16 _ _ (fun z => by rw [z, kb] at hdu15; cases hdu15) (fun z => by rw [z, k4] at hdu15; cases hdu15) hdu15)
      rw [hbd] at hdu3
      refine ⟨_, _, rfl, lk_2 (.inr ⟨SqT.of upd_same, SqT.of hdu3⟩) (lk_str _) lk_non, fun H17 s17 => ⟨_, rfl, iteF ?_⟩⟩
      have sE := u3.trans s17
      rw [if_pos hbd] at hen15
      refine ⟨rfl, (hX15.bag2 hB15 hpb.1 hpb.2 o16).same sE, (hX15.tabs hT15 o16).ext sE, d0 + (400 - r0), 0, d1 + (400 - r1), _, hX16.same sE, ?_⟩
      rw [show d0 + (400 - r0) = 400 - r0 + d0 by omega, show d1 + (400 - r1) = 400 - r1 + d1 by omega]
      refine sE _ _ (o16 _ _ (fun z => by rw [z, kb] at hen15; cases hen15) (fun z => ?_) hen15)
      obtain ⟨_, _, _, _, _, _, _, zs, _, _, _, _, _, g4, g5, _⟩ := hX15
      have g6 := g5.len
      rw [z, g4] at hen15
      have g7 := congrArg (fun o : Option HO => match o with | some (.lst l) => l.length | _ => 0) hen15
      exact absurd (show zs.length = 3 from g7) (by rw [g6]; decide)
    rintro σ15 H15 ⟨rfl, hB15, hT15, n0, n1, n2, ps, hX15, hen15⟩
    have hrl : ∀ n : Nat, (zrow n).1.length = n := fun n => by unfold zrow; rw [List.length_replicate]
    have hv : ∀ n : Nat, (if (zrow n).2 = [] then V.int (((zrow n).1.length : Nat) : Int) else V.non) = V.int (n : Nat) := fun n => by rw [if_pos (show (zrow n).2 = [] from rfl), hrl]
    obtain ⟨dx2, f1, f2, f3, f4, f5, f6, f7, f8, hx⟩ := hX15.ins
    refine ⟨.ref x, rfl, x, dx2, _, rfl, hx, rfl, x, [1, 1, 1], _, _, 0, zrow n0, rfl, hX15.board, rfl, rfl, fun H16 s16 => ?_⟩
    rw [hv]
    refine ⟨.ref x, rfl, x, dx2, _, rfl, s16 _ _ hx, rfl, x, [1, 1, 1], _, _, 1, zrow n1, rfl, (hX15.same s16).board, rfl, rfl, fun H17 s17 => ?_⟩
    rw [hv]
    have s67 := s16.trans s17
    refine ⟨.ref x, rfl, x, dx2, _, rfl, s67 _ _ hx, rfl, x, [1, 1, 1], _, _, 2, zrow n2, rfl, (hX15.same s67).board, rfl, rfl, fun H18 s18 => ?_⟩
    rw [hv]
    have s68 := s67.trans s18
    dsimp only [tNil]
    refine ⟨(show (3 : Nat) ≤ sizeLine by decide), fun l nl => ?_⟩
    have ul := same_upd (o := .lst [V.int (n0 : Nat), V.int (n1 : Nat), V.int (n2 : Nat)]) nl
    have s6l := s68.trans ul
    refine ⟨.ref en2, rfl, _, _, rfl, lk_intL (c := [(n0 : Int), (n1 : Int), (n2 : Int)]) (SqL.of upd_same) (SqL.of (s6l _ _ hen15)) (show (3 : Nat) ≤ 1000 by decide), fun H19 s19 => ?_⟩
    have sE := s6l.trans s19
    exact q H19 (hB15.same sE) (hT15.ext sE)
end
/-! ### k82: long rows; the law -/
theorem isP_one {a : Nat} (h : 1 ≤ a) : IsPer (List.replicate a (0 : Int)) 1 := by
  refine ⟨Nat.le_refl _, by rw [List.length_replicate]; exact h, ⟨Nat.mod_one _, ?_⟩, fun q h1 _ _ => h1⟩
  rw [List.length_replicate, Nat.div_one, List.take_replicate, show min 1 a = 1 by omega]
  exact flat_rep 0 a
theorem cyc_z (z : Int) : cyc [0] z = 0 := by
  unfold cyc
  have : (z % (([0] : List Int).length : Int)).toNat = 0 := by
    show (z % 1).toNat = 0
    omega
  rw [this]
  rfl
theorem lr_zeros {m a : Nat} (h : 1 ≤ a) : LR (List.replicate m 0) (List.replicate a 0) [] [0] := by
  have e : (List.replicate a (0 : Int)).take 1 = [0] := by
    rw [List.take_replicate, show min 1 a = 1 by omega]
    rfl
  refine .inr ⟨fun z => ?_, 1, m, isP_one h, ⟨⟨?_, fun j hj => ?_⟩, fun z => ?_⟩, ?_, ?_⟩
  · have := congrArg List.length z
    rw [List.length_replicate] at this
    show False
    have h0 : a = 0 := this
    omega
  · rw [List.length_replicate]
    exact Nat.le_refl _
  · rw [e, cyc_z, List.length_replicate, List.getElem?_replicate, if_pos (by omega)]
  · rw [List.length_replicate] at z
    exact absurd z (Nat.lt_irrefl _)
  · rw [List.length_replicate, Nat.sub_self]
    rfl
  · rw [e]
    unfold rot
    show [(0 : Int)] = [cyc [0] ((0 : Nat) - (m : Int))]
    rw [cyc_z]
theorem reset_z {m a pn : Nat} (hp : pn < 2) (ha : 1 ≤ a) : resetM [2, 3] [([], []), ([], [])] (pn : Int) (List.replicate m 0, List.replicate a 0) = if m ≤ 400 ∧ a ≤ 12 then .ok (([([], []), ([], [])] : List Row2).set pn ([], [0])) else .error (8, [(pn : Int)]) := by
  have e0 : resetM [2, 3] [([], []), ([], [])] (pn : Int) (List.replicate m 0, List.replicate a 0) = (if rowB [2, 3] (pn : Int).toNat (List.replicate m 0, List.replicate a 0) = true then .ok (([([], []), ([], [])] : List Row2).set (pn : Int).toNat (leastM (List.replicate m 0, List.replicate a 0))) else .error (8, [(pn : Int)])) := if_pos ⟨by omega, by show (pn : Int) < 2; omega⟩
  rw [e0, Int.toNat_natCast, leastM_eq (r := (List.replicate m 0, List.replicate a 0)) (l := ([], [0])) (lr_zeros ha)]
  have e1 : rowB [2, 3] pn (List.replicate m 0, List.replicate a 0) = decide (m ≤ 400 ∧ a ≤ 12) := by
    have nb : ∀ n : Nat, notesB [2, 3] pn (List.replicate n 0) = true := fun n => by
      unfold notesB
      have : (0 : Int) < ([2, 3] : List Int).getD pn 0 := by
        match pn, hp with
        | 0, _ => decide
        | 1, _ => decide
      rw [List.all_eq_true]
      intro x hx
      rw [List.eq_of_mem_replicate hx]
      simp
      simpa using this
    unfold rowB
    show (decide ((List.replicate m (0 : Int)).length ≤ 400) && decide ((List.replicate a (0 : Int)).length ≤ 12) && notesB [2, 3] pn (List.replicate m 0) && notesB [2, 3] pn (List.replicate a 0)) = _
    rw [nb, nb, List.length_replicate, List.length_replicate]
    simp
  rw [e1]
  simp
section
variable {P : Program} {w : World} {K : PySem.W.Frag} {mg : Str → Option Value} {base : Heap}
theorem ok_long {f C CB CH fP fK fIs fTr fBK fBO fDo fRw cL pL tB : Addr} {fdP fdK fdIs fdTr fdBK fdBO fdDo fdRw : FuncData} {dsB dsO : List Value} {cm : Nat → Addr} {acts : Str → Sp → Prop} {okk : Str → List V → Prop} {oc kV doc pm ct : Value} {od an : Option Addr} {osl : Array (Option Value)}
    (lk : K.lookup f = some ⟨oc, od, .func (PySem.W.fnOf "_law_long_reset" "_law_long_reset" (defArgs sLG) (defBody sLG) (defScope sLG) .none kV doc pm an (.ref cL) ct), osl⟩) (hcd : PySem.W.codeIn K (.ref cL) "_law_long_reset" = true) (tb : LamX.TabB base mg cL pL)
    (T : BoTxt K mg CB) (TB : BkTxt K mg C) (ac : acts "reset" (spRst K C cm)) (hk : ∀ xs, okk "reset" xs)
    (FP : Fun K "_law_pull" "_law_pull" sPull fP fdP) (bP : Binds K fdP ["_law_bag_here", "_law_size"] []) (gP : mg "_law_pull" = some (.ref fP)) (GP : FnOk P w K mg base CX0 18 fP fdP ["_law_bag_here", "_law_size"] spPull)
    (FK : Fun K "_law_like" "_law_like" sLike fK fdK) (bK : Binds K fdK ["_law_one", "_law_due"] []) (gK : mg "_law_like" = some (.ref fK)) (GK0 : FnOk P w K mg base CX0 5 fK fdK ["_law_one", "_law_due"] (spLike K 5))
    (FIs : Fun K "_law_is" "_law_is" sIs fIs fdIs) (bIs : Binds K fdIs ["_law_act", "_law_due"] []) (gIs : mg "_law_is" = some (.ref fIs))
    (FTr : Fun K "_law_tried" "_law_tried" sTried fTr fdTr) (bTr : Binds K fdTr ["_law_act"] []) (gTr : mg "_law_tried" = some (.ref fTr)) (RT : RefsT K mg cm)
    (MBK : Mk K C fBK) (GBK : FnOk P w K mg base CX0 17 fBK fdBK ["self", "colours", "figures"] (spBk0 K C)) (bBK : Binds K fdBK ["self", "colours", "figures"] dsB) (vBK : Vals [.ref tB] dsB) (tT : ∀ H, SqT K H tB [])
    (MBO : Mk K CB fBO) (GBO : FnOk P w K mg base CX0 17 fBO fdBO ["self", "book", "rows"] (spBoInN K C CB CH)) (bBO : Binds K fdBO ["self", "book", "rows"] dsO) (vBO : Vals [.non] dsO)
    (bDo : Binds K fdDo ["self", "deed"] []) (mDo : Meth K CB "do" fDo) (GDo : FnOk P w K mg base (L2.CX P w) 15 fDo fdDo ["self", "deed"] (spDoX K C CB CH cm acts okk))
    (bRw : Binds K fdRw ["self"] []) (mRw : Meth K CB "rows" fRw) (GRw : FnOk P w K mg base CX0 18 fRw fdRw ["self"] (spBoRw K C CB)) (ml : mg "len" = none) :
    FnOk P w K mg base CX0 19 f (PySem.W.fnOf "_law_long_reset" "_law_long_reset" (defArgs sLG) (defBody sLG) (defScope sLG) .none kV doc pm an (.ref cL) ct) ["_law_bag_here"] (spScn qLG pL) := by
  have GK := GK0.mono (show 5 ≤ 18 by decide)
  have GK15 := GK0.mono (show 5 ≤ 17 by decide)
  refine fn_of lk hcd scLG (fun vs H Q E h => ?_) (fun A outer s H vs Q E hr h => ?_)
  · obtain ⟨_, b, c, rfl, _⟩ := h
    rfl
  · obtain ⟨Tl, b, c, rfl, ⟨hmT, huT⟩, hB, hT, q⟩ := h
    refine ⟨_, PSs.nox (pss_cons (ps_set (i := 4) scLG.nd rfl (.inr rfl) (pe_make MBO GBO hr (by rfl) T.mgC bBO vBO pass0 (pa_cons (pe_make MBK GBK hr (by rfl) TB.mgC bBK vBK pass0 (pa_cons (pe_lst (pa_cons pe_int (pa_cons pe_int pa_nil))) pa_nil)) pa_nil)))
      (pss_cons (ps_asg (pe_tup (pa_cons (pe_call GP hr (by rfl) gP FP.kp bP .nil pass0 (pa_cons (pv 0) (pa_cons pe_int pa_nil))) (pa_cons (pe_op op_add pe_int (pe_call GP hr (by rfl) gP FP.kp bP .nil pass0 (pa_cons (pv 0) (pa_cons pe_int pa_nil)))) pa_nil))) (pg_tup (by rfl) (pgs_cons (pg_name (i := 6) scLG.nd rfl (.inr rfl)) (pgs_cons (pg_name (i := 5) scLG.nd rfl (.inr rfl)) pgs_nil))))
      (pss_cons (ps_set (i := 3) scLG.nd rfl (.inr rfl) (pe_op op_rep (pe_lst (pa_cons pe_int pa_nil)) (pe_op op_add pe_int (pe_call GP hr (by rfl) gP FP.kp bP .nil pass0 (pa_cons (pv 0) (pa_cons pe_int pa_nil))))))
      (C8.pss_cut (ps_set (i := 1) scLG.nd rfl (.inl rfl) (pe_ifExp (PW.pt (pw_and (pt_cmpR op_lt (pv 5) pe_int (nomark _)) (pw_and1 (pt_cmpR op_lt (pe_callB call_lenQ (by rfl) ml PySem.boot_len (pa_cons (pv 3) pa_nil)) pe_int (nomark _))))) (pe_tup (pa_cons pe_str (pa_cons pe_non pa_nil))) (pe_tup (pa_cons pe_str (pa_cons (pv 6) pa_nil)))))
      (C8.pss_cut (ps_if (pt_not (pt_val (pe_is (T := Tl) (cm := cm) (k := 15) (n := 5) FIs gIs bIs (by rfl) RT FTr gTr bTr FK gK bK GK15 rfl tb rfl hmT huT hr (LamX.lamS_by (sc := defScope sLG) (by decide +kernel)) rfl (fun _ _ _ _ _ => rfl) (fun A2 outer2 s2 H2 E2 f2 c2 hr2 => pe_meth (pv 4) T.cl mDo GDo hr2 bDo .nil (passes_call (takes_of rfl rfl rfl rfl) (fun _ _ _ _ h => h)) (pa_cons (pe_tup (pa_cons pe_str (pa_cons (pv 6) (pa_cons (pe_op op_rep (pe_lst (pa_cons pe_int pa_nil)) (pv 5)) (pa_cons (pv 3) pa_nil))))) pa_nil)) (pv 1)))) (pss_one (ps_ret pe_bl)) pss_nil)
      (C8.pss_cut (ps_set (i := 2) scLG.nd rfl (.inl rfl) (pe_ifExp (pt_cmpR op_eq (pe_ix ix_tup (pv 1) pe_int (fun _ _ => rfl)) pe_str (nomark _)) (pe_tup (pa_cons (pe_tup pa_nil) (pa_cons (pe_tup (pa_cons pe_int pa_nil)) pa_nil))) (pe_tup (pa_cons (pe_tup pa_nil) (pa_cons (pe_tup pa_nil) pa_nil)))))
      (pss_one (ps_ret (pe_call GK hr (by rfl) gK FK.kp bK .nil pass0 (pa_cons (pe_lst (pa_cons (pe_ix ix_list (pe_meth0 (pv 4) T.cl mRw GRw hr bRw .nil pass0) (pv 6) (fun _ _ => rfl)) (pa_cons (pe_ix ix_list (pe_meth0 (pv 4) T.cl mRw GRw hr bRw .nil pass0) (pe_op op_sub pe_int (pv 6)) (fun _ _ => rfl)) pa_nil))) (pa_cons (pe_lst (pa_cons (pv 2) (pa_cons (pe_tup (pa_cons (pe_tup pa_nil) (pa_cons (pe_tup pa_nil) pa_nil))) pa_nil))) pa_nil))))))))))), ?_⟩
    -- the book, the board
    refine ⟨(show (2 : Nat) ≤ sizeLine by decide), fun l nl => ?_⟩
    have ul := same_upd (o := .lst [V.int 2, V.int 3]) nl
    have hl1 : (upd H l (.lst [V.int 2, V.int 3])) l = some (.lst [V.int 2, V.int 3]) := upd_same
    have hB1 := hB.same ul
    have hT2 := hT.ext ul
    generalize upd H l (.lst [V.int 2, V.int 3]) = H2 at hl1 hB1 hT2 ⊢
    clear hT hB ul nl
    intro x1 dx1 nx1 ndx1 nxd1
    have v1 := same_upd (o := .own x1) ndx1
    have nx1' : (upd H2 dx1 (.own x1)) x1 = none := by
      rw [upd_ne nxd1.symm]
      exact nx1
    have v12 := v1.trans (same_upd (o := .ins C dx1 []) nx1')
    refine ⟨x1, dx1, l, tB, [2, 3], rfl, upd_same, SqL.of (v12 _ _ hl1), tT _, ⟨by decide, by decide, by decide⟩, fun H3 off3 hBk => ⟨rfl, ?_⟩⟩
    have s3 : Same H2 H3 := fun bb oo ee => off3 bb oo (ne_of_none ee nx1) (v12 _ _ ee)
    have hB3 := hB1.same s3
    have hT3 := hT2.ext s3
    clear hB1 hT2 v1 v12 off3 s3 hl1 nx1'
    intro x dx nx ndx nxd
    have v1 := same_upd (o := .own x) ndx
    have nx' : (upd H3 dx (.own x)) x = none := by
      rw [upd_ne nxd.symm]
      exact nx
    have v12 := v1.trans (same_upd (o := .ins CB dx []) nx')
    refine ⟨x, dx, x1, [2, 3], [], rfl, upd_same, hBk.same v12, (fun f hf => nomatch hf), by decide, by decide, fun H4 pa off4 npa hX0 => ⟨rfl, ?_⟩⟩
    have s4 : Same H3 H4 := fun bb oo ee => off4 bb oo (ne_of_none ee nx) (v12 _ _ ee)
    have hpb := hB3.ne (v12.free npa)
    have hB4 := hB3.same s4
    have hT4 := hT3.ext s4
    have hX0 : BoX K C CB CH H4 x pa x1 [2, 3] [] [([], []), ([], [])] [] [] := hX0
    clear hB3 hT3 v1 v12 off4 s4 nx' npa hBk
    -- which pad, how many
    refine ⟨.ref b, rfl, b, c, 2, rfl, hB4, by decide, by decide, fun H5 z5 o5 hB5 z50 z51 => ?_⟩
    have hX5 := hX0.off hB4 o5 hpb.1
    have hT5 := tabs_off hT4 hB4 o5
    refine ⟨.ref b, rfl, b, c, 4, rfl, hB5, by decide, by decide, fun H6 z6 o6 hB6 z60 z61 => ?_⟩
    have hX6 := hX5.off hB5 o6 hpb.1
    have hT6 := tabs_off hT5 hB5 o6
    obtain ⟨pn, rfl⟩ := Int.eq_ofNat_of_zero_le z50
    have hpn : pn < 2 := by omega
    obtain ⟨m, hm, hm0⟩ : ∃ m : Nat, 399 + z6 = (m : Int) ∧ m ≤ 402 := ⟨(399 + z6).toNat, by omega, by omega⟩
    refine ⟨399, z6, rfl, rfl, ?_⟩
    dsimp only [tNil]
    rw [hm]
    refine ⟨(show (2 : Nat) ≤ sizeLine by decide), fun t nt => ?_⟩
    have ut := same_upd (o := .tup [V.int (pn : Nat), V.int (m : Nat)]) nt
    have hX7 := hX6.same ut
    have hT7 := hT6.ext ut
    have hB7 := hB6.same ut
    refine ⟨t, _, rfl, SqT.of upd_same, rfl, _, _, rfl, _, _, rfl, rfl, ?_⟩
    generalize upd H6 t (.tup [V.int (pn : Nat), V.int (m : Nat)]) = H7 at hX7 hT7 hB7 ⊢
    clear hX0 hX5 hX6 hT4 hT5 hT6 hB4 hB5 hB6 o5 o6 ut nt z50 z51 z60 z61
    refine ⟨(show (1 : Nat) ≤ sizeLine by decide), fun l1 n1 => ?_⟩
    have u1 := same_upd (o := .lst [V.int 0]) n1
    have h1 : (upd H7 l1 (.lst [V.int 0])) l1 = some (.lst [V.int 0]) := upd_same
    have hX8 := hX7.same u1
    have hT8 := hT7.ext u1
    have hB8 := hB7.same u1
    have l1b := (hB7.ne n1).1
    generalize upd H7 l1 (.lst [V.int 0]) = H8 at h1 hX8 hT8 hB8 ⊢
    refine ⟨.ref b, rfl, b, c, 4, rfl, hB8, by decide, by decide, fun H9 z9 o9 hB9 z90 z91 => ?_⟩
    have hX9 := hX8.off hB8 o9 hpb.1
    have hT9 := tabs_off hT8 hB8 o9
    have h19 := o9 _ _ l1b h1
    obtain ⟨a, ha, ha0, ha1⟩ : ∃ a : Nat, 11 + z9 = (a : Int) ∧ 11 ≤ a ∧ a ≤ 14 := ⟨(11 + z9).toNat, by omega, by omega, by omega⟩
    refine ⟨11, z9, rfl, rfl, ?_⟩
    dsimp only [tNil]
    rw [ha]
    refine ⟨l1, (a : Nat), _, rfl, rfl, h19, by omega, by omega, ?_, fun ag nag => ?_⟩
    · rw [Int.toNat_natCast]
      exact Nat.le_of_lt (small1000 (by show 1 * a ≤ 1000; omega))
    rw [Int.toNat_natCast, flat_rep]
    have ua := same_upd (o := .lst (List.replicate a (V.int 0))) nag
    have hX10 := hX9.same ua
    have hT10 := hT9.ext ua
    have hB10 := hB9.same ua
    have hag10 : (upd H9 ag (.lst (List.replicate a (V.int 0)))) ag = some (.lst ((List.replicate a (0 : Int)).map V.int)) := by rw [List.map_replicate]; exact upd_same
    generalize upd H9 ag (.lst (List.replicate a (V.int 0))) = H10 at hX10 hT10 hB10 hag10 ⊢
    clear hX7 hX8 hX9 hT7 hT8 hT9 hB7 hB8 hB9 h1 h19 u1 n1 o9 ua nag z90 z91
    obtain ⟨ok, hok⟩ : ∃ ok : Bool, ok = decide (m ≤ 400 ∧ a ≤ 12) := ⟨_, rfl⟩
    refine ⟨fun σ' H' => ∃ du, σ' = [some (.ref b), some (.ref du), none, some (.ref ag), some (.ref x), some (.int (m : Nat)), some (.int (pn : Nat))] ∧ Same H10 H' ∧ H' du = some (.tup (if ok = true then [.str "told", .non] else [.str "BadRow", .int (pn : Nat)])), ?_, ?_⟩
    · refine ⟨.int (m : Nat), rfl, _, 401, rfl, rfl, _, rfl, ite2 (fun e1 => ?_) (fun e1 => ?_)⟩
      · have e2 := of_decide_eq_true e1
        refine ⟨.ref ag, rfl, ag, _, rfl, .inl (SqL.of hag10), _, 13, rfl, rfl, _, rfl, ?_⟩
        rw [List.length_map, List.length_replicate]
        by_cases e3 : a ≤ 12
        · rw [decide_eq_true (show ((a : Nat) : Int) < 13 by omega)]
          refine iteT ⟨(show (2 : Nat) ≤ sizeLine by decide), fun du ndu => ⟨du, rfl, same_upd ndu, ?_⟩⟩
          rw [if_pos (by rw [hok]; exact decide_eq_true ⟨by omega, e3⟩)]
          exact upd_same
        · rw [decide_eq_false (show ¬ ((a : Nat) : Int) < 13 by omega)]
          refine iteF ⟨.int (pn : Nat), rfl, (show (2 : Nat) ≤ sizeLine by decide), fun du ndu => ⟨du, rfl, same_upd ndu, ?_⟩⟩
          rw [if_neg (by rw [hok, decide_eq_false (fun z => e3 z.2)]; decide)]
          exact upd_same
      · have e2 : ¬ m ≤ 400 := fun z => e1 (decide_eq_true (by omega))
        refine iteF ⟨.int (pn : Nat), rfl, (show (2 : Nat) ≤ sizeLine by decide), fun du ndu => ⟨du, rfl, same_upd ndu, ?_⟩⟩
        rw [if_neg (by rw [hok, decide_eq_false (fun z => e2 z.1)]; decide)]
        exact upd_same
    rintro σ11 H11 ⟨du, rfl, s11, hdu⟩
    have hX11 := hX10.same s11
    have hB11 := hB10.same s11
    have hT11 := hT10.ext s11
    have hag11 := s11 _ _ hag10
    clear hX10 hB10 hT10 hag10 s11
    refine ⟨fun σ' H' => σ' = [some (.ref b), some (.ref du), none, some (.ref ag), some (.ref x), some (.int (m : Nat)), some (.int (pn : Nat))] ∧ Bag H' b c ∧ LamX.Tabs Tl H' ∧ H' du = some (.tup (if ok = true then [.str "told", .non] else [.str "BadRow", .int (pn : Nat)])) ∧ ∃ (ps : List (List Row2)), BoX K C CB CH H' x pa x1 [2, 3] [] (if ok = true then (([([], []), ([], [])] : List Row2).set pn ([], [0])) else [([], []), ([], [])]) ps [], ?_, ?_⟩
    · refine ⟨hT11, fun H12 e12 hT12 => ⟨.ref du, rfl, LamX.ExtN.of (Same.refl _), fun Q' hQ => ?_⟩⟩
      have hX12 := hX11.ext e12
      have hB12 := bag_ext hB11 e12
      have hdu12 := e12 _ _ hdu (fun _ z => by split at z <;> cases z)
      have hag12 := e12 _ _ hag11 (fun _ z => nomatch z)
      clear hX11 hB11 hT11 hdu hag11 e12
      obtain ⟨dx2, f1, f2, f3, f4, f5, f6, f7, f8, hx⟩ := hX12.ins
      refine ⟨.ref x, rfl, x, dx2, _, rfl, hx, rfl, .int (pn : Nat), rfl, (show (1 : Nat) ≤ sizeLine by decide), fun l2 n2 => ?_⟩
      have u2 := same_upd (o := .lst [V.int 0]) n2
      refine ⟨.int (m : Nat), rfl, l2, (m : Nat), _, rfl, rfl, upd_same, by omega, by omega, ?_, fun l3 n3 => ?_⟩
      · rw [Int.toNat_natCast]
        exact Nat.le_of_lt (small1000 (by show 1 * m ≤ 1000; omega))
      rw [Int.toNat_natCast, flat_rep]
      have u3 := same_upd (o := .lst (List.replicate m (V.int 0))) n3
      refine ⟨.ref ag, rfl, (show (4 : Nat) ≤ sizeLine by decide), fun dd ndd => ?_⟩
      have u4 := same_upd (o := .tup [.str "reset", .int (pn : Nat), .ref l3, .ref ag]) ndd
      have u23 := u2.trans u3
      have u24 := u23.trans u4
      have hp : SqA K _ l3 ((List.replicate m (0 : Int)).map V.int) := .inl (SqL.of (u4 _ _ (by rw [List.map_replicate]; exact upd_same)))
      have hX13 := hX12.same u24
      obtain ⟨_, _, _, _, _, _, _, _, _, _, _, hBk, _⟩ := id hX13
      have hD : DeedR K acts okk cm _ x1 dd [([], []), ([], [])] (resetM [2, 3] [([], []), ([], [])] (pn : Int) (List.replicate m 0, List.replicate a 0)) "reset" [.int (pn : Nat), .ref l3, .ref ag] (spRst K C cm) :=
        reset_r ac (hk _) (SqT.of upd_same) hBk rfl (show (2 : Nat) ≤ 100 by decide) hp (.inl (SqL.of (u24 _ _ hag12))) (by show (List.replicate m (0 : Int)).length ≤ 1000; rw [List.length_replicate]; omega) (by show (List.replicate a (0 : Int)).length ≤ 1000; rw [List.length_replicate]; omega)
      rw [reset_z hpn (by omega)] at hD
      refine ⟨x, pa, x1, dd, [2, 3], [], [([], []), ([], [])], [], [], _, _, _, _, rfl, hX13, hD, Nat.zero_le _, ?_⟩
      clear hD
      have hB13 := hB12.same u24
      have hT13 := hT12.ext u24
      have hdu13 := u24 _ _ hdu12
      generalize (upd (upd (upd H12 l2 (.lst [V.int 0])) l3 (.lst (List.replicate m (V.int 0)))) dd (.tup [.str "reset", .int (pn : Nat), .ref l3, .ref ag])) = H13 at hX13 hB13 hT13 hdu13 ⊢
      by_cases e : m ≤ 400 ∧ a ≤ 12
      · rw [if_pos e]
        have eo : ok = true := by rw [hok]; exact decide_eq_true e
        refine ⟨(fun n ws z => nomatch z), fun ls z => ?_⟩
        cases z
        intro H14 ls o14 el hX14 _
        subst el
        refine ⟨(show (2 : Nat) ≤ sizeLine by decide), fun p3 n3 => hQ _ _ ?_⟩
        have u5 := same_upd (o := .tup [.str "told", .non]) n3
        obtain ⟨⟨dx3, fl3, k3⟩, ys, k4⟩ := hX13.kinds
        have hdu14 := o14 _ _ (fun z => by rw [z, k3] at hdu13; cases hdu13) (fun z => by rw [z, k4] at hdu13; cases hdu13) hdu13
        have hduE := u5 _ _ hdu14
        rw [if_pos eo] at hduE
        refine ⟨_, _, rfl, lk_2 (.inr ⟨SqT.of upd_same, SqT.of hduE⟩) (lk_str _) lk_non, fun H17 s17 => ⟨_, rfl, iteF ?_⟩⟩
        have sE := u5.trans s17
        refine ⟨rfl, (hX13.bag2 hB13 hpb.1 hpb.2 o14).same sE, (hX13.tabs hT13 o14).ext sE, sE _ _ hdu14, ([] : List (List Row2)) ++ [[([], []), ([], [])]], ?_⟩
        rw [if_pos eo]
        exact hX14.same sE
      · rw [if_neg e]
        have eo : ¬ ok = true := by rw [hok, decide_eq_false e]; decide
        refine ⟨fun n ws z => ?_, (fun ls z => nomatch z)⟩
        cases z
        intro dd2 H14 s14 hdd2
        refine ⟨8, [.int (pn : Nat)], dd2, by decide, rfl, rfl, rfl, hdd2, fun p3 n3 => hQ _ _ ?_⟩
        have u5 := same_upd (o := .tup [.str (rNm 8), .int (pn : Nat)]) n3
        have hduE := (s14.trans u5) _ _ hdu13
        have hduF := hduE
        rw [if_neg eo] at hduF
        refine ⟨_, _, rfl, lk_2 (.inr ⟨SqT.of upd_same, SqT.of hduF⟩) (lk_str _) (lk_int _), fun H17 s17 => ⟨_, rfl, iteF ?_⟩⟩
        have sE := (s14.trans u5).trans s17
        refine ⟨rfl, hB13.same sE, hT13.ext sE, s17 _ _ hduE, [], ?_⟩
        rw [if_neg eo]
        exact hX13.same sE
    rintro σ14 H14 ⟨rfl, hB14, hT14, hdu14, ps, hX14⟩
    clear hX11 hB11 hT11 hdu hag11
    refine ⟨fun σ' H' => ∃ rw, σ' = [some (.ref b), some (.ref du), some (.ref rw), some (.ref ag), some (.ref x), some (.int (m : Nat)), some (.int (pn : Nat))] ∧ Same H14 H' ∧ RowAt K H' rw [] (if ok = true then [0] else []), ?_, ?_⟩
    · cases ok with
      | true =>
        refine ⟨.ref du, rfl, du, _, 0, .str "told", rfl, rfl, SqT.of hdu14, rfl, rfl, _, rfl, ite2 (fun _ => ?_) (fun e => absurd (by decide) e)⟩
        refine ⟨Nat.zero_le _, fun t1 n1 => ⟨(show (1 : Nat) ≤ sizeLine by decide), fun t2 n2 => ⟨(show (2 : Nat) ≤ sizeLine by decide), fun t3 n3 => ?_⟩⟩⟩
        have u1 := same_upd (o := .tup []) n1
        have u2 := same_upd (o := .tup [V.int 0]) n2
        have u3 := same_upd (o := .tup [V.ref t1, V.ref t2]) n3
        exact ⟨t3, rfl, (u1.trans u2).trans u3, t1, t2, SqT.of upd_same, SqT.of ((u2.trans u3) _ _ upd_same), SqT.of (u3 _ _ upd_same)⟩
      | false =>
        refine ⟨.ref du, rfl, du, _, 0, .str "BadRow", rfl, rfl, SqT.of hdu14, rfl, rfl, _, rfl, ite2 (fun e => absurd e (by decide)) (fun _ => ?_)⟩
        refine ⟨Nat.zero_le _, fun t1 n1 => ⟨Nat.zero_le _, fun t2 n2 => ⟨(show (2 : Nat) ≤ sizeLine by decide), fun t3 n3 => ?_⟩⟩⟩
        have u1 := same_upd (o := .tup []) n1
        have u2 := same_upd (o := .tup []) n2
        have u3 := same_upd (o := .tup [V.ref t1, V.ref t2]) n3
        exact ⟨t3, rfl, (u1.trans u2).trans u3, t1, t2, SqT.of upd_same, SqT.of ((u2.trans u3) _ _ upd_same), SqT.of (u3 _ _ upd_same)⟩
    rintro σ15 H15 ⟨rw, rfl, s15, hrw⟩
    have hX15 := hX14.same s15
    have hB15 := hB14.same s15
    have hT15 := hT14.ext s15
    clear hX14 hB14 hT14 hdu14 s15
    have gl : ∀ j : Nat, j < 2 → (if ok = true then (([([], []), ([], [])] : List Row2).set pn ([], [0])) else [([], []), ([], [])])[j]? = some (if j = pn then (([], if ok = true then [0] else []) : Row2) else ([], [])) := fun j hj => by
      cases ok with
      | true =>
        rw [if_pos rfl, if_pos rfl, List.getElem?_set]
        by_cases e : pn = j
        · rw [if_pos e, if_pos e.symm, if_pos (by show pn < 2; omega)]
        · rw [if_neg e, if_neg (fun z => e z.symm)]
          match j, hj with
          | 0, _ => rfl
          | 1, _ => rfl
      | false =>
        match j, hj with
        | 0, _ => simp
        | 1, _ => simp
    obtain ⟨dx2, f1, f2, f3, f4, f5, f6, f7, f8, hx⟩ := hX15.ins
    refine ⟨.ref x, rfl, x, dx2, _, rfl, hx, rfl, x, [2, 3], [], _, rfl, hX15.board, fun H16 d16 xs16 s16 nd16 hd16 hA16 => ?_⟩
    obtain ⟨y16, hy16, p16, rfl, hp16⟩ := hA16.at (gl pn hpn)
    refine ⟨.int (pn : Nat), rfl, d16, xs16, (pn : Nat), _, rfl, rfl, SqL.of hd16, atI_nat hy16, ?_⟩
    refine ⟨.ref x, rfl, x, dx2, _, rfl, s16 _ _ hx, rfl, x, [2, 3], [], _, rfl, (hX15.same s16).board, fun H17 d17 xs17 s17 nd17 hd17 hA17 => ?_⟩
    obtain ⟨y17, hy17, p17, rfl, hp17⟩ := hA17.at (gl (1 - pn) (by omega))
    refine ⟨.int (pn : Nat), rfl, 1, (pn : Nat), rfl, rfl, d17, xs17, ((1 - pn : Nat) : Int), _, rfl, ?_, SqL.of hd17, atI_nat hy17, ?_⟩
    · show V.int ((1 : Int) - (pn : Nat)) = _
      rw [show (1 : Int) - (pn : Nat) = ((1 - pn : Nat) : Int) by omega]
    rw [if_pos rfl] at hp16
    rw [if_neg (by omega)] at hp17
    dsimp only [tNil]
    refine ⟨(show (2 : Nat) ≤ sizeLine by decide), fun l1 n1 => ?_⟩
    have u1 := same_upd (o := .lst [V.ref p16, V.ref p17]) n1
    refine ⟨.ref rw, rfl, Nat.zero_le _, fun t1 m1 => ⟨Nat.zero_le _, fun t2 m2 => ⟨(show (2 : Nat) ≤ sizeLine by decide), fun t3 m3 => ⟨(show (2 : Nat) ≤ sizeLine by decide), fun l2 n2 => ?_⟩⟩⟩⟩
    have u2 := same_upd (o := .tup []) m1
    have u3 := same_upd (o := .tup []) m2
    have u4 := same_upd (o := .tup [V.ref t1, V.ref t2]) m3
    have u5 := same_upd (o := .lst [V.ref rw, V.ref t3]) n2
    have u25 := ((u2.trans u3).trans u4).trans u5
    have u15 := u1.trans u25
    have hz : RowAt K _ t3 [] [] := ⟨t1, t2, SqT.of (u5 _ _ upd_same), SqT.of (((u3.trans u4).trans u5) _ _ upd_same), SqT.of ((u4.trans u5) _ _ upd_same)⟩
    have s1 := s16.trans (s17.trans u15)
    refine ⟨_, _, rfl, lk_2 (.inl ⟨SqL.of (u25 _ _ upd_same), SqL.of upd_same⟩) (lk_row (n := 1) (hp16.same (s17.trans u15)) (hrw.same s1) (Nat.zero_le _) (by cases ok <;> decide)) (lk_row (n := 1) (hp17.same u15) hz (Nat.zero_le _) (Nat.zero_le _)), fun H18 s18 => ?_⟩
    have sE := s1.trans s18
    exact q H18 (hB15.same sE) (hT15.ext sE)
end
/-! ### the law -/
abbrev nLaw : List Str := ["_law_script", "_law_bag_here", "_law_turn"]
theorem scLaw : FnScope nLaw ["_law_script"] (defScope sLaw) := ⟨rfl, rfl, rfl, by decide +kernel, rfl, by decide +kernel, by decide +kernel⟩
def spLaw (K : PySem.W.Frag) (pA pB : Addr) : Sp := fun vs H Q _ => ∃ (a : Addr) (ns : List Int), vs = [.ref a] ∧ SqL K H a (ns.map V.int) ∧ ns.length ≤ 63 ∧ H pA = some (.tbl #[]) ∧ H pB = some (.tbl #[]) ∧ ∀ H', Q (.bl true) H'
section
variable {P : Program} {w : World} {K : PySem.W.Frag} {mg : Str → Option Value} {base : Heap}
theorem ok_law82 {f fB fA fL pA pB : Addr} {fd fdB fdA fdL : FuncData} (F : Fun K "law" "law" sLaw f fd) (mr : mg "range" = none) (hne : pA ≠ pB)
    (FB : Fun K "_law_bag" "_law_bag" sBag fB fdB) (bB : Binds K fdB ["_law_script"] []) (gB : mg "_law_bag" = some (.ref fB)) (GB : FnOk P w K mg base CX0 19 fB fdB ["_law_script"] (spBag K))
    (FA : Fun K "_law_two_full" "_law_two_full" sTF fA fdA) (bA : Binds K fdA ["_law_bag_here"] []) (gA : mg "_law_two_full" = some (.ref fA)) (GA : FnOk P w K mg base CX0 19 fA fdA ["_law_bag_here"] (spScn qTF pA))
    (FL : Fun K "_law_long_reset" "_law_long_reset" sLG fL fdL) (bL : Binds K fdL ["_law_bag_here"] []) (gL : mg "_law_long_reset" = some (.ref fL)) (GL : FnOk P w K mg base CX0 19 fL fdL ["_law_bag_here"] (spScn qLG pB)) :
    FnOk P w K mg base CX0 20 f fd ["_law_script"] (spLaw K pA pB) := by
  refine F.ok scLaw (fun vs H Q E h => ?_) (fun cdv A outer s H vs Q E hr h => ?_)
  · obtain ⟨a, ns, rfl, _⟩ := h
    rfl
  · obtain ⟨a, ns, rfl, hS, hlen, hA, hB, q⟩ := h
    refine ⟨_, pss_cons (ps_set (i := 1) scLaw.nd rfl (.inl rfl) (pe_call GB hr (by rfl) gB FB.kp bB .nil pass0 (pa_cons (pv 0) pa_nil)))
      (pss_cons (ps_for PassesOwn.never rfl (pi_range1 (by rfl) mr (pa_cons pe_int pa_nil)) (pg_name (i := 2) scLaw.nd rfl (.inl rfl)) (pss_one (ps_if (PW.pt (pw_or (pt_not (pt_val (pe_call GA hr (by rfl) gA FA.kp bA .nil pass0 (pa_cons (pv 1) pa_nil)))) (pw_or1 (pt_not (pt_val (pe_call GL hr (by rfl) gL FL.kp bL .nil pass0 (pa_cons (pv 1) pa_nil))))))) (pss_one (ps_ret pe_bl)) pss_nil)))
      (pss_one (ps_ret pe_bl))), ?_⟩
    refine ⟨.ref a, rfl, a, ns, rfl, hS, hlen, fun H1 b c s1 hBg _ => ?_⟩
    have hT : LamX.Tabs [(pA, qTF), (pB, qLG)] H1 := fun p hp => by
      rcases List.mem_cons.mp hp with rfl | hp
      · exact LamX.TabS.nil (s1 _ _ hA)
      · rw [List.mem_singleton.mp hp]
        exact LamX.TabS.nil (s1 _ _ hB)
    have inA : InT [(pA, qTF), (pB, qLG)] pA qTF := ⟨List.mem_cons_self, fun z hz e => by
      rcases List.mem_cons.mp hz with rfl | hz
      · rfl
      · rw [List.mem_singleton.mp hz] at e
        exact absurd e.symm hne⟩
    have inB : InT [(pA, qTF), (pB, qLG)] pB qLG := ⟨List.mem_cons_of_mem _ (List.mem_singleton.mpr rfl), fun z hz e => by
      rcases List.mem_cons.mp hz with rfl | hz
      · exact absurd e hne
      · rw [List.mem_singleton.mp hz]⟩
    refine ⟨4, rfl, by decide, by decide, ?_⟩
    refine for_range (lo := 0) (n := 4) (fun i σ H' => ∃ y2, σ = [some (.ref a), some (.ref b), y2] ∧ Bag H' b c ∧ LamX.Tabs [(pA, qTF), (pB, qLG)] H') ⟨_, rfl, hBg, hT⟩ ?_ ?_
    · rintro i σ H2 hi ⟨y2, rfl, hB2, hT2⟩
      refine ⟨.ref b, rfl, _, b, c, rfl, inA, hB2, hT2, fun H3 hB3 hT3 => ⟨_, rfl, iteF ?_⟩⟩
      refine ⟨.ref b, rfl, _, b, c, rfl, inB, hB3, hT3, fun H4 hB4 hT4 => ⟨_, rfl, iteF ?_⟩⟩
      exact ⟨_, rfl, hB4, hT4⟩
    · rintro σ H2 ⟨y2, rfl, _, _⟩
      exact q H2
end
/-! ### the Hook over a written list of addresses, with tables of the top (dicts with text keys) -/
def lookT (as : List Addr) (fa : List He.Fa) (fn : List He.DefD) (ts : List He.Tab) (tf : List He.Defn) (ex : PySem.W.Frag → Bool) (g : Addr → Option Obj) : He.AlX :=
  (He.obsT fa fn ts (He.frT g as), ex (He.frT g as) && He.tabsB g tf (He.frT g as))
theorem lookT_says {as : List Addr} {fa : List He.Fa} {fn : List He.DefD} {ts : List He.Tab} {tf : List He.Defn} {ex : PySem.W.Frag → Bool} {w : World} {h : Heap} (e : lookT as fa fn ts tf ex h.get? = He.valX fn ts w) : He.SaysX fa fn ts tf ex w h (He.frT h.get? as) := by
  have a : _ = He.valT fn ts w := congrArg Prod.fst e
  obtain ⟨b, c⟩ := He.ba (show _ = true from congrArg Prod.snd e)
  exact { t := a, more := b, hd := fun p hp => (tabs_out c p hp).1, out := fun p hp => (tabs_out c p hp).2.1, empty := fun p hp => (tabs_out c p hp).2.2 }
def hookT (as : List Addr) (fa : List He.Fa) (fn : List He.DefD) (ts : List He.Tab) (tf : List He.Defn) (ex : PySem.W.Frag → Bool) : PySem.W.Hook :=
  { α := He.AlX, obs := fun s => lookT as fa fn ts tf ex s.heap.get?, val := He.valX fn ts, says := fun w h => ∃ K : PySem.W.Frag, K.In h ∧ He.SaysX fa fn ts tf ex w h K, of := fun w s e => ⟨_, He.frT_in, lookT_says e⟩,
    keeps := fun w h h' y k => by
      obtain ⟨K, i, c⟩ := y
      exact ⟨K, PySem.W.Frag.In.keeps i k, { t := c.t, more := c.more, hd := c.hd, out := c.out, empty := fun p hp => k _ _ (c.empty p hp) }⟩ }
theorem lookT_eq {as : List Addr} {fa : List He.Fa} {fn : List He.DefD} {ts : List He.Tab} {tf : List He.Defn} {ex : PySem.W.Frag → Bool} (s : PySem.W.SharedT) : lookT as fa fn ts tf ex (HandSHeadRun.getT s) = (hookT as fa fn ts tf ex).obs s.abs := by
  rw [show HandSHeadRun.getT s = s.abs.heap.get? from funext (HandSHeadRun.getT_eq s)]
  rfl
theorem nsB_ok {K : PySem.W.Frag} {t x f : Str} (h : nsB K t x f = true) : PySem.W.nsIn K (He.ga K t) x = some (some (.ref (He.ga K f))) := He.eqO_ok h
theorem strI_ok {v : Value} {x : Str} (h : strI v x = true) : RelV (.str x) v := by
  cases v with
  | str y t =>
    have e : y = x := of_decide_eq_true h
    subst e
    exact ⟨t, rfl⟩
  | _ => cases h
theorem intI_ok {v : Value} {x : Int} (h : intI v x = true) : RelV (.int x) v := by
  cases v with
  | int y t =>
    have e : y = x := of_decide_eq_true h
    subst e
    exact ⟨t, rfl⟩
  | _ => cases h
theorem twoB_ok {l : List Value} {q : Str × Int} (h : twoB l q = true) : Vals [.str q.1, .int q.2] l := by
  match l, h with
  | [], h => cases h
  | [_], h => cases h
  | [x, y], h =>
    obtain ⟨h3, h4⟩ := He.ba (show (strI x q.1 && intI y q.2) = true from h)
    exact .cons (strI_ok h3) (.cons (intI_ok h4) .nil)
  | _ :: _ :: _ :: _, h => cases h
theorem pairB_ok {K : PySem.W.Frag} {v : Value} {q : Str × Int} (h : pairB K v q = true) : ∃ a, v = .ref a ∧ ∀ H, SqT K H a [.str q.1, .int q.2] := by
  unfold pairB at h
  split at h
  · rename_i a
    refine ⟨a, rfl, fun H => ?_⟩
    split at h
    · rename_i c od its n sl e
      obtain ⟨h1, g⟩ := He.ba h
      obtain ⟨h2, h3⟩ := He.ba g
      clear h g
      have h1 := of_decide_eq_true h1
      have h2 := of_decide_eq_true h2
      subst h1
      exact .inr ⟨_, its, n, e, rfl, rfl, (Nat.le_of_lt (small1000 h2)), twoB_ok h3⟩
    · cases h
  · cases h
theorem pairsB_ok {K : PySem.W.Frag} : ∀ {vs : List Value} {qs : List (Str × Int)}, pairsB K vs qs = true → ∃ xs : List V, Vals xs vs ∧ ∀ H, DpAll K H xs (qs.map fun k => .tuple [.str k.1, .int k.2])
  | [], [], _ => ⟨[], .nil, fun _ => .nil⟩
  | [], _ :: _, h => by cases h
  | _ :: _, [], h => by cases h
  | v :: vs, q :: qs, h => by
    obtain ⟨h1, h2⟩ := He.ba (show (pairB K v q && pairsB K vs qs) = true from h)
    obtain ⟨a, rfl, ha⟩ := pairB_ok h1
    obtain ⟨xs, h3, h4⟩ := pairsB_ok h2
    exact ⟨.ref a :: xs, .cons rfl h3, fun H => .cons (.tup (ha H) (.cons (.str _) (.cons (.int _) .nil))) (h4 H)⟩
theorem kindsB_ok {K : PySem.W.Frag} {a : Addr} {qs : List (Str × Int)} (h : kindsB K a qs = true) (H : Hp) : Dp K H (.ref a) (.tuple (qs.map fun k => .tuple [.str k.1, .int k.2])) := by
  unfold kindsB at h
  split at h
  · rename_i c od its n sl e
    obtain ⟨h1, g⟩ := He.ba h
    obtain ⟨h2, h3⟩ := He.ba g
    clear h g
    have h1 := of_decide_eq_true h1
    have h2 := of_decide_eq_true h2
    subst h1
    obtain ⟨xs, h4, h5⟩ := pairsB_ok h3
    exact .tup (.inr ⟨_, its, n, e, rfl, rfl, (Nat.le_of_lt (small1000 h2)), h4⟩) (h5 H)
  · cases h
/-! ### BadBeneath -/
theorem scI_BadBeneath : FnScope ["self"] ["self"] (defScope sI_BadBeneath) := ⟨rfl, rfl, rfl, by decide +kernel, rfl, by decide +kernel, by decide +kernel⟩
theorem okI_BadBeneath {P : Program} {w : World} {K : PySem.W.Frag} {mg : Str → Option Value} {base : Heap} {f C CB fB : Addr} {fd fdB : FuncData} {k : Nat} (F : Fun K "__init__" "BadBeneath.__init__" sI_BadBeneath f fd) (T : OexG K C) (hw : PySem.W.findIn K (.ref C) "word" = some none)
    (B : CFn K CB "__init__" fB) (GB : FnOk P w K mg base CX0 k fB fdB ["self", "word"] (spBase K)) (bB : Binds K fdB ["self", "word"] []) (mB : mg "TearError" = some (.ref CB)) :
    FnOk P w K mg base CX0 (k + 1) f fd ["self"] (spMade C 0 (fun ws => [("word", .str "BadBeneath")])) := by
  refine F.ok scI_BadBeneath (fun vs H Q E h => ?_) (fun cdv A outer s H vs Q E hr h => ?_)
  · obtain ⟨a, ws, rfl, hl, _⟩ := h
    rw [List.length_cons, hl]
    rfl
  · obtain ⟨a, ws, rfl, hl, ha, q⟩ := h
    obtain rfl := ws_0 hl
    refine ⟨_, pss_one (ps_expr (pe_cfn B GB hr bB .nil pass0 (by rfl) mB (pa_cons (pv 0) (pa_cons pe_str pa_nil)))), ?_⟩
    refine ⟨.ref a, rfl, a, C, _, rfl, T, hw, ha, fun dx h1 h2 => ?_⟩
    have nn : a ≠ dx := fun z => h2 z.symm
    refine q dx _ h1 h2 (fun b b1 b2 => ?_) upd_same ?_
    · rw [upd_ne b1, upd_ne b2]
    · rw [upd_ne h2, upd_same]
/-! ### what the table of actions gives -/
/-- a def that never refuses, where refusals are heard -/
theorem loud {P : Program} {w : World} {K : PySem.W.Frag} {mg : Str → Option Value} {base : Heap} {k : Nat} {f : Addr} {fd : FuncData} {ps : List Str} {sp : Sp} (F : FnOk P w K mg base CX0 k f fd ps sp) : FnOk P w K mg base (L2.CX P w) k f fd ps sp :=
  ⟨F.len, fun A outer s H args us vs Q E hr he hb hv hs => codeAny_mono (F.run A outer s H args us vs Q E hr he hb hv hs) fun r s' q => by
    cases r with
    | ok fl =>
      cases fl with
      | ret u => exact q
      | next => exact q
      | brk => exact q
      | cont => exact q
    | error e => exact q.elim⟩
theorem actOk {P : Program} {w : World} {K : PySem.W.Frag} {mg : Str → Option Value} {base : Heap} {j k : Nat} {t f : Str} {x : Str} {fd : FuncData} {ps : List Str} {sp : Sp} (h : nsB K t x f = true) (hk : PySem.W.keepIn K (.ref (He.ga K f)) = true) (b : Binds K fd ps [])
    (G : FnOk P w K mg base (L2.CX P w) j (He.ga K f) fd ps sp) (hj : j ≤ k) : ActOk P w K mg base k (He.ga K t) x sp :=
  ⟨_, nsB_ok h, hk, ((G.raw b .nil).imp fun vs H Q E z => by rw [List.append_nil]; exact z).mono hj⟩
theorem rbdC {P : Program} {w : World} {K : PySem.W.Frag} {mg : Str → Option Value} {base : Heap} {k : Nat} {f : Addr} {fd : FuncData} {acts : Str → Sp → Prop} (G : FnOk P w K mg base (L2.CX P w) k f fd ["book", "rows", "deed", "most"] (spRbd K acts)) : FnOk P w K mg base CX0 k f fd ["book", "rows", "deed", "most"] (spRbdC K acts) := calm G fun _ _ _ _ h => h
theorem exk_BadColours {P : Program} {w : World} {K : PySem.W.Frag} {mg : Str → Option Value} {base : Heap} {fd fdb : FuncData} (L : LeafK K "BadColours" "TearError" ["at"]) (F : Fun K "__init__" "BadColours.__init__" sI_BadColours (He.ma K (He.ga K "BadColours") "__init__") fd)
    (Fb : FunD K "__init__" "TearError.__init__" (defArgs sI_TearError) (defBody sI_TearError) (defScope sI_TearError) [.str "TearError"] [] (He.ma K (He.ga K "TearError") "__init__") fdb) (mX : mg "BadColours" = some (.ref (He.ga K "BadColours"))) (mb : mg "TearError" = some (.ref (He.ga K "TearError"))) {j : Nat} (hj : 2 ≤ j) :
    ExcK P w K mg base j "BadColours" (He.ga K "BadColours") 1 (fun ws => [("at", ws.getD 0 .non), ("word", .str "BadColours")]) := by
  obtain ⟨ds, vd, bb⟩ := Fb.binds1 (ps := ["self", "word"]) 2 1 (List.cons_ne_nil _ _) rfl (fun T kV doc pm an cdv ct us its l1 l2 => match us, its, l1, l2 with | [_, _], [_], _, _ => ⟨_, rfl, rfl⟩)
  have ed : ds = [] := List.eq_nil_of_length_eq_zero vd.length.symm
  subst ed
  have GB : FnOk P w K mg base CX0 1 _ _ ["self", "word"] (spBase K) := okI_TearError (k := 0) Fb
  have bX := F.binds (ps := ["self", "at"]) fun _ _ _ _ _ _ us hl => match us, hl with | [_, _], _ => rfl
  have GX := okI_BadColours (k := 1) F L.T (L.n "word" (List.mem_cons_self ..)) (L.n "at" (List.mem_cons_of_mem _ (List.mem_cons_self ..))) L.B GB bb mb
  exact ⟨L.T, mX, _, _, _, L.i, L.t, GX.mono hj, bX⟩
theorem exk_Meeting {P : Program} {w : World} {K : PySem.W.Frag} {mg : Str → Option Value} {base : Heap} {fd fdb : FuncData} (L : LeafK K "Meeting" "TearError" ["one", "other"]) (F : Fun K "__init__" "Meeting.__init__" sI_Meeting (He.ma K (He.ga K "Meeting") "__init__") fd)
    (Fb : FunD K "__init__" "TearError.__init__" (defArgs sI_TearError) (defBody sI_TearError) (defScope sI_TearError) [.str "TearError"] [] (He.ma K (He.ga K "TearError") "__init__") fdb) (mX : mg "Meeting" = some (.ref (He.ga K "Meeting"))) (mb : mg "TearError" = some (.ref (He.ga K "TearError"))) {j : Nat} (hj : 2 ≤ j) :
    ExcK P w K mg base j "Meeting" (He.ga K "Meeting") 2 (fun ws => [("other", ws.getD 1 .non), ("one", ws.getD 0 .non), ("word", .str "Meeting")]) := by
  obtain ⟨ds, vd, bb⟩ := Fb.binds1 (ps := ["self", "word"]) 2 1 (List.cons_ne_nil _ _) rfl (fun T kV doc pm an cdv ct us its l1 l2 => match us, its, l1, l2 with | [_, _], [_], _, _ => ⟨_, rfl, rfl⟩)
  have ed : ds = [] := List.eq_nil_of_length_eq_zero vd.length.symm
  subst ed
  have GB : FnOk P w K mg base CX0 1 _ _ ["self", "word"] (spBase K) := okI_TearError (k := 0) Fb
  have bX := F.binds (ps := ["self", "one", "other"]) fun _ _ _ _ _ _ us hl => match us, hl with | [_, _, _], _ => rfl
  have GX := okI_Meeting (k := 1) F L.T (L.n "word" (List.mem_cons_self ..)) (L.n "one" (List.mem_cons_of_mem _ (List.mem_cons_self ..))) (L.n "other" (List.mem_cons_of_mem _ (List.mem_cons_of_mem _ (List.mem_cons_self ..)))) L.B GB bb mb
  exact ⟨L.T, mX, _, _, _, L.i, L.t, GX.mono hj, bX⟩
theorem exk_TooMany {P : Program} {w : World} {K : PySem.W.Frag} {mg : Str → Option Value} {base : Heap} {fd fdb : FuncData} (L : LeafK K "TooMany" "TearError" ["most"]) (F : Fun K "__init__" "TooMany.__init__" sI_TooMany (He.ma K (He.ga K "TooMany") "__init__") fd)
    (Fb : FunD K "__init__" "TearError.__init__" (defArgs sI_TearError) (defBody sI_TearError) (defScope sI_TearError) [.str "TearError"] [] (He.ma K (He.ga K "TearError") "__init__") fdb) (mX : mg "TooMany" = some (.ref (He.ga K "TooMany"))) (mb : mg "TearError" = some (.ref (He.ga K "TearError"))) {j : Nat} (hj : 2 ≤ j) :
    ExcK P w K mg base j "TooMany" (He.ga K "TooMany") 1 (fun ws => [("most", ws.getD 0 .non), ("word", .str "TooMany")]) := by
  obtain ⟨ds, vd, bb⟩ := Fb.binds1 (ps := ["self", "word"]) 2 1 (List.cons_ne_nil _ _) rfl (fun T kV doc pm an cdv ct us its l1 l2 => match us, its, l1, l2 with | [_, _], [_], _, _ => ⟨_, rfl, rfl⟩)
  have ed : ds = [] := List.eq_nil_of_length_eq_zero vd.length.symm
  subst ed
  have GB : FnOk P w K mg base CX0 1 _ _ ["self", "word"] (spBase K) := okI_TearError (k := 0) Fb
  have bX := F.binds (ps := ["self", "most"]) fun _ _ _ _ _ _ us hl => match us, hl with | [_, _], _ => rfl
  have GX := okI_TooMany (k := 1) F L.T (L.n "word" (List.mem_cons_self ..)) (L.n "most" (List.mem_cons_of_mem _ (List.mem_cons_self ..))) L.B GB bb mb
  exact ⟨L.T, mX, _, _, _, L.i, L.t, GX.mono hj, bX⟩
theorem exk_BadRow {P : Program} {w : World} {K : PySem.W.Frag} {mg : Str → Option Value} {base : Heap} {fd fdb : FuncData} (L : LeafK K "BadRow" "TearError" ["at"]) (F : Fun K "__init__" "BadRow.__init__" sI_BadRow (He.ma K (He.ga K "BadRow") "__init__") fd)
    (Fb : FunD K "__init__" "TearError.__init__" (defArgs sI_TearError) (defBody sI_TearError) (defScope sI_TearError) [.str "TearError"] [] (He.ma K (He.ga K "TearError") "__init__") fdb) (mX : mg "BadRow" = some (.ref (He.ga K "BadRow"))) (mb : mg "TearError" = some (.ref (He.ga K "TearError"))) {j : Nat} (hj : 2 ≤ j) :
    ExcK P w K mg base j "BadRow" (He.ga K "BadRow") 1 (fun ws => [("at", ws.getD 0 .non), ("word", .str "BadRow")]) := by
  obtain ⟨ds, vd, bb⟩ := Fb.binds1 (ps := ["self", "word"]) 2 1 (List.cons_ne_nil _ _) rfl (fun T kV doc pm an cdv ct us its l1 l2 => match us, its, l1, l2 with | [_, _], [_], _, _ => ⟨_, rfl, rfl⟩)
  have ed : ds = [] := List.eq_nil_of_length_eq_zero vd.length.symm
  subst ed
  have GB : FnOk P w K mg base CX0 1 _ _ ["self", "word"] (spBase K) := okI_TearError (k := 0) Fb
  have bX := F.binds (ps := ["self", "at"]) fun _ _ _ _ _ _ us hl => match us, hl with | [_, _], _ => rfl
  have GX := okI_BadRow (k := 1) F L.T (L.n "word" (List.mem_cons_self ..)) (L.n "at" (List.mem_cons_of_mem _ (List.mem_cons_self ..))) L.B GB bb mb
  exact ⟨L.T, mX, _, _, _, L.i, L.t, GX.mono hj, bX⟩
theorem exk_BadBeneath {P : Program} {w : World} {K : PySem.W.Frag} {mg : Str → Option Value} {base : Heap} {fd fdb : FuncData} (L : LeafK K "BadBeneath" "TearError" []) (F : Fun K "__init__" "BadBeneath.__init__" sI_BadBeneath (He.ma K (He.ga K "BadBeneath") "__init__") fd)
    (Fb : FunD K "__init__" "TearError.__init__" (defArgs sI_TearError) (defBody sI_TearError) (defScope sI_TearError) [.str "TearError"] [] (He.ma K (He.ga K "TearError") "__init__") fdb) (mX : mg "BadBeneath" = some (.ref (He.ga K "BadBeneath"))) (mb : mg "TearError" = some (.ref (He.ga K "TearError"))) {j : Nat} (hj : 2 ≤ j) :
    ExcK P w K mg base j "BadBeneath" (He.ga K "BadBeneath") 0 (fun ws => [("word", .str "BadBeneath")]) := by
  obtain ⟨ds, vd, bb⟩ := Fb.binds1 (ps := ["self", "word"]) 2 1 (List.cons_ne_nil _ _) rfl (fun T kV doc pm an cdv ct us its l1 l2 => match us, its, l1, l2 with | [_, _], [_], _, _ => ⟨_, rfl, rfl⟩)
  have ed : ds = [] := List.eq_nil_of_length_eq_zero vd.length.symm
  subst ed
  have GB : FnOk P w K mg base CX0 1 _ _ ["self", "word"] (spBase K) := okI_TearError (k := 0) Fb
  have bX := F.binds (ps := ["self"]) fun _ _ _ _ _ _ us hl => match us, hl with | [_], _ => rfl
  have GX := okI_BadBeneath (k := 1) F L.T (L.n "word" (List.mem_cons_self ..)) L.B GB bb mb
  exact ⟨L.T, mX, _, _, _, L.i, L.t, GX.mono hj, bX⟩
theorem exk_Full {P : Program} {w : World} {K : PySem.W.Frag} {mg : Str → Option Value} {base : Heap} {fd fdb : FuncData} (L : LeafK K "Full" "TearError" ["pad"]) (F : Fun K "__init__" "Full.__init__" sI_Full (He.ma K (He.ga K "Full") "__init__") fd)
    (Fb : FunD K "__init__" "TearError.__init__" (defArgs sI_TearError) (defBody sI_TearError) (defScope sI_TearError) [.str "TearError"] [] (He.ma K (He.ga K "TearError") "__init__") fdb) (mX : mg "Full" = some (.ref (He.ga K "Full"))) (mb : mg "TearError" = some (.ref (He.ga K "TearError"))) {j : Nat} (hj : 2 ≤ j) :
    ExcK P w K mg base j "Full" (He.ga K "Full") 1 (fun ws => [("pad", ws.getD 0 .non), ("word", .str "Full")]) := by
  obtain ⟨ds, vd, bb⟩ := Fb.binds1 (ps := ["self", "word"]) 2 1 (List.cons_ne_nil _ _) rfl (fun T kV doc pm an cdv ct us its l1 l2 => match us, its, l1, l2 with | [_, _], [_], _, _ => ⟨_, rfl, rfl⟩)
  have ed : ds = [] := List.eq_nil_of_length_eq_zero vd.length.symm
  subst ed
  have GB : FnOk P w K mg base CX0 1 _ _ ["self", "word"] (spBase K) := okI_TearError (k := 0) Fb
  have bX := F.binds (ps := ["self", "pad"]) fun _ _ _ _ _ _ us hl => match us, hl with | [_, _], _ => rfl
  have GX := okI_Full (k := 1) F L.T (L.n "word" (List.mem_cons_self ..)) (L.n "pad" (List.mem_cons_of_mem _ (List.mem_cons_self ..))) L.B GB bb mb
  exact ⟨L.T, mX, _, _, _, L.i, L.t, GX.mono hj, bX⟩
theorem exk_NoPad {P : Program} {w : World} {K : PySem.W.Frag} {mg : Str → Option Value} {base : Heap} {fd fdb : FuncData} (L : LeafK K "NoPad" "Missing" ["pad"]) (F : Fun K "__init__" "NoPad.__init__" sI_NoPad (He.ma K (He.ga K "NoPad") "__init__") fd)
    (Fb : FunD K "__init__" "Missing.__init__" (defArgs sI_Missing) (defBody sI_Missing) (defScope sI_Missing) [.str "Missing"] [] (He.ma K (He.ga K "Missing") "__init__") fdb) (mX : mg "NoPad" = some (.ref (He.ga K "NoPad"))) (mb : mg "Missing" = some (.ref (He.ga K "Missing"))) {j : Nat} (hj : 2 ≤ j) :
    ExcK P w K mg base j "NoPad" (He.ga K "NoPad") 1 (fun ws => [("pad", ws.getD 0 .non), ("word", .str "NoPad")]) := by
  obtain ⟨ds, vd, bb⟩ := Fb.binds1 (ps := ["self", "word"]) 2 1 (List.cons_ne_nil _ _) rfl (fun T kV doc pm an cdv ct us its l1 l2 => match us, its, l1, l2 with | [_, _], [_], _, _ => ⟨_, rfl, rfl⟩)
  have ed : ds = [] := List.eq_nil_of_length_eq_zero vd.length.symm
  subst ed
  have GB : FnOk P w K mg base CX0 1 _ _ ["self", "word"] (spBase K) := okI_Missing (k := 0) Fb
  have bX := F.binds (ps := ["self", "pad"]) fun _ _ _ _ _ _ us hl => match us, hl with | [_, _], _ => rfl
  have GX := okI_NoPad (k := 1) F L.T (L.n "word" (List.mem_cons_self ..)) (L.n "pad" (List.mem_cons_of_mem _ (List.mem_cons_self ..))) L.B GB bb mb
  exact ⟨L.T, mX, _, _, _, L.i, L.t, GX.mono hj, bX⟩
theorem exk_NoFigure {P : Program} {w : World} {K : PySem.W.Frag} {mg : Str → Option Value} {base : Heap} {fd fdb : FuncData} (L : LeafK K "NoFigure" "Missing" ["figure"]) (F : Fun K "__init__" "NoFigure.__init__" sI_NoFigure (He.ma K (He.ga K "NoFigure") "__init__") fd)
    (Fb : FunD K "__init__" "Missing.__init__" (defArgs sI_Missing) (defBody sI_Missing) (defScope sI_Missing) [.str "Missing"] [] (He.ma K (He.ga K "Missing") "__init__") fdb) (mX : mg "NoFigure" = some (.ref (He.ga K "NoFigure"))) (mb : mg "Missing" = some (.ref (He.ga K "Missing"))) {j : Nat} (hj : 2 ≤ j) :
    ExcK P w K mg base j "NoFigure" (He.ga K "NoFigure") 1 (fun ws => [("figure", ws.getD 0 .non), ("word", .str "NoFigure")]) := by
  obtain ⟨ds, vd, bb⟩ := Fb.binds1 (ps := ["self", "word"]) 2 1 (List.cons_ne_nil _ _) rfl (fun T kV doc pm an cdv ct us its l1 l2 => match us, its, l1, l2 with | [_, _], [_], _, _ => ⟨_, rfl, rfl⟩)
  have ed : ds = [] := List.eq_nil_of_length_eq_zero vd.length.symm
  subst ed
  have GB : FnOk P w K mg base CX0 1 _ _ ["self", "word"] (spBase K) := okI_Missing (k := 0) Fb
  have bX := F.binds (ps := ["self", "figure"]) fun _ _ _ _ _ _ us hl => match us, hl with | [_, _], _ => rfl
  have GX := okI_NoFigure (k := 1) F L.T (L.n "word" (List.mem_cons_self ..)) (L.n "figure" (List.mem_cons_of_mem _ (List.mem_cons_self ..))) L.B GB bb mb
  exact ⟨L.T, mX, _, _, _, L.i, L.t, GX.mono hj, bX⟩
/-! ### the head by facts; the end -/
def hFa : List He.Fa := hFa1 ++ hFa2
def hEx (K : PySem.W.Frag) : Bool := hEx1 K && hEx2 K
abbrev hK : PySem.W.Hook := hookT hAs hFa hFn hTs hTf hEx
def hOb (s : PySem.W.SharedT) : He.AlX := lookT hAs hFa hFn hTs hTf hEx (HandSHeadRun.getT s)
theorem hOb_eq (s : PySem.W.SharedT) : hOb s = hK.obs s.abs := lookT_eq s
theorem hFacts {l : PySem.W.OpenLaw} {w : World} {K : PySem.W.Frag} {h : Heap} {mg : Str → Option Value} {fa0 : Addr} (X : K.In h) (G : h.Ns mainGlobals mg) (hfa : mg "law" = some (.ref fa0)) (c : He.SaysX hFa hFn hTs hTf hEx w h K) : LamX.LawAtS l w K CX0 20 63 "_law_script" mg fa0 h := by
  have cd := c.t.d
  have mo0 := c.more
  obtain ⟨x0, mo1⟩ := He.ba mo0
  obtain ⟨x1, mo2⟩ := He.ba mo1
  obtain ⟨x2, mo3⟩ := He.ba mo2
  obtain ⟨x3, mo4⟩ := He.ba mo3
  obtain ⟨x4, mo5⟩ := He.ba mo4
  obtain ⟨x5, mo6⟩ := He.ba mo5
  obtain ⟨x6, mo7⟩ := He.ba mo6
  obtain ⟨x7, mo8⟩ := He.ba mo7
  obtain ⟨x8, mo9⟩ := He.ba mo8
  obtain ⟨x9, mo10⟩ := He.ba mo9
  obtain ⟨x10, mo11⟩ := He.ba mo10
  obtain ⟨x11, mo12⟩ := He.ba mo11
  obtain ⟨x12, mo13⟩ := He.ba mo12
  obtain ⟨x13, mo14⟩ := He.ba mo13
  have x14 := mo14
  have RT := refsB_ok X G cd x0
  obtain ⟨fdcc, Fcc0⟩ := cd.def_ 0 (d := dOf ("check_colours", none) "check_colours" "check_colours" sCCol [] []) rfl
  have Fcc : Fun K "check_colours" "check_colours" sCCol (He.ga K "check_colours") fdcc := funOf Fcc0
  have gcc : mg "check_colours" = some (.ref (He.ga K "check_colours")) := He.glo_ok X G (cd.fact 28 (f := .glo "check_colours") rfl)
  have bcc := Fcc.binds (ps := ["colours"]) fun _ _ _ _ _ _ us hl => match us, hl with | [_], _ => rfl
  obtain ⟨fdcf, Fcf0⟩ := cd.def_ 1 (d := dOf ("check_figures", none) "check_figures" "check_figures" sCFig [] []) rfl
  have Fcf : Fun K "check_figures" "check_figures" sCFig (He.ga K "check_figures") fdcf := funOf Fcf0
  have gcf : mg "check_figures" = some (.ref (He.ga K "check_figures")) := He.glo_ok X G (cd.fact 29 (f := .glo "check_figures") rfl)
  have bcf := Fcf.binds (ps := ["colours", "figures"]) fun _ _ _ _ _ _ us hl => match us, hl with | [_, _], _ => rfl
  obtain ⟨fdfi, Ffi0⟩ := cd.def_ 2 (d := dOf ("is_figure", none) "is_figure" "is_figure" sIsFig [] []) rfl
  have Ffi : Fun K "is_figure" "is_figure" sIsFig (He.ga K "is_figure") fdfi := funOf Ffi0
  have gfi : mg "is_figure" = some (.ref (He.ga K "is_figure")) := He.glo_ok X G (cd.fact 30 (f := .glo "is_figure") rfl)
  have bfi := Ffi.binds (ps := ["colours", "figure"]) fun _ _ _ _ _ _ us hl => match us, hl with | [_, _], _ => rfl
  obtain ⟨fdti, Fti0⟩ := cd.def_ 3 (d := dOf ("is_triple", none) "is_triple" "is_triple" sIsTri [] []) rfl
  have Fti : Fun K "is_triple" "is_triple" sIsTri (He.ga K "is_triple") fdti := funOf Fti0
  have gti : mg "is_triple" = some (.ref (He.ga K "is_triple")) := He.glo_ok X G (cd.fact 31 (f := .glo "is_triple") rfl)
  have bti := Fti.binds (ps := ["colours", "triple"]) fun _ _ _ _ _ _ us hl => match us, hl with | [_, _], _ => rfl
  obtain ⟨fdcm, Fcm0⟩ := cd.def_ 4 (d := dOf ("check_meetings", none) "check_meetings" "check_meetings" sCMeet [] []) rfl
  have Fcm : Fun K "check_meetings" "check_meetings" sCMeet (He.ga K "check_meetings") fdcm := funOf Fcm0
  have gcm : mg "check_meetings" = some (.ref (He.ga K "check_meetings")) := He.glo_ok X G (cd.fact 32 (f := .glo "check_meetings") rfl)
  have bcm := Fcm.binds (ps := ["figures"]) fun _ _ _ _ _ _ us hl => match us, hl with | [_], _ => rfl
  obtain ⟨fdcy, Fcy0⟩ := cd.def_ 5 (d := dOf ("copy_of_figure", none) "copy_of_figure" "copy_of_figure" sCopyF [] []) rfl
  have Fcy : Fun K "copy_of_figure" "copy_of_figure" sCopyF (He.ga K "copy_of_figure") fdcy := funOf Fcy0
  have gcy : mg "copy_of_figure" = some (.ref (He.ga K "copy_of_figure")) := He.glo_ok X G (cd.fact 33 (f := .glo "copy_of_figure") rfl)
  have bcy := Fcy.binds (ps := ["figure"]) fun _ _ _ _ _ _ us hl => match us, hl with | [_], _ => rfl
  obtain ⟨fdpo_, Fpo_0⟩ := cd.def_ 6 (d := dOf ("pads_of", none) "pads_of" "pads_of" sPadsOf [] []) rfl
  have Fpo_ : Fun K "pads_of" "pads_of" sPadsOf (He.ga K "pads_of") fdpo_ := funOf Fpo_0
  have gpo_ : mg "pads_of" = some (.ref (He.ga K "pads_of")) := He.glo_ok X G (cd.fact 34 (f := .glo "pads_of") rfl)
  have bpo_ := Fpo_.binds (ps := ["figure"]) fun _ _ _ _ _ _ us hl => match us, hl with | [_], _ => rfl
  obtain ⟨fdms, Fms0⟩ := cd.def_ 7 (d := dOf ("mask_of", none) "mask_of" "mask_of" sMask [] []) rfl
  have Fms : Fun K "mask_of" "mask_of" sMask (He.ga K "mask_of") fdms := funOf Fms0
  have gms : mg "mask_of" = some (.ref (He.ga K "mask_of")) := He.glo_ok X G (cd.fact 35 (f := .glo "mask_of") rfl)
  have bms := Fms.binds (ps := ["figure"]) fun _ _ _ _ _ _ us hl => match us, hl with | [_], _ => rfl
  obtain ⟨fdba, Fba0⟩ := cd.def_ 8 (d := dOf ("bar", none) "bar" "bar" sBar [] []) rfl
  have Fba : Fun K "bar" "bar" sBar (He.ga K "bar") fdba := funOf Fba0
  have gba : mg "bar" = some (.ref (He.ga K "bar")) := He.glo_ok X G (cd.fact 36 (f := .glo "bar") rfl)
  have bba := Fba.binds (ps := ["one", "other"]) fun _ _ _ _ _ _ us hl => match us, hl with | [_, _], _ => rfl
  obtain ⟨fdtr, Ftr0⟩ := cd.def_ 9 (d := dOf ("tiers_of", none) "tiers_of" "tiers_of" sTiers [] []) rfl
  have Ftr : Fun K "tiers_of" "tiers_of" sTiers (He.ga K "tiers_of") fdtr := funOf Ftr0
  have gtr : mg "tiers_of" = some (.ref (He.ga K "tiers_of")) := He.glo_ok X G (cd.fact 37 (f := .glo "tiers_of") rfl)
  have btr := Ftr.binds (ps := ["book", "row"]) fun _ _ _ _ _ _ us hl => match us, hl with | [_, _], _ => rfl
  obtain ⟨fdB, FB0⟩ := cd.def_ 10 (d := dOf ("_law_bag", none) "_law_bag" "_law_bag" sBag [] []) rfl
  have FB : Fun K "_law_bag" "_law_bag" sBag (He.ga K "_law_bag") fdB := funOf FB0
  have gB : mg "_law_bag" = some (.ref (He.ga K "_law_bag")) := He.glo_ok X G (cd.fact 38 (f := .glo "_law_bag") rfl)
  have bB := FB.binds (ps := ["_law_script"]) fun _ _ _ _ _ _ us hl => match us, hl with | [_], _ => rfl
  obtain ⟨fdP, FP0⟩ := cd.def_ 11 (d := dOf ("_law_pull", none) "_law_pull" "_law_pull" sPull [] []) rfl
  have FP : Fun K "_law_pull" "_law_pull" sPull (He.ga K "_law_pull") fdP := funOf FP0
  have gP : mg "_law_pull" = some (.ref (He.ga K "_law_pull")) := He.glo_ok X G (cd.fact 39 (f := .glo "_law_pull") rfl)
  have bP := FP.binds (ps := ["_law_bag_here", "_law_size"]) fun _ _ _ _ _ _ us hl => match us, hl with | [_, _], _ => rfl
  obtain ⟨fdK, FK0⟩ := cd.def_ 12 (d := dOf ("_law_like", none) "_law_like" "_law_like" sLike [] []) rfl
  have FK : Fun K "_law_like" "_law_like" sLike (He.ga K "_law_like") fdK := funOf FK0
  have gK : mg "_law_like" = some (.ref (He.ga K "_law_like")) := He.glo_ok X G (cd.fact 40 (f := .glo "_law_like") rfl)
  have bK := FK.binds (ps := ["_law_one", "_law_due"]) fun _ _ _ _ _ _ us hl => match us, hl with | [_, _], _ => rfl
  obtain ⟨fdT, FT0⟩ := cd.def_ 13 (d := dOf ("_law_tried", none) "_law_tried" "_law_tried" sTried [] []) rfl
  have FT : Fun K "_law_tried" "_law_tried" sTried (He.ga K "_law_tried") fdT := funOf FT0
  have gT : mg "_law_tried" = some (.ref (He.ga K "_law_tried")) := He.glo_ok X G (cd.fact 41 (f := .glo "_law_tried") rfl)
  have bT := FT.binds (ps := ["_law_act"]) fun _ _ _ _ _ _ us hl => match us, hl with | [_], _ => rfl
  obtain ⟨fdIs, FIs0⟩ := cd.def_ 14 (d := dOf ("_law_is", none) "_law_is" "_law_is" sIs [] []) rfl
  have FIs : Fun K "_law_is" "_law_is" sIs (He.ga K "_law_is") fdIs := funOf FIs0
  have gIs : mg "_law_is" = some (.ref (He.ga K "_law_is")) := He.glo_ok X G (cd.fact 42 (f := .glo "_law_is") rfl)
  have bIs := FIs.binds (ps := ["_law_act", "_law_due"]) fun _ _ _ _ _ _ us hl => match us, hl with | [_, _], _ => rfl
  obtain ⟨fdTF, FTF0⟩ := cd.def_ 15 (d := dOf ("_law_two_full", none) "_law_two_full" "_law_two_full" sTF [] []) rfl
  have FTF : Fun K "_law_two_full" "_law_two_full" sTF (He.ga K "_law_two_full") fdTF := funOf FTF0
  have gTF : mg "_law_two_full" = some (.ref (He.ga K "_law_two_full")) := He.glo_ok X G (cd.fact 43 (f := .glo "_law_two_full") rfl)
  have bTF := FTF.binds (ps := ["_law_bag_here"]) fun _ _ _ _ _ _ us hl => match us, hl with | [_], _ => rfl
  obtain ⟨fdLG, FLG0⟩ := cd.def_ 16 (d := dOf ("_law_long_reset", none) "_law_long_reset" "_law_long_reset" sLG [] []) rfl
  have FLG : Fun K "_law_long_reset" "_law_long_reset" sLG (He.ga K "_law_long_reset") fdLG := funOf FLG0
  have gLG : mg "_law_long_reset" = some (.ref (He.ga K "_law_long_reset")) := He.glo_ok X G (cd.fact 44 (f := .glo "_law_long_reset") rfl)
  have bLG := FLG.binds (ps := ["_law_bag_here"]) fun _ _ _ _ _ _ us hl => match us, hl with | [_], _ => rfl
  obtain ⟨fdlr, Flr0⟩ := cd.def_ 17 (d := dOf ("least_row", none) "least_row" "least_row" sLR [] []) rfl
  have Flr : Fun K "least_row" "least_row" sLR (He.ga K "least_row") fdlr := funOf Flr0
  have glr : mg "least_row" = some (.ref (He.ga K "least_row")) := He.glo_ok X G (cd.fact 45 (f := .glo "least_row") rfl)
  have blr := Flr.binds (ps := ["lead", "turn"]) fun _ _ _ _ _ _ us hl => match us, hl with | [_, _], _ => rfl
  obtain ⟨fdsr, Fsr0⟩ := cd.def_ 18 (d := dOf ("shortest_round", none) "shortest_round" "shortest_round" sShort [] []) rfl
  have Fsr : Fun K "shortest_round" "shortest_round" sShort (He.ga K "shortest_round") fdsr := funOf Fsr0
  have gsr : mg "shortest_round" = some (.ref (He.ga K "shortest_round")) := He.glo_ok X G (cd.fact 46 (f := .glo "shortest_round") rfl)
  have bsr := Fsr.binds (ps := ["turn"]) fun _ _ _ _ _ _ us hl => match us, hl with | [_], _ => rfl
  obtain ⟨fdrp, Frp0⟩ := cd.def_ 19 (d := dOf ("repeats", none) "repeats" "repeats" sReps [] []) rfl
  have Frp : Fun K "repeats" "repeats" sReps (He.ga K "repeats") fdrp := funOf Frp0
  have grp : mg "repeats" = some (.ref (He.ga K "repeats")) := He.glo_ok X G (cd.fact 47 (f := .glo "repeats") rfl)
  have brp := Frp.binds (ps := ["turn", "size"]) fun _ _ _ _ _ _ us hl => match us, hl with | [_, _], _ => rfl
  obtain ⟨fdsn, Fsn0⟩ := cd.def_ 20 (d := dOf ("spare_notes", none) "spare_notes" "spare_notes" sSpare [] []) rfl
  have Fsn : Fun K "spare_notes" "spare_notes" sSpare (He.ga K "spare_notes") fdsn := funOf Fsn0
  have gsn : mg "spare_notes" = some (.ref (He.ga K "spare_notes")) := He.glo_ok X G (cd.fact 48 (f := .glo "spare_notes") rfl)
  have bsn := Fsn.binds (ps := ["lead", "turn"]) fun _ _ _ _ _ _ us hl => match us, hl with | [_, _], _ => rfl
  obtain ⟨fdan, Fan0⟩ := cd.def_ 21 (d := dOf ("are_notes", none) "are_notes" "are_notes" sAn [] []) rfl
  have Fan : Fun K "are_notes" "are_notes" sAn (He.ga K "are_notes") fdan := funOf Fan0
  have gan : mg "are_notes" = some (.ref (He.ga K "are_notes")) := He.glo_ok X G (cd.fact 49 (f := .glo "are_notes") rfl)
  have ban := Fan.binds (ps := ["book", "pad", "notes"]) fun _ _ _ _ _ _ us hl => match us, hl with | [_, _, _], _ => rfl
  obtain ⟨fdcr, Fcr0⟩ := cd.def_ 22 (d := dOf ("check_row", none) "check_row" "check_row" sCr [] []) rfl
  have Fcr : Fun K "check_row" "check_row" sCr (He.ga K "check_row") fdcr := funOf Fcr0
  have gcr : mg "check_row" = some (.ref (He.ga K "check_row")) := He.glo_ok X G (cd.fact 50 (f := .glo "check_row") rfl)
  have bcr := Fcr.binds (ps := ["book", "pad", "lead", "turn"]) fun _ _ _ _ _ _ us hl => match us, hl with | [_, _, _, _], _ => rfl
  obtain ⟨fdls, Fls0⟩ := cd.def_ 23 (d := dOf ("least_rows", none) "least_rows" "least_rows" sLrs [] []) rfl
  have Fls : Fun K "least_rows" "least_rows" sLrs (He.ga K "least_rows") fdls := funOf Fls0
  have gls : mg "least_rows" = some (.ref (He.ga K "least_rows")) := He.glo_ok X G (cd.fact 51 (f := .glo "least_rows") rfl)
  have bls := Fls.binds (ps := ["book", "rows"]) fun _ _ _ _ _ _ us hl => match us, hl with | [_, _], _ => rfl
  obtain ⟨fdcp, Fcp0⟩ := cd.def_ 24 (d := dOf ("check_pad", none) "check_pad" "check_pad" sCpd [] []) rfl
  have Fcp : Fun K "check_pad" "check_pad" sCpd (He.ga K "check_pad") fdcp := funOf Fcp0
  have gcp : mg "check_pad" = some (.ref (He.ga K "check_pad")) := He.glo_ok X G (cd.fact 52 (f := .glo "check_pad") rfl)
  have bcp := Fcp.binds (ps := ["book", "pad"]) fun _ _ _ _ _ _ us hl => match us, hl with | [_, _], _ => rfl
  obtain ⟨fdwr, Fwr0⟩ := cd.def_ 25 (d := dOf ("with_row", none) "with_row" "with_row" sWr [] []) rfl
  have Fwr : Fun K "with_row" "with_row" sWr (He.ga K "with_row") fdwr := funOf Fwr0
  have gwr : mg "with_row" = some (.ref (He.ga K "with_row")) := He.glo_ok X G (cd.fact 53 (f := .glo "with_row") rfl)
  have bwr := Fwr.binds (ps := ["rows", "pad", "row"]) fun _ _ _ _ _ _ us hl => match us, hl with | [_, _, _], _ => rfl
  obtain ⟨fdtp, Ftp0⟩ := cd.def_ 26 (d := dOf ("topped", none) "topped" "topped" sTpd [] []) rfl
  have Ftp : Fun K "topped" "topped" sTpd (He.ga K "topped") fdtp := funOf Ftp0
  have gtp : mg "topped" = some (.ref (He.ga K "topped")) := He.glo_ok X G (cd.fact 54 (f := .glo "topped") rfl)
  have btp := Ftp.binds (ps := ["rows", "pad", "notes"]) fun _ _ _ _ _ _ us hl => match us, hl with | [_, _, _], _ => rfl
  obtain ⟨fdrs, Frs0⟩ := cd.def_ 27 (d := dOf ("reset", none) "reset" "reset" sRst [] []) rfl
  have Frs : Fun K "reset" "reset" sRst (He.ga K "reset") fdrs := funOf Frs0
  have grs : mg "reset" = some (.ref (He.ga K "reset")) := He.glo_ok X G (cd.fact 55 (f := .glo "reset") rfl)
  have brs := Frs.binds (ps := ["book", "rows", "pad", "lead", "turn"]) fun _ _ _ _ _ _ us hl => match us, hl with | [_, _, _, _, _], _ => rfl
  obtain ⟨fdit, Fit0⟩ := cd.def_ 28 (d := dOf ("is_taken", none) "is_taken" "is_taken" sIst [] []) rfl
  have Fit : Fun K "is_taken" "is_taken" sIst (He.ga K "is_taken") fdit := funOf Fit0
  have git : mg "is_taken" = some (.ref (He.ga K "is_taken")) := He.glo_ok X G (cd.fact 56 (f := .glo "is_taken") rfl)
  have bit := Fit.binds (ps := ["book", "triple", "notes"]) fun _ _ _ _ _ _ us hl => match us, hl with | [_, _, _], _ => rfl
  obtain ⟨fdln, Fln0⟩ := cd.def_ 29 (d := dOf ("lay_notes", none) "lay_notes" "lay_notes" sLyn [] []) rfl
  have Fln : Fun K "lay_notes" "lay_notes" sLyn (He.ga K "lay_notes") fdln := funOf Fln0
  have gln : mg "lay_notes" = some (.ref (He.ga K "lay_notes")) := He.glo_ok X G (cd.fact 57 (f := .glo "lay_notes") rfl)
  have bln := Fln.binds (ps := ["book", "rows", "figure", "notes"]) fun _ _ _ _ _ _ us hl => match us, hl with | [_, _, _, _], _ => rfl
  obtain ⟨fdly, Fly0⟩ := cd.def_ 30 (d := dOf ("lay", none) "lay" "lay" sLay [] []) rfl
  have Fly : Fun K "lay" "lay" sLay (He.ga K "lay") fdly := funOf Fly0
  have gly : mg "lay" = some (.ref (He.ga K "lay")) := He.glo_ok X G (cd.fact 58 (f := .glo "lay") rfl)
  have bly := Fly.binds (ps := ["book", "rows", "figure", "beneath"]) fun _ _ _ _ _ _ us hl => match us, hl with | [_, _, _, _], _ => rfl
  obtain ⟨fdrd, Frd0⟩ := cd.def_ 31 (d := dOf ("rows_behind_deed", none) "rows_behind_deed" "rows_behind_deed" sRbd [] []) rfl
  have Frd : Fun K "rows_behind_deed" "rows_behind_deed" sRbd (He.ga K "rows_behind_deed") fdrd := funOf Frd0
  have grd : mg "rows_behind_deed" = some (.ref (He.ga K "rows_behind_deed")) := He.glo_ok X G (cd.fact 59 (f := .glo "rows_behind_deed") rfl)
  have brd := Frd.binds (ps := ["book", "rows", "deed", "most"]) fun _ _ _ _ _ _ us hl => match us, hl with | [_, _, _, _], _ => rfl
  obtain ⟨fdkd, Fkd0⟩ := cd.def_ 32 (d := dOf ("kept_behind_deed", none) "kept_behind_deed" "kept_behind_deed" sKbd [] []) rfl
  have Fkd : Fun K "kept_behind_deed" "kept_behind_deed" sKbd (He.ga K "kept_behind_deed") fdkd := funOf Fkd0
  have gkd : mg "kept_behind_deed" = some (.ref (He.ga K "kept_behind_deed")) := He.glo_ok X G (cd.fact 60 (f := .glo "kept_behind_deed") rfl)
  have bkd := Fkd.binds (ps := ["heap", "deed"]) fun _ _ _ _ _ _ us hl => match us, hl with | [_, _], _ => rfl
  obtain ⟨fdW, FW0⟩ := cd.def_ 33 (d := dOf ("law", none) "law" "law" sLaw [] []) rfl
  have FW : Fun K "law" "law" sLaw (He.ga K "law") fdW := funOf FW0
  have gW : mg "law" = some (.ref (He.ga K "law")) := He.glo_ok X G (cd.fact 61 (f := .glo "law") rfl)
  obtain ⟨fdb_TearError, Fb_TearError⟩ := cd.def_ 34 (d := dOf ("TearError", some "__init__") "__init__" "TearError.__init__" sI_TearError [.str "TearError"] []) rfl
  have mb_TearError : mg "TearError" = some (.ref (He.ga K "TearError")) := He.glo_ok X G (cd.fact 62 (f := .glo "TearError") rfl)
  obtain ⟨fdx_BadColours, Fx_BadColours⟩ := cd.def_ 35 (d := dOf ("BadColours", some "__init__") "__init__" "BadColours.__init__" sI_BadColours [] []) rfl
  have mx_BadColours : mg "BadColours" = some (.ref (He.ga K "BadColours")) := He.glo_ok X G (cd.fact 63 (f := .glo "BadColours") rfl)
  have R_BadColours : ∀ (base : Heap) (j : Nat), 2 ≤ j → ExcK l.prog w K mg base j "BadColours" (He.ga K "BadColours") 1 (fun ws => [("at", ws.getD 0 .non), ("word", .str "BadColours")]) := fun base j hj => exk_BadColours (leafV x1) (funOf Fx_BadColours) Fb_TearError mx_BadColours mb_TearError hj
  obtain ⟨fdx_Meeting, Fx_Meeting⟩ := cd.def_ 36 (d := dOf ("Meeting", some "__init__") "__init__" "Meeting.__init__" sI_Meeting [] []) rfl
  have mx_Meeting : mg "Meeting" = some (.ref (He.ga K "Meeting")) := He.glo_ok X G (cd.fact 64 (f := .glo "Meeting") rfl)
  have R_Meeting : ∀ (base : Heap) (j : Nat), 2 ≤ j → ExcK l.prog w K mg base j "Meeting" (He.ga K "Meeting") 2 (fun ws => [("other", ws.getD 1 .non), ("one", ws.getD 0 .non), ("word", .str "Meeting")]) := fun base j hj => exk_Meeting (leafV x2) (funOf Fx_Meeting) Fb_TearError mx_Meeting mb_TearError hj
  obtain ⟨fdx_TooMany, Fx_TooMany⟩ := cd.def_ 37 (d := dOf ("TooMany", some "__init__") "__init__" "TooMany.__init__" sI_TooMany [] []) rfl
  have mx_TooMany : mg "TooMany" = some (.ref (He.ga K "TooMany")) := He.glo_ok X G (cd.fact 65 (f := .glo "TooMany") rfl)
  have R_TooMany : ∀ (base : Heap) (j : Nat), 2 ≤ j → ExcK l.prog w K mg base j "TooMany" (He.ga K "TooMany") 1 (fun ws => [("most", ws.getD 0 .non), ("word", .str "TooMany")]) := fun base j hj => exk_TooMany (leafV x3) (funOf Fx_TooMany) Fb_TearError mx_TooMany mb_TearError hj
  obtain ⟨fdx_BadRow, Fx_BadRow⟩ := cd.def_ 38 (d := dOf ("BadRow", some "__init__") "__init__" "BadRow.__init__" sI_BadRow [] []) rfl
  have mx_BadRow : mg "BadRow" = some (.ref (He.ga K "BadRow")) := He.glo_ok X G (cd.fact 66 (f := .glo "BadRow") rfl)
  have R_BadRow : ∀ (base : Heap) (j : Nat), 2 ≤ j → ExcK l.prog w K mg base j "BadRow" (He.ga K "BadRow") 1 (fun ws => [("at", ws.getD 0 .non), ("word", .str "BadRow")]) := fun base j hj => exk_BadRow (leafV x4) (funOf Fx_BadRow) Fb_TearError mx_BadRow mb_TearError hj
  obtain ⟨fdx_BadBeneath, Fx_BadBeneath⟩ := cd.def_ 39 (d := dOf ("BadBeneath", some "__init__") "__init__" "BadBeneath.__init__" sI_BadBeneath [] []) rfl
  have mx_BadBeneath : mg "BadBeneath" = some (.ref (He.ga K "BadBeneath")) := He.glo_ok X G (cd.fact 67 (f := .glo "BadBeneath") rfl)
  have R_BadBeneath : ∀ (base : Heap) (j : Nat), 2 ≤ j → ExcK l.prog w K mg base j "BadBeneath" (He.ga K "BadBeneath") 0 (fun ws => [("word", .str "BadBeneath")]) := fun base j hj => exk_BadBeneath (leafV x5) (funOf Fx_BadBeneath) Fb_TearError mx_BadBeneath mb_TearError hj
  obtain ⟨fdx_Full, Fx_Full⟩ := cd.def_ 40 (d := dOf ("Full", some "__init__") "__init__" "Full.__init__" sI_Full [] []) rfl
  have mx_Full : mg "Full" = some (.ref (He.ga K "Full")) := He.glo_ok X G (cd.fact 68 (f := .glo "Full") rfl)
  have R_Full : ∀ (base : Heap) (j : Nat), 2 ≤ j → ExcK l.prog w K mg base j "Full" (He.ga K "Full") 1 (fun ws => [("pad", ws.getD 0 .non), ("word", .str "Full")]) := fun base j hj => exk_Full (leafV x6) (funOf Fx_Full) Fb_TearError mx_Full mb_TearError hj
  obtain ⟨fdb_Missing, Fb_Missing⟩ := cd.def_ 41 (d := dOf ("Missing", some "__init__") "__init__" "Missing.__init__" sI_Missing [.str "Missing"] []) rfl
  have mb_Missing : mg "Missing" = some (.ref (He.ga K "Missing")) := He.glo_ok X G (cd.fact 69 (f := .glo "Missing") rfl)
  obtain ⟨fdx_NoPad, Fx_NoPad⟩ := cd.def_ 42 (d := dOf ("NoPad", some "__init__") "__init__" "NoPad.__init__" sI_NoPad [] []) rfl
  have mx_NoPad : mg "NoPad" = some (.ref (He.ga K "NoPad")) := He.glo_ok X G (cd.fact 70 (f := .glo "NoPad") rfl)
  have R_NoPad : ∀ (base : Heap) (j : Nat), 2 ≤ j → ExcK l.prog w K mg base j "NoPad" (He.ga K "NoPad") 1 (fun ws => [("pad", ws.getD 0 .non), ("word", .str "NoPad")]) := fun base j hj => exk_NoPad (leafL x7) (funOf Fx_NoPad) Fb_Missing mx_NoPad mb_Missing hj
  obtain ⟨fdx_NoFigure, Fx_NoFigure⟩ := cd.def_ 43 (d := dOf ("NoFigure", some "__init__") "__init__" "NoFigure.__init__" sI_NoFigure [] []) rfl
  have mx_NoFigure : mg "NoFigure" = some (.ref (He.ga K "NoFigure")) := He.glo_ok X G (cd.fact 71 (f := .glo "NoFigure") rfl)
  have R_NoFigure : ∀ (base : Heap) (j : Nat), 2 ≤ j → ExcK l.prog w K mg base j "NoFigure" (He.ga K "NoFigure") 1 (fun ws => [("figure", ws.getD 0 .non), ("word", .str "NoFigure")]) := fun base j hj => exk_NoFigure (leafL x8) (funOf Fx_NoFigure) Fb_Missing mx_NoFigure mb_Missing hj
  have g_Bk : mg "Book" = some (.ref (He.ga K "Book")) := He.glo_ok X G (cd.fact 72 (f := .glo "Book") rfl)
  have cl_Bk : Cls K (He.ga K "Book") := He.cls_ok (cd.fact 73 (f := .cls "Book") rfl)
  have nBk_palette : NoAttr K (He.ga K "Book") "palette" := He.noat_ok (cd.fact 74 (f := .noat "Book" "palette") rfl)
  have nBk_shapes : NoAttr K (He.ga K "Book") "shapes" := He.noat_ok (cd.fact 75 (f := .noat "Book" "shapes") rfl)
  have mk_Bk : Mk K (He.ga K "Book") (He.ma K (He.ga K "Book") "__init__") := He.mkr_ok (cd.fact 76 (f := .mkr "Book") rfl)
  obtain ⟨fdIn, FIn0⟩ := cd.def_ 44 (d := dOf ("Book", some "__init__") "__init__" "Book.__init__" sInit [] [("figures", .adr emptyT)]) rfl
  have mIn : Meth K (He.ga K "Book") "__init__" (He.ma K (He.ga K "Book") "__init__") := He.meth_ok (cd.fact 77 (f := .meth "Book" "__init__") rfl)
  obtain ⟨fdbPd, FbPd0⟩ := cd.def_ 45 (d := dOf ("Book", some "pads") "pads" "Book.pads" sPadsM [] []) rfl
  have FbPd : Fun K "pads" "Book.pads" sPadsM (He.ma K (He.ga K "Book") "pads") fdbPd := funOf FbPd0
  have bbPd := FbPd.binds (ps := ["self"]) fun _ _ _ _ _ _ us hl => match us, hl with | [_], _ => rfl
  have mbPd : Meth K (He.ga K "Book") "pads" (He.ma K (He.ga K "Book") "pads") := He.meth_ok (cd.fact 78 (f := .meth "Book" "pads") rfl)
  obtain ⟨fdbSh, FbSh0⟩ := cd.def_ 46 (d := dOf ("Book", some "shape") "shape" "Book.shape" sShpX [] []) rfl
  have FbSh : Fun K "shape" "Book.shape" sShpX (He.ma K (He.ga K "Book") "shape") fdbSh := funOf FbSh0
  have bbSh := FbSh.binds (ps := ["self", "at"]) fun _ _ _ _ _ _ us hl => match us, hl with | [_, _], _ => rfl
  have mbSh : Meth K (He.ga K "Book") "shape" (He.ma K (He.ga K "Book") "shape") := He.meth_ok (cd.fact 79 (f := .meth "Book" "shape") rfl)
  obtain ⟨fdbC, FbC0⟩ := cd.def_ 47 (d := dOf ("Book", some "colours") "colours" "Book.colours" sCols [] []) rfl
  have FbC : Fun K "colours" "Book.colours" sCols (He.ma K (He.ga K "Book") "colours") fdbC := funOf FbC0
  have bbC := FbC.binds (ps := ["self"]) fun _ _ _ _ _ _ us hl => match us, hl with | [_], _ => rfl
  have mbC : Meth K (He.ga K "Book") "colours" (He.ma K (He.ga K "Book") "colours") := He.meth_ok (cd.fact 80 (f := .meth "Book" "colours") rfl)
  have g_Hp : mg "Heap" = some (.ref (He.ga K "Heap")) := He.glo_ok X G (cd.fact 81 (f := .glo "Heap") rfl)
  have cl_Hp : Cls K (He.ga K "Heap") := He.cls_ok (cd.fact 82 (f := .cls "Heap") rfl)
  have nHp_owner : NoAttr K (He.ga K "Heap") "owner" := He.noat_ok (cd.fact 83 (f := .noat "Heap" "owner") rfl)
  have nHp_tiers : NoAttr K (He.ga K "Heap") "tiers" := He.noat_ok (cd.fact 84 (f := .noat "Heap" "tiers") rfl)
  have mk_Hp : Mk K (He.ga K "Heap") (He.ma K (He.ga K "Heap") "__init__") := He.mkr_ok (cd.fact 85 (f := .mkr "Heap") rfl)
  obtain ⟨fdhIn, FhIn0⟩ := cd.def_ 48 (d := dOf ("Heap", some "__init__") "__init__" "Heap.__init__" sHInit [.adr emptyH] []) rfl
  have mhIn : Meth K (He.ga K "Heap") "__init__" (He.ma K (He.ga K "Heap") "__init__") := He.meth_ok (cd.fact 86 (f := .meth "Heap" "__init__") rfl)
  obtain ⟨fdhBk, FhBk0⟩ := cd.def_ 49 (d := dOf ("Heap", some "book") "book" "Heap.book" sHBook [] []) rfl
  have FhBk : Fun K "book" "Heap.book" sHBook (He.ma K (He.ga K "Heap") "book") fdhBk := funOf FhBk0
  have bhBk := FhBk.binds (ps := ["self"]) fun _ _ _ _ _ _ us hl => match us, hl with | [_], _ => rfl
  have mhBk : Meth K (He.ga K "Heap") "book" (He.ma K (He.ga K "Heap") "book") := He.meth_ok (cd.fact 87 (f := .meth "Heap" "book") rfl)
  have g_Wk : mg "Walks" = some (.ref (He.ga K "Walks")) := He.glo_ok X G (cd.fact 88 (f := .glo "Walks") rfl)
  have cl_Wk : Cls K (He.ga K "Walks") := He.cls_ok (cd.fact 89 (f := .cls "Walks") rfl)
  have nWk_owner : NoAttr K (He.ga K "Walks") "owner" := He.noat_ok (cd.fact 90 (f := .noat "Walks" "owner") rfl)
  have nWk_ground : NoAttr K (He.ga K "Walks") "ground" := He.noat_ok (cd.fact 91 (f := .noat "Walks" "ground") rfl)
  have nWk_gone : NoAttr K (He.ga K "Walks") "gone" := He.noat_ok (cd.fact 92 (f := .noat "Walks" "gone") rfl)
  have mk_Wk : Mk K (He.ga K "Walks") (He.ma K (He.ga K "Walks") "__init__") := He.mkr_ok (cd.fact 93 (f := .mkr "Walks") rfl)
  obtain ⟨fdwIn, FwIn0⟩ := cd.def_ 50 (d := dOf ("Walks", some "__init__") "__init__" "Walks.__init__" sWInit [] []) rfl
  have FwIn : Fun K "__init__" "Walks.__init__" sWInit (He.ma K (He.ga K "Walks") "__init__") fdwIn := funOf FwIn0
  have bwIn := FwIn.binds (ps := ["self", "book", "rows"]) fun _ _ _ _ _ _ us hl => match us, hl with | [_, _, _], _ => rfl
  have mwIn : Meth K (He.ga K "Walks") "__init__" (He.ma K (He.ga K "Walks") "__init__") := He.meth_ok (cd.fact 94 (f := .meth "Walks" "__init__") rfl)
  have g_Bo : mg "Board" = some (.ref (He.ga K "Board")) := He.glo_ok X G (cd.fact 95 (f := .glo "Board") rfl)
  have cl_Bo : Cls K (He.ga K "Board") := He.cls_ok (cd.fact 96 (f := .cls "Board") rfl)
  have nBo_owner : NoAttr K (He.ga K "Board") "owner" := He.noat_ok (cd.fact 97 (f := .noat "Board" "owner") rfl)
  have nBo_past : NoAttr K (He.ga K "Board") "past" := He.noat_ok (cd.fact 98 (f := .noat "Board" "past") rfl)
  have nBo_future : NoAttr K (He.ga K "Board") "future" := He.noat_ok (cd.fact 99 (f := .noat "Board" "future") rfl)
  have nBo_many_found : NoAttr K (He.ga K "Board") "many_found" := He.noat_ok (cd.fact 100 (f := .noat "Board" "many_found") rfl)
  have nBo_piles : NoAttr K (He.ga K "Board") "piles" := He.noat_ok (cd.fact 101 (f := .noat "Board" "piles") rfl)
  have nBo_beginning : NoAttr K (He.ga K "Board") "beginning" := He.noat_ok (cd.fact 102 (f := .noat "Board" "beginning") rfl)
  have nBo_is_whole : NoAttr K (He.ga K "Board") "is_whole" := He.noat_ok (cd.fact 103 (f := .noat "Board" "is_whole") rfl)
  have nBo_walks : NoAttr K (He.ga K "Board") "walks" := He.noat_ok (cd.fact 104 (f := .noat "Board" "walks") rfl)
  have mk_Bo : Mk K (He.ga K "Board") (He.ma K (He.ga K "Board") "__init__") := He.mkr_ok (cd.fact 105 (f := .mkr "Board") rfl)
  obtain ⟨fdoIn, FoIn0⟩ := cd.def_ 51 (d := dOf ("Board", some "__init__") "__init__" "Board.__init__" sBoIn [] [("rows", .non)]) rfl
  have moIn : Meth K (He.ga K "Board") "__init__" (He.ma K (He.ga K "Board") "__init__") := He.meth_ok (cd.fact 106 (f := .meth "Board" "__init__") rfl)
  obtain ⟨fdoSt, FoSt0⟩ := cd.def_ 52 (d := dOf ("Board", some "stand") "stand" "Board.stand" sBoSt [] []) rfl
  have FoSt : Fun K "stand" "Board.stand" sBoSt (He.ma K (He.ga K "Board") "stand") fdoSt := funOf FoSt0
  have boSt := FoSt.binds (ps := ["self", "piles", "beginning", "is_whole"]) fun _ _ _ _ _ _ us hl => match us, hl with | [_, _, _, _], _ => rfl
  have moSt : Meth K (He.ga K "Board") "stand" (He.ma K (He.ga K "Board") "stand") := He.meth_ok (cd.fact 107 (f := .meth "Board" "stand") rfl)
  obtain ⟨fdoRw, FoRw0⟩ := cd.def_ 53 (d := dOf ("Board", some "rows") "rows" "Board.rows" sBoRw [] []) rfl
  have FoRw : Fun K "rows" "Board.rows" sBoRw (He.ma K (He.ga K "Board") "rows") fdoRw := funOf FoRw0
  have boRw := FoRw.binds (ps := ["self"]) fun _ _ _ _ _ _ us hl => match us, hl with | [_], _ => rfl
  have moRw : Meth K (He.ga K "Board") "rows" (He.ma K (He.ga K "Board") "rows") := He.meth_ok (cd.fact 108 (f := .meth "Board" "rows") rfl)
  obtain ⟨fdoLy, FoLy0⟩ := cd.def_ 54 (d := dOf ("Board", some "lay") "lay" "Board.lay" sBLy [] [("beneath", .non)]) rfl
  have moLy : Meth K (He.ga K "Board") "lay" (He.ma K (He.ga K "Board") "lay") := He.meth_ok (cd.fact 109 (f := .meth "Board" "lay") rfl)
  obtain ⟨fdoDo, FoDo0⟩ := cd.def_ 55 (d := dOf ("Board", some "do") "do" "Board.do" sDo [] []) rfl
  have FoDo : Fun K "do" "Board.do" sDo (He.ma K (He.ga K "Board") "do") fdoDo := funOf FoDo0
  have boDo := FoDo.binds (ps := ["self", "deed"]) fun _ _ _ _ _ _ us hl => match us, hl with | [_, _], _ => rfl
  have moDo : Meth K (He.ga K "Board") "do" (He.ma K (He.ga K "Board") "do") := He.meth_ok (cd.fact 110 (f := .meth "Board" "do") rfl)
  obtain ⟨fdoAl, FoAl0⟩ := cd.def_ 56 (d := dOf ("Board", some "all_of") "all_of" "Board.all_of" sAll [] []) rfl
  have FoAl : Fun K "all_of" "Board.all_of" sAll (He.ma K (He.ga K "Board") "all_of") fdoAl := funOf FoAl0
  have boAl := FoAl.binds (ps := ["self", "deeds"]) fun _ _ _ _ _ _ us hl => match us, hl with | [_, _], _ => rfl
  have moAl : Meth K (He.ga K "Board") "all_of" (He.ma K (He.ga K "Board") "all_of") := He.meth_ok (cd.fact 111 (f := .meth "Board" "all_of") rfl)
  obtain ⟨fdoSp, FoSp0⟩ := cd.def_ 57 (d := dOf ("Board", some "step") "step" "Board.step" sStp [] []) rfl
  have FoSp : Fun K "step" "Board.step" sStp (He.ma K (He.ga K "Board") "step") fdoSp := funOf FoSp0
  have boSp := FoSp.binds (ps := ["self", "piles", "beginning", "is_whole"]) fun _ _ _ _ _ _ us hl => match us, hl with | [_, _, _, _], _ => rfl
  have moSp : Meth K (He.ga K "Board") "step" (He.ma K (He.ga K "Board") "step") := He.meth_ok (cd.fact 112 (f := .meth "Board" "step") rfl)
  obtain ⟨fdoHi, FoHi0⟩ := cd.def_ 58 (d := dOf ("Board", some "height") "height" "Board.height" sHei [] []) rfl
  have FoHi : Fun K "height" "Board.height" sHei (He.ma K (He.ga K "Board") "height") fdoHi := funOf FoHi0
  have boHi := FoHi.binds (ps := ["self", "pad"]) fun _ _ _ _ _ _ us hl => match us, hl with | [_, _], _ => rfl
  have moHi : Meth K (He.ga K "Board") "height" (He.ma K (He.ga K "Board") "height") := He.meth_ok (cd.fact 113 (f := .meth "Board" "height") rfl)
  have m_len : mg "len" = none := He.free_ok X G (cd.fact 114 (f := .free "len") rfl)
  have m_list : mg "list" = none := He.free_ok X G (cd.fact 115 (f := .free "list") rfl)
  have m_tuple : mg "tuple" = none := He.free_ok X G (cd.fact 116 (f := .free "tuple") rfl)
  have m_range : mg "range" = none := He.free_ok X G (cd.fact 117 (f := .free "range") rfl)
  have m_isinstance : mg "isinstance" = none := He.free_ok X G (cd.fact 118 (f := .free "isinstance") rfl)
  have m_all : mg "all" = none := He.free_ok X G (cd.fact 119 (f := .free "all") rfl)
  have m_any : mg "any" = none := He.free_ok X G (cd.fact 120 (f := .free "any") rfl)
  have m_bool : mg "bool" = none := He.free_ok X G (cd.fact 121 (f := .free "bool") rfl)
  have m_int : mg "int" = none := He.free_ok X G (cd.fact 122 (f := .free "int") rfl)
  have m_str : mg "str" = none := He.free_ok X G (cd.fact 123 (f := .free "str") rfl)
  have m_dict : mg "dict" = none := He.free_ok X G (cd.fact 124 (f := .free "dict") rfl)
  have m_enumerate : mg "enumerate" = none := He.free_ok X G (cd.fact 125 (f := .free "enumerate") rfl)
  have m_zip : mg "zip" = none := He.free_ok X G (cd.fact 126 (f := .free "zip") rfl)
  have m_max : mg "max" = none := He.free_ok X G (cd.fact 127 (f := .free "max") rfl)
  have m_min : mg "min" = none := He.free_ok X G (cd.fact 128 (f := .free "min") rfl)
  have m_sorted : mg "sorted" = none := He.free_ok X G (cd.fact 129 (f := .free "sorted") rfl)
  have m_sum : mg "sum" = none := He.free_ok X G (cd.fact 130 (f := .free "sum") rfl)
  obtain ⟨tk7, w_7⟩ := He.int_ok X G (cd.fact 131 (f := .int "MOST_WALKED" 20000) rfl)
  obtain ⟨tk1, w_1⟩ := He.int_ok X G (cd.fact 132 (f := .int "MOST_PADS" 6) rfl)
  obtain ⟨tk2, w_2⟩ := He.int_ok X G (cd.fact 133 (f := .int "MOST_COLOURS" 4) rfl)
  obtain ⟨tk3, w_3⟩ := He.int_ok X G (cd.fact 134 (f := .int "MOST_FIGURES" 12) rfl)
  obtain ⟨tk4, w_4⟩ := He.int_ok X G (cd.fact 135 (f := .int "MOST_DEPTH" 3) rfl)
  obtain ⟨tk5, w_5⟩ := He.int_ok X G (cd.fact 136 (f := .int "MOST_LEAD" 400) rfl)
  obtain ⟨tk6, w_6⟩ := He.int_ok X G (cd.fact 137 (f := .int "MOST_ROUND" 12) rfl)
  have v_KINDS : mg "KINDS" = some (.ref (He.ga K "KINDS")) := He.glo_ok X G (cd.fact 138 (f := .glo "KINDS") rfl)
  have v_ACTIONS : mg "ACTIONS" = some (.ref (He.ga K "ACTIONS")) := He.glo_ok X G (cd.fact 139 (f := .glo "ACTIONS") rfl)
  obtain ⟨es_ACTIONS, n_ACTIONS, DK_ACTIONS⟩ : ∃ es n, KDict K w (He.ga K "ACTIONS") es n := c.t.tab 0
  have e := hfa.symm.trans gW
  cases e
  obtain ⟨ocW, odW, kVW, dcW, pmW, anW, cdW, ctW, slW, eW, lW, cW⟩ := FW.ex
  subst eW
  obtain ⟨cLw, rfl⟩ := He.codeIn_ref cW
  obtain ⟨oc_TF, od_TF, kV_TF, dc_TF, pm_TF, an_TF, cd_TF, ct_TF, sl_TF, e_TF, l_TF, k_TF⟩ := FTF.ex
  subst e_TF
  obtain ⟨c_TF, rfl⟩ := He.codeIn_ref k_TF
  have eC0 : He.codeOf K (("_law_two_full", none) : He.Defn) = c_TF := He.codeOf_eq (p := ("_law_two_full", none)) l_TF rfl
  have hm0 : (("_law_two_full", none) : He.Defn) ∈ hTf := List.mem_cons_self
  have hd0 := c.hd _ hm0
  have ho0 := c.out _ hm0
  have he0 := c.empty _ hm0
  have e10 : (He.cT K (("_law_two_full", none) : He.Defn)).1 = c_TF := eC0
  generalize hp0 : (He.cT K (("_law_two_full", none) : He.Defn)).2 = p_TF at hd0 ho0 he0
  rw [e10] at hd0
  obtain ⟨oc_LG, od_LG, kV_LG, dc_LG, pm_LG, an_LG, cd_LG, ct_LG, sl_LG, e_LG, l_LG, k_LG⟩ := FLG.ex
  subst e_LG
  obtain ⟨c_LG, rfl⟩ := He.codeIn_ref k_LG
  have eC1 : He.codeOf K (("_law_long_reset", none) : He.Defn) = c_LG := He.codeOf_eq (p := ("_law_long_reset", none)) l_LG rfl
  have hm1 : (("_law_long_reset", none) : He.Defn) ∈ hTf := List.mem_cons_of_mem _ (List.mem_singleton.mpr rfl)
  have hd1 := c.hd _ hm1
  have ho1 := c.out _ hm1
  have he1 := c.empty _ hm1
  have e11 : (He.cT K (("_law_long_reset", none) : He.Defn)).1 = c_LG := eC1
  generalize hp1 : (He.cT K (("_law_long_reset", none) : He.Defn)).2 = p_LG at hd1 ho1 he1
  rw [e11] at hd1
  refine ⟨PySem.W.fnOf "law" "law" (defArgs sLaw) (defBody sLaw) (defScope sLaw) .none kVW dcW pmW anW (.ref cLw) ctW, [(c_TF, p_TF), (c_LG, p_LG)], spLaw K p_TF p_LG, fun p hp => ?_, fun p hp => ?_, fun p hp => ?_, fun s u => .of_eq rfl, fun H a ns h1 h2 h3 h4 => ?_, fun base hK hN hTB => ?_⟩
  · rcases List.mem_cons.mp hp with rfl | hp
    · exact he0
    · rw [List.mem_singleton.mp hp]
      exact he1
  · rcases List.mem_cons.mp hp with rfl | hp
    · exact ho0
    · rw [List.mem_singleton.mp hp]
      exact ho1
  · rcases List.mem_cons.mp hp with rfl | hp
    · exact PySem.W.codeHd_of_K X hd0
    · rw [List.mem_singleton.mp hp]
      exact PySem.W.codeHd_of_K X hd1
  · exact ⟨a, ns, rfl, h4, h1, h3 (c_TF, p_TF) (List.mem_cons_self), h3 (c_LG, p_LG) (List.mem_cons_of_mem _ (List.mem_singleton.mpr rfl)), fun _ => rfl⟩
  have tb_TF : LamX.TabB base mg c_TF p_TF := hTB (c_TF, p_TF) (List.mem_cons_self)
  have tb_LG : LamX.TabB base mg c_LG p_LG := hTB (c_LG, p_LG) (List.mem_cons_of_mem _ (List.mem_singleton.mpr rfl))
  have FW : Fun K "law" "law" sLaw (He.ga K "law") _ := fun_mk lW cW FW.kp
  have TB : BkTxt K mg (He.ga K "Book") := ⟨cl_Bk, nBk_palette, nBk_shapes, g_Bk⟩
  have TH : HpTxt K mg (He.ga K "Heap") := ⟨cl_Hp, nHp_owner, nHp_tiers, g_Hp⟩
  have TW : WkTxt K mg (He.ga K "Walks") := ⟨cl_Wk, nWk_owner, nWk_ground, nWk_gone, g_Wk⟩
  have TO : BoTxt K mg (He.ga K "Board") := ⟨cl_Bo, nBo_owner, nBo_past, nBo_future, nBo_many_found, nBo_piles, nBo_beginning, nBo_is_whole, nBo_walks, g_Bo⟩
  have M : LkG mg := ⟨m_isinstance, m_tuple, m_list, m_len, m_all, m_range, m_bool, m_int, m_str⟩
  obtain ⟨dsJ, vJ, bJ0⟩ := FIn0.binds0 (ps := ["self", "colours", "figures"]) 2 (List.cons_ne_nil _ _) rfl (fun D doc pm an cdv ct us ks l1 l2 => match us, ks, l1, l2 with | [_, _], [_], _, _ => ⟨_, _, _, _, _, _, rfl, rfl, rfl⟩)
  obtain ⟨dsO, vO, bO0⟩ := FoIn0.binds0 (ps := ["self", "book", "rows"]) 2 (List.cons_ne_nil _ _) rfl (fun D doc pm an cdv ct us ks l1 l2 => match us, ks, l1, l2 with | [_, _], [_], _, _ => ⟨_, _, _, _, _, _, rfl, rfl, rfl⟩)
  obtain ⟨dsH, vH, bH0⟩ := FhIn0.binds1 (ps := ["self", "book", "row"]) 2 0 (List.cons_ne_nil _ _) rfl (fun T kV doc pm an cdv ct us its l1 l2 => match us, its, l1, l2 with | [_, _], [_], _, _ => ⟨_, rfl, rfl⟩)
  obtain ⟨dsL, vL, bL0⟩ := FoLy0.binds0 (ps := ["self", "figure", "beneath"]) 2 (List.cons_ne_nil _ _) rfl (fun D doc pm an cdv ct us ks l1 l2 => match us, ks, l1, l2 with | [_, _], [_], _, _ => ⟨_, _, _, _, _, _, rfl, rfl, rfl⟩)
  obtain ⟨mvI, kbI⟩ := FIn0.kbinds0 (ps := ["self", "colours", "figures"]) 2 ["figures"] [] (fun us mv ws => us ++ ws) (List.cons_ne_nil _ _) (fun q hq => by cases hq) (fun r1 r2 r3 => r1.append r3) (fun D doc pm an cdv ct us mv ws l1 l2 l3 => match us, mv, ws, l1, l2, l3 with | [_, _], [], [_], _, _, _ => rfl)
  obtain ⟨mvO, kbO⟩ := FoIn0.kbinds0 (ps := ["self", "book", "rows"]) 2 ["rows"] [] (fun us mv ws => us ++ ws) (List.cons_ne_nil _ _) (fun q hq => by cases hq) (fun r1 r2 r3 => r1.append r3) (fun D doc pm an cdv ct us mv ws l1 l2 l3 => match us, mv, ws, l1, l2, l3 with | [_, _], [], [_], _, _, _ => rfl)
  have tH := emptyB_ok x9
  have tT := emptyB_ok x10
  have Gms : FnOk l.prog w K mg base CX0 4 _ _ ["figure"] (spMaskA K) := ok_maskA (k := 3) Fms m_sum
  have Gba : FnOk l.prog w K mg base CX0 4 _ _ ["one", "other"] (spBarA K) := ok_barA (k := 3) Fba m_any
  have Gfi : FnOk l.prog w K mg base CX0 4 _ _ ["colours", "figure"] (spIsFigA K) := ok_isfigA (k := 2) Ffi m_len m_all m_zip w_4 Fti bti gti Fpo_ bpo_ gpo_
  have Gcc : FnOk l.prog w K mg base (L2.CX l.prog w) 5 _ _ ["colours"] (spCColA K (He.ga K "BadColours")) := ok_ccolA (k := 3) Fcc (R_BadColours base 3 (by decide)) m_len m_enumerate w_1 w_2
  have Gcf : FnOk l.prog w K mg base CX0 5 _ _ ["colours", "figures"] (spCFigA K) := ok_cfigA (k := 4) Fcf m_enumerate Ffi bfi gfi Gfi
  have Gcm : FnOk l.prog w K mg base (L2.CX l.prog w) 5 _ _ ["figures"] (spCMeetA K (He.ga K "Meeting")) := ok_cmeetA (k := 3) Fcm m_enumerate m_range m_len (R_Meeting base 3 (by decide)) Fms bms gms Gms Fba bba gba Gba
  have Gcy : FnOk l.prog w K mg base CX0 5 _ _ ["figure"] (spCopyFA K) := ok_copyfA (k := 4) Fcy m_tuple
  have GIn : FnOk l.prog w K mg base (L2.CX l.prog w) 6 _ _ ["self", "colours", "figures"] (spInitA K (He.ga K "Book") (fun i => (rNms.map (He.ga K)).getD i 0)) := ok_initA (k := 4) FIn0 TB m_len m_tuple w_3 (R_TooMany base 4 (by decide)) Fcc bcc gcc Gcc Fcf bcf gcf Gcf Fcm bcm gcm Gcm Fcy bcy gcy Gcy
  have Gms0 : FnOk l.prog w K mg base CX0 2 _ _ ["figure"] (spMask K) := ok_mask (k := 1) Fms m_sum
  have Gba0 : FnOk l.prog w K mg base CX0 2 _ _ ["one", "other"] (spBar K) := ok_bar (k := 1) Fba m_any
  have Gfi0 : FnOk l.prog w K mg base CX0 2 _ _ ["colours", "figure"] (spIsFig K) := ok_isfig (k := 0) Ffi m_len m_all m_zip w_4 Fti bti gti Fpo_ bpo_ gpo_
  have Gcc0 : FnOk l.prog w K mg base CX0 3 _ _ ["colours"] (spCCol K) := ok_ccol (k := 2) Fcc m_len m_enumerate w_1 w_2
  have Gcy0 : FnOk l.prog w K mg base CX0 3 _ _ ["figure"] (spCopyF K) := ok_copyf (k := 2) Fcy m_tuple
  have GInL : FnOk l.prog w K mg base CX0 4 _ _ ["self", "colours", "figures"] (spInit K (He.ga K "Book")) := ok_init (k := 3) FIn0 TB m_len m_tuple w_3 Fcc bcc gcc Gcc0 Fcf bcf gcf (ok_cfig Fcf m_enumerate Ffi bfi gfi Gfi0) Fcm bcm gcm (ok_cmeet Fcm m_enumerate m_range m_len Fms bms gms Gms0 Fba bba gba Gba0) Fcy bcy gcy Gcy0
  have Gpo (k : Nat) : FnOk l.prog w K mg base CX0 (k + 1) _ _ ["figure"] (spPads K) := ok_padsof (k := k) Fpo_
  have Gbp (k : Nat) : FnOk l.prog w K mg base CX0 (k + 1) _ _ ["self"] (spPadsM K (He.ga K "Book")) := ok_padsM (k := k) FbPd TB m_len
  have Gbc (k : Nat) : FnOk l.prog w K mg base CX0 (k + 1) _ _ ["self"] (spCols K (He.ga K "Book")) := ok_cols (k := k) FbC TB
  have Gbs : FnOk l.prog w K mg base (L2.CX l.prog w) 5 _ _ ["self", "at"] (spShpX K (He.ga K "Book") (He.ga K "NoFigure")) := ok_shpX (k := 3) FbSh TB m_len (R_NoFigure base 3 (by decide))
  have Gtr : FnOk l.prog w K mg base (L2.CX l.prog w) 6 _ _ ["book", "row"] (spTiers K (He.ga K "Book") (He.ga K "NoFigure")) := ok_tiers (k := 5) Ftr TB m_len m_max m_tuple m_sorted Fpo_ bpo_ gpo_ (Gpo 4) bbSh mbSh Gbs bbPd mbPd (Gbp 4)
  have GhI : FnOk l.prog w K mg base (L2.CX l.prog w) 7 _ _ ["self", "book", "row"] (spHInit K (He.ga K "Book") (He.ga K "Heap") (He.ga K "NoFigure")) := ok_hinit (k := 6) FhIn0 TH Ftr btr gtr Gtr
  have Gsr : FnOk l.prog w K mg base CX0 4 _ _ ["turn"] (spShort K) := ok_short (k := 2) Fsr m_len m_range m_min Frp brp grp
  have Glr : FnOk l.prog w K mg base CX0 5 _ _ ["lead", "turn"] (spLR K) := ok_LR (k := 2) Flr m_len m_tuple Fsr bsr gsr Fsn bsn gsn Gsr
  have Gan : FnOk l.prog w K mg base CX0 6 _ _ ["book", "pad", "notes"] (spAn K (He.ga K "Book")) := ok_an (k := 5) Fan m_all TB bbC mbC (Gbc 4)
  have Gcr : FnOk l.prog w K mg base (L2.CX l.prog w) 7 _ _ ["book", "pad", "lead", "turn"] (spCr K (He.ga K "Book") (He.ga K "BadRow")) := ok_cr (k := 5) Fcr m_len w_5 w_6 Fan ban gan Gan (R_BadRow base 5 (by decide))
  have Gls : FnOk l.prog w K mg base (L2.CX l.prog w) 8 _ _ ["book", "rows"] (spLrsN K (He.ga K "Book")) := ok_lrsN (k := 6) Fls m_len m_enumerate m_tuple Fcr bcr gcr Gcr Flr blr glr (Glr.mono (by decide)) TB bbPd mbPd (Gbp 6) (R_BadRow base 6 (by decide))
  have GwI : FnOk l.prog w K mg base CX0 6 _ _ ["self", "book", "rows"] (spWInit (He.ga K "Walks")) := ok_winit (k := 5) FwIn TW
  have GoS : FnOk l.prog w K mg base CX0 8 _ _ nBoSt (spBoSt (He.ga K "Board") (He.ga K "Walks")) := ok_bost (k := 6) FoSt TO TW mk_Wk GwI bwIn
  have GlsR : FnOk l.prog w K mg base (L2.CX l.prog w) 8 _ _ ["book", "rows"] (spLrs K (He.ga K "Book") (He.ga K "BadRow")) := ok_lrs (k := 6) Fls m_len m_enumerate m_tuple Fcr bcr gcr Gcr Flr blr glr (Glr.mono (by decide)) TB bbPd mbPd (Gbp 6) (R_BadRow base 6 (by decide))
  have GoI : FnOk l.prog w K mg base (L2.CX l.prog w) 9 _ _ ["self", "book", "rows"] (spBoInN K (He.ga K "Book") (He.ga K "Board") (He.ga K "Heap")) := ok_boinN (k := 7) FoIn0 TO TH Fls bls gls Gls mk_Hp (hinitC GhI) bH0 vH tH boSt moSt GoS
  have GoIR : FnOk l.prog w K mg base (L2.CX l.prog w) 9 _ _ ["self", "book", "rows"] (spBoIn K (He.ga K "Book") (He.ga K "Board") (He.ga K "Heap") (He.ga K "BadRow")) := ok_boin (k := 7) FoIn0 TO TH Fls bls gls GlsR mk_Hp (hinitC GhI) bH0 vH tH boSt moSt GoS
  have GoR : FnOk l.prog w K mg base CX0 12 _ _ ["self"] (spBoRw K (He.ga K "Book") (He.ga K "Board")) := ok_borw (k := 11) FoRw TO m_list
  have GhB : FnOk l.prog w K mg base CX0 8 _ _ ["self"] (spHBook K (He.ga K "Heap")) := ok_hbook (k := 7) FhBk TH
  have Gcp : FnOk l.prog w K mg base (L2.CX l.prog w) 7 _ _ ["book", "pad"] (spCpd K (He.ga K "Book") (He.ga K "NoPad")) := ok_cpd (k := 5) Fcp TB (R_NoPad base 5 (by decide)) bbPd mbPd (Gbp 5)
  have Gwr : FnOk l.prog w K mg base CX0 7 _ _ ["rows", "pad", "row"] (spWr K) := ok_wr (k := 6) Fwr
  have Gtp : FnOk l.prog w K mg base (L2.CX l.prog w) 7 _ _ ["rows", "pad", "notes"] (spTpd K (He.ga K "Full")) := ok_tpd (k := 5) Ftp m_len m_tuple w_5 Flr blr glr (Glr.mono (by decide)) (R_Full base 5 (by decide))
  have Grs : FnOk l.prog w K mg base (L2.CX l.prog w) 8 _ _ nRst (spRst K (He.ga K "Book") (fun i => (rNms.map (He.ga K)).getD i 0)) := ok_rst (k := 7) (cm := (fun i => (rNms.map (He.ga K)).getD i 0)) Frs Fcp bcp gcp Gcp Fcr bcr gcr Gcr Fwr bwr gwr Gwr Flr blr glr (Glr.mono (by decide))
  have Git : FnOk l.prog w K mg base CX0 7 _ _ ["book", "triple", "notes"] (spIst K (He.ga K "Book")) := ok_ist (k := 6) Fit m_len Fan ban gan Gan
  have Gln : FnOk l.prog w K mg base (L2.CX l.prog w) 8 _ _ ["book", "rows", "figure", "notes"] (spLyn K (He.ga K "Book") (fun i => (rNms.map (He.ga K)).getD i 0)) := ok_lyn (k := 6) (cm := (fun i => (rNms.map (He.ga K)).getD i 0)) Fln TB m_len m_all m_zip bbSh mbSh (Gbs.mono (by decide)) Fit bit git Git Fwr bwr gwr Gwr Ftp btp gtp Gtp (R_BadBeneath base 6 (by decide))
  have Gly : FnOk l.prog w K mg base (L2.CX l.prog w) 9 _ _ ["book", "rows", "figure", "beneath"] (spLay K (He.ga K "Book") (fun i => (rNms.map (He.ga K)).getD i 0)) := ok_lay (k := 7) (cm := (fun i => (rNms.map (He.ga K)).getD i 0)) Fly TB m_len m_zip bbSh mbSh (Gbs.mono (by decide)) Fln bln gln Gln (R_BadBeneath base 7 (by decide))
  have ACr : ActOk l.prog w K mg base 9 (He.ga K "ACTIONS") "reset" (spRst K (He.ga K "Book") (fun i => (rNms.map (He.ga K)).getD i 0)) := actOk x12 Frs.kp brs Grs (by decide)
  have ACl : ActOk l.prog w K mg base 9 (He.ga K "ACTIONS") "lay" (spLay K (He.ga K "Book") (fun i => (rNms.map (He.ga K)).getD i 0)) := actOk x13 Fly.kp bly Gly (by decide)
  have Grd : FnOk l.prog w K mg base (L2.CX l.prog w) 10 _ _ ["book", "rows", "deed", "most"] (spRbd K (ActOk l.prog w K mg base 9 (He.ga K "ACTIONS"))) := ok_rbd (k := 9) Frd m_len v_KINDS (kindsB_ok x11) v_ACTIONS DK_ACTIONS
  have Gkd0 : FnOk l.prog w K mg base CX0 9 _ _ ["heap", "deed"] (spKbd K (He.ga K "Book") (He.ga K "Heap")) := ok_kbd (k := 7) Fkd TH mk_Hp (hinitC GhI) bH0 vH tH bhBk mhBk GhB
  have Gkd : FnOk l.prog w K mg base CX0 9 _ _ ["heap", "deed"] (spKbdG K (He.ga K "Book") (He.ga K "Heap") okE) := kbdE Gkd0
  have GoSp : FnOk l.prog w K mg base CX0 9 _ _ nStp (spStp K (He.ga K "Book") (He.ga K "Board") (He.ga K "Heap")) := ok_stp (k := 8) FoSp TO boSt moSt GoS
  have GoAl : FnOk l.prog w K mg base (L2.CX l.prog w) 11 _ _ ["self", "deeds"] (spAllX K (He.ga K "Book") (He.ga K "Board") (He.ga K "Heap") (fun i => (rNms.map (He.ga K)).getD i 0) (ActOk l.prog w K mg base 9 (He.ga K "ACTIONS")) okE) := ok_allX (k := 10) (cm := (fun i => (rNms.map (He.ga K)).getD i 0)) FoAl TO m_len w_7 Frd brd grd Grd Fkd bkd gkd (Gkd.mono (by decide)) boSp moSp (GoSp.mono (by decide))
  have GoDo : FnOk l.prog w K mg base (L2.CX l.prog w) 12 _ _ ["self", "deed"] (spDoX K (He.ga K "Book") (He.ga K "Board") (He.ga K "Heap") (fun i => (rNms.map (He.ga K)).getD i 0) (ActOk l.prog w K mg base 9 (He.ga K "ACTIONS")) okE) := ok_doX (k := 11) (cm := (fun i => (rNms.map (He.ga K)).getD i 0)) FoDo TO boAl moAl GoAl
  have GoLy : FnOk l.prog w K mg base (L2.CX l.prog w) 13 _ _ ["self", "figure", "beneath"] (spBLy K (He.ga K "Book") (He.ga K "Board") (He.ga K "Heap") (fun i => (rNms.map (He.ga K)).getD i 0)) := ok_bly (k := 12) (cm := (fun i => (rNms.map (He.ga K)).getD i 0)) FoLy0 TO ACl (fun _ => ⟨(by decide), (by decide)⟩) boDo moDo GoDo
  have GoHi : FnOk l.prog w K mg base (L2.CX l.prog w) 8 _ _ ["self", "pad"] (spHei K (He.ga K "Book") (He.ga K "Board") (He.ga K "NoPad")) := ok_hei (k := 7) FoHi TO m_len Fcp bcp gcp Gcp
  have GP (k : Nat) : FnOk l.prog w K mg base CX0 (k + 1) _ _ ["_law_bag_here", "_law_size"] spPull := ok_pull (k := k) FP m_len
  have GK : FnOk l.prog w K mg base CX0 5 _ _ ["_law_one", "_law_due"] (spLike K 5) := ok_like FK bK gK M 5
  have GA := ok_two (cm := (fun i => (rNms.map (He.ga K)).getD i 0)) l_TF k_TF tb_TF TO TB FP bP gP (GP 17) FK bK gK GK FIs bIs gIs FT bT gT RT mk_Bk kbI (GInL.mono (by decide)) mk_Bo kbO ((boinC GoIR).mono (by decide)) bL0 vL moLy (GoLy.mono (by decide)) boHi moHi ((heiC GoHi).mono (by decide))
  have GL := ok_long (cm := (fun i => (rNms.map (He.ga K)).getD i 0)) l_LG k_LG tb_LG TO TB ACr (fun _ => ⟨(by decide), (by decide)⟩) FP bP gP (GP 17) FK bK gK GK FIs bIs gIs FT bT gT RT mk_Bk ((bk0 GIn).mono (by decide)) bJ0 vJ tT mk_Bo ((boNC GoI).mono (by decide)) bO0 vO boDo moDo (GoDo.mono (by decide)) boRw moRw (GoR.mono (by decide)) m_len
  have hLM : p_TF ≠ p_LG := fun z => by
    have x9 := x14
    rw [hp0, hp1, z] at x9
    simp at x9
  exact ok_law82 FW m_range hLM FB bB gB (ok_bag (k := 18) FB m_len m_list) FTF bTF gTF GA FLG bLG gLG GL
theorem map_fst {α β γ : Type} {o : Option α} {f : α → β} {g : α → γ} {x : β} {y : γ} (h : o.map (fun s => (f s, g s)) = some (x, y)) : o.map f = some x := by
  cases o with
  | none => cases h
  | some s => exact congrArg some (Prod.mk.inj (Option.some.inj h)).1
theorem map_snd {α β γ : Type} {o : Option α} {f : α → β} {g : α → γ} {x : β} {y : γ} (h : o.map (fun s => (f s, g s)) = some (x, y)) : o.map g = some y := by
  cases o with
  | none => cases h
  | some s => exact congrArg some (Prod.mk.inj (Option.some.inj h)).2
theorem hRunC1f (w : World) (os : OsState) : (HandSHeadRun.endF (HandSHeadRun.stepQ (HandSHeadRun.denQ HandSHeadRun.tabQ) hR.prog (w.withFollow "special-get-raises" false)) 20000 hR.prog (w.withFollow "special-get-raises" false) os).map (fun s => hFa1.all fun f => f.ok (hKs s)) = some true := map_fst (hRunGC1C4f w os)
theorem hRunC4f (w : World) (os : OsState) : (HandSHeadRun.endF (HandSHeadRun.stepQ (HandSHeadRun.denQ HandSHeadRun.tabQ) hR.prog (w.withFollow "special-get-raises" false)) 20000 hR.prog (w.withFollow "special-get-raises" false) os).map (fun s => hFn.map fun d => He.fnW (hKs s) d.at_) = some (hFn.map He.DefD.val) := (map_snd (hRunGC1C4f w os))
theorem hRunD1f (w : World) (os : OsState) : (HandSHeadRun.endF (HandSHeadRun.stepQ (HandSHeadRun.denQ HandSHeadRun.tabQ) hR.prog (w.withFollow "special-get-raises" false)) 20000 hR.prog (w.withFollow "special-get-raises" false) os).map (fun s => hEx1 (hKs s)) = some true := map_fst (hRunGD1D2D3f w os)
theorem hRunD2f (w : World) (os : OsState) : (HandSHeadRun.endF (HandSHeadRun.stepQ (HandSHeadRun.denQ HandSHeadRun.tabQ) hR.prog (w.withFollow "special-get-raises" false)) 20000 hR.prog (w.withFollow "special-get-raises" false) os).map (fun s => hEx2 (hKs s)) = some true := map_fst (map_snd (hRunGD1D2D3f w os))
theorem hRunD3f (w : World) (os : OsState) : (HandSHeadRun.endF (HandSHeadRun.stepQ (HandSHeadRun.denQ HandSHeadRun.tabQ) hR.prog (w.withFollow "special-get-raises" false)) 20000 hR.prog (w.withFollow "special-get-raises" false) os).map (fun s => He.tabsB (HandSHeadRun.getT s) hTf (hKs s)) = some true := (map_snd (map_snd (hRunGD1D2D3f w os)))
theorem hRunC1t (w : World) (os : OsState) : (HandSHeadRun.endF (HandSHeadRun.stepQ (HandSHeadRun.denQ HandSHeadRun.tabQ) hR.prog (w.withFollow "special-get-raises" true)) 20000 hR.prog (w.withFollow "special-get-raises" true) os).map (fun s => hFa1.all fun f => f.ok (hKs s)) = some true := map_fst (hRunGC1C4t w os)
theorem hRunC4t (w : World) (os : OsState) : (HandSHeadRun.endF (HandSHeadRun.stepQ (HandSHeadRun.denQ HandSHeadRun.tabQ) hR.prog (w.withFollow "special-get-raises" true)) 20000 hR.prog (w.withFollow "special-get-raises" true) os).map (fun s => hFn.map fun d => He.fnW (hKs s) d.at_) = some (hFn.map He.DefD.val) := (map_snd (hRunGC1C4t w os))
theorem hRunD1t (w : World) (os : OsState) : (HandSHeadRun.endF (HandSHeadRun.stepQ (HandSHeadRun.denQ HandSHeadRun.tabQ) hR.prog (w.withFollow "special-get-raises" true)) 20000 hR.prog (w.withFollow "special-get-raises" true) os).map (fun s => hEx1 (hKs s)) = some true := map_fst (hRunGD1D2D3t w os)
theorem hRunD2t (w : World) (os : OsState) : (HandSHeadRun.endF (HandSHeadRun.stepQ (HandSHeadRun.denQ HandSHeadRun.tabQ) hR.prog (w.withFollow "special-get-raises" true)) 20000 hR.prog (w.withFollow "special-get-raises" true) os).map (fun s => hEx2 (hKs s)) = some true := map_fst (map_snd (hRunGD1D2D3t w os))
theorem hRunD3t (w : World) (os : OsState) : (HandSHeadRun.endF (HandSHeadRun.stepQ (HandSHeadRun.denQ HandSHeadRun.tabQ) hR.prog (w.withFollow "special-get-raises" true)) 20000 hR.prog (w.withFollow "special-get-raises" true) os).map (fun s => He.tabsB (HandSHeadRun.getT s) hTf (hKs s)) = some true := (map_snd (map_snd (hRunGD1D2D3t w os)))
theorem map_many {β γ : Type} {o : Option PySem.W.SharedT} {f : PySem.W.SharedT → β} {g : PySem.W.SharedT → γ} {x : β} {y : γ} {w : World} (a : o.map f = some x) (b : o.map g = some y) (c1 : o.map (fun s => hFa1.all fun f => f.ok (hKs s)) = some true) (c2 : o.map (fun s => hFa2.all fun f => f.ok (hKs s)) = some true) (c3 : o.map (fun s => hFn1.all fun d => d.ok (hKs s)) = some true) (c5 : o.map (fun s => hFn2.all fun d => d.ok (hKs s)) = some true) (c4 : o.map (fun s => hFn.map fun d => He.fnW (hKs s) d.at_) = some (hFn.map He.DefD.val)) (d1 : o.map (fun s => hEx1 (hKs s)) = some true) (d2 : o.map (fun s => hEx2 (hKs s)) = some true) (d3 : o.map (fun s => He.tabsB (HandSHeadRun.getT s) hTf (hKs s)) = some true) (t1 : o.map (fun s => hTs.map fun t => He.dicW (hKs s) (t.1 (hKs s))) = some (hTs.map fun t => some (He.keysIn w.params t.2))) : o.map (fun s => (f s, g s, hOb s)) = some (x, y, He.valX hFn hTs w) := by
  cases o with
  | none => cases a
  | some s =>
    have a := Option.some.inj a
    have b := Option.some.inj b
    have c1 := Option.some.inj c1
    have c2 := Option.some.inj c2
    have c3 := Option.some.inj c3
    have c5 := Option.some.inj c5
    have c4 := Option.some.inj c4
    have d1 := Option.some.inj d1
    have d2 := Option.some.inj d2
    have d3 := Option.some.inj d3
    have t1 := Option.some.inj t1
    dsimp only at a b c1 c2 c3 c5 c4 d1 d2 d3 t1
    have e : hOb s = (((((hFa1 ++ hFa2).all fun f => f.ok (hKs s)) && (hFn1 ++ hFn2).all fun d => d.ok (hKs s), hFn.map fun d => He.fnW (hKs s) d.at_), hTs.map fun t => He.dicW (hKs s) (t.1 (hKs s))), (hEx1 (hKs s) && hEx2 (hKs s)) && He.tabsB (HandSHeadRun.getT s) hTf (hKs s)) := rfl
    show some (f s, g s, hOb s) = _
    rw [a, b, e, List.all_append, List.all_append, c1, c2, c3, c5, c4, d1, d2, d3, t1]
    rfl
theorem hRun (w : World) : HandSHeadRun.RunEq hR (PySem.W.view hR.prog [133]) hK hOb 20000 hNames w := PySem.W.byRow2 "special-get-raises" (P := fun w => HandSHeadRun.RunEq hR (PySem.W.view hR.prog [133]) hK hOb 20000 hNames w) (fun w os => map_many (hRunAf w os) (hRunBf w os) (hRunC1f w os) (hRunC2f w os) (hRunC3f w os) (hRunC5f w os) (hRunC4f w os) (hRunD1f w os) (hRunD2f w os) (hRunD3f w os) (hRunT1f w os)) (fun w os => map_many (hRunAt w os) (hRunBt w os) (hRunC1t w os) (hRunC2t w os) (hRunC3t w os) (hRunC5t w os) (hRunC4t w os) (hRunD1t w os) (hRunD2t w os) (hRunD3t w os) (hRunT1t w os)) w


end TB
open PySem PySem.W PySem.Calls PyProof.Rows
set_option maxHeartbeats 0 in
theorem PySem.Challenge.cw_tearboard_k82_two_full_pads_and_long_row_holds : PySem.Challenge.rw_tearboard_k82_two_full_pads_and_long_row.Holds := by
  w_on; o_law
  refine HandSHeadRun.head_any (r := OpenLaw.row PySem.Challenge.rw_tearboard_k82_two_full_pads_and_long_row) (q := view (OpenLaw.row PySem.Challenge.rw_tearboard_k82_two_full_pads_and_long_row).prog [133]) (H := TB.hK) (ob := TB.hOb) (M := 20000) (loose := TB.hNames) (d := HandSHeadRun.topDef (OpenLaw.row PySem.Challenge.rw_tearboard_k82_two_full_pads_and_long_row).prog 133) (kwd := []) TB.hOb_eq
    (by kernel_rfl) (fun s => by kernel_rfl) TB.hRun (by kernel_rfl) (by kernel_rfl) (by kernel_rfl) (by rfl) (by first | assumption | decide +kernel) (by decide +kernel) ⟨rfl, rfl, rfl, rfl, rfl, by decide +kernel⟩ ?hw ?hc
  case hw => w_witness2
  case hc =>
    refine LamX.walk_ofTsE (l := PySem.Challenge.rw_tearboard_k82_two_full_pads_and_long_row) (n := 63) (k := 20) (x := "_law_script") (CX := fun _ => L2.CX0) rfl (by decide) (by kernel_rfl) ⟨rfl, by decide, by decide⟩ ?F (fun _ _ _ _ _ z => z)
    intro w mg fa h Y G hmg0
    obtain ⟨K, KX, c⟩ := Y
    have hmg : mg ("law" : PySem.Str) = some (.ref fa) := by
      have e : (HandSHeadRun.topDef (OpenLaw.row PySem.Challenge.rw_tearboard_k82_two_full_pads_and_long_row).prog 133).name = ("law" : PySem.Str) := by kernel_rfl
      rw [← e]
      exact hmg0
    exact ⟨K, KX, TB.hFacts KX G hmg c⟩
