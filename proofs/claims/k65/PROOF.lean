import PyProof.Rows.All
import Wide.All
import OpenK.AllK
import Wide.FinOn
import PyProof.EqAt
import PyProof.EqKinds
import PyProof.TupleCall
import PyProof.DictUpdate
import PyProof.ListStr
import OpenK.KEqL
import KE.GoesMore
import KE.KExcIs
import KE.KStar
import KE.KCallOwn
import KE.KParD
import HandS.Base
import HandS.Call
import HandS.List
import HandS.Dict
import HandS.More
import HandS.Exc
import HandS.Slots
import HandS.Star
import HandS.MakeKw
import HandS.ForMost
import HandS.Codes
import HandS.Walk
import HandS.WordsExc
import HandS.Style
import HandS.ExcIs
import HandS.ExcInit
import HandS.ExcField
import HandS.TupAny
import HandS.IsInst
import HandS.StrMore
import HandS.Defaults
import HandS.ExcOwn
import HandS.RaiseMore
import HandS.Text
import HandS.OwnEq
import HandS.NoneIn
import HandS.ExcValue
import HandS.Zip
import HandS.FStr
import HandS.Comp
import HandS.DictComp
import HandS.Property
import HandS.CallLocal
import HandS.WrittenGet
import Lean
import HandS.Head0
import HandS.Head1
import HandS.Head2
import HandS.HeadHook1
import HandS.HeadHook2
import HandS.HeadHook3
import PyProof.StrLawsRepr
import HandS.TryOnly
import HandS.ForExc
import PyProof.DictTable
import HandS.IterVal
import HandS.Flow
import KE.SortKeyHeap
import HandS.SortKw
import KE.DataCmp
import KE.KRevSl
import HandS.HeadEnd
import PySem.Challenge.RW_laytwice_k65_whole_sorting
set_option Elab.async false
set_option linter.all false
set_option maxRecDepth 100000
set_option maxHeartbeats 8000000
/-! What the end leans on, read off the heap behind the top. It stands ahead of the proof, where memory is still free. -/
namespace Lay
end Lay
namespace LayH
open PySem PySem.Spec PyProof.Rows L2
def top (i : Nat) : Stmt := PySem.Challenge.pw_laytwice_k65_whole_sorting.main.body.getD i (.Pass ⟨0, 0, 0, 0⟩)
abbrev sAddP : Stmt := inClass (top 35) 5
abbrev sAhead : Stmt := top 61
abbrev sAreD : Stmt := top 72
abbrev sAreR : Stmt := top 73
abbrev sAreT : Stmt := top 71
abbrev sBare : Stmt := inClass (top 22) 1
abbrev sBeh : Stmt := top 45
abbrev sBits : Stmt := top 42
abbrev sBody : Stmt := top 20
abbrev sBox : Stmt := top 80
abbrev sBreak : Stmt := top 49
abbrev sBut : Stmt := inClass (top 22) 2
abbrev sCheck : Stmt := top 24
abbrev sClose : Stmt := top 56
abbrev sDeed : Stmt := top 70
abbrev sDone : Stmt := top 48
abbrev sEqP : Stmt := inClass (top 35) 6
abbrev sEqPc : Stmt := inClass (top 22) 3
abbrev sFP : Stmt := top 41
abbrev sFacts : Stmt := top 40
abbrev sFence : Stmt := top 62
abbrev sGap : Stmt := top 38
abbrev sGetP : Stmt := inClass (top 35) 3
abbrev sHead : Stmt := top 18
abbrev sHolds : Stmt := top 47
abbrev sInOrd : Stmt := top 64
abbrev sInt : Stmt := top 10
abbrev sJoin : Stmt := top 50
abbrev sKeyS : Stmt := top 63
abbrev sLFence : Stmt := top 91
abbrev sLKey : Stmt := top 92
abbrev sLMade : Stmt := top 86
abbrev sLName : Stmt := top 84
abbrev sLPiece : Stmt := top 85
abbrev sLRow : Stmt := top 88
abbrev sLSorted : Stmt := top 93
abbrev sLTest : Stmt := top 87
abbrev sLTool : Stmt := top 89
abbrev sLanes : Stmt := top 43
abbrev sLaw : Stmt := top 95
abbrev sLayP : Stmt := top 60
abbrev sLenP : Stmt := inClass (top 35) 2
abbrev sLift : Stmt := top 53
abbrev sLong : Stmt := top 46
abbrev sLower : Stmt := top 54
abbrev sMark : Stmt := top 51
abbrev sMixed : Stmt := top 83
abbrev sName : Stmt := top 13
abbrev sNames : Stmt := top 14
abbrev sNum : Stmt := top 11
abbrev sPick : Stmt := top 82
abbrev sPieceI : Stmt := inClass (top 22) 0
abbrev sProgI : Stmt := inClass (top 35) 0
abbrev sRem : Stmt := top 17
abbrev sReq : Stmt := top 16
abbrev sRow : Stmt := top 58
abbrev sRowI : Stmt := inClass (top 77) 0
abbrev sRows : Stmt := top 59
abbrev sRowsOf : Stmt := top 21
abbrev sRun : Stmt := top 65
abbrev sSeq : Stmt := top 12
abbrev sShape : Stmt := top 39
abbrev sShapeIn : Stmt := top 44
abbrev sSpace : Stmt := top 55
abbrev sStrP : Stmt := inClass (top 35) 7
abbrev sTail : Stmt := top 19
abbrev sTake : Stmt := top 81
abbrev sTest : Stmt := top 69
abbrev sToolI : Stmt := inClass (top 78) 0
abbrev sToolOf : Stmt := top 90
abbrev sTurned : Stmt := top 94
abbrev sUnmark : Stmt := top 52
def deedL : List Str := ["break", "join", "mark", "unmark", "lift", "lower", "space", "close"]
def testL : List Str := ["broken", "marked", "left", "ahead", "behind", "blank", "long", "first", "afterbroken", "afterbehind"]
/-- the objects that are followed: a long table's items are not -/
def refsS (o : Obj) : List Addr := match o.data with
  | .seq its _ => (match Nat.ble its.size 40 with
    | true => He.refsO o
    | false => [])
  | _ => He.refsO o
def nextG (g : Addr → Option Obj) (as : List Addr) : List Addr := (as.flatMap fun a => match g a with
  | some o => refsS o
  | none => []).eraseDups
def goL (g : Addr → Option Obj) : Nat → List Addr → List Addr → List Addr
  | 0, fr, acc => acc ++ fr
  | n + 1, fr, acc => goL g n ((nextG g fr).filter fun a => !(acc ++ fr).contains a) (acc ++ fr)
def asO (g : Addr → Option Obj) : List Addr := goL g 6 [mainGlobals] []
theorem glo_ns {K : PySem.W.Frag} {x : Str} (c : (He.Fa.glo x).ok K = true) : PySem.W.nsIn K mainGlobals x = some (some (.ref (He.ga K x))) := He.eqO_ok c
theorem free_ns {K : PySem.W.Frag} {x : Str} (c : (He.Fa.free x).ok K = true) : PySem.W.nsIn K mainGlobals x = some none := He.eqO_ok c
/-- a function at an address -/
def seeF (K : PySem.W.Frag) (a : Addr) : He.FnV := match K.lookup a with
  | some o => (match o.data with
    | .func f => some (f.name, f.qualname, f.params, f.body, f.scope, f.globals, f.closure, f.defaults, f.builtins)
    | _ => none)
  | none => none
def codeF (K : PySem.W.Frag) (a : Addr) (q : Str) : Bool := match K.lookup a with
  | some o => (match o.data with
    | .func f => PySem.W.codeIn K f.code q
    | _ => false)
  | none => false
structure FnA where
  at_ : PySem.W.Frag → Addr
  name : Str
  qual : Str
  st : Stmt
def FnA.due (d : FnA) : He.FnV := some (d.name, d.qual, defArgs d.st, .stmts (defBody d.st), defScope d.st, mainGlobals, [], .none, builtinsNs)
theorem seeF_ok {K : PySem.W.Frag} {a : Addr} {d : FnA} (e : seeF K a = d.due) (c : codeF K a d.qual = true) :
    ∃ oc od osl kV doc pm an cdv ct, K.lookup a = some ⟨oc, od, .func (PySem.W.fnOf d.name d.qual (defArgs d.st) (defBody d.st) (defScope d.st) .none kV doc pm an cdv ct), osl⟩ ∧ PySem.W.codeIn K cdv d.qual = true := by
  unfold codeF at c
  unfold seeF at e
  cases q : K.lookup a with
  | none =>
    rw [q] at c
    cases c
  | some o =>
    obtain ⟨oc, od, dt, osl⟩ := o
    rw [q] at c e
    cases dt with
    | func fd =>
      obtain ⟨n1, n2, n3, n4, n5, n6, n7, n8, n9, n10, n11, n12, n13, n14, n15⟩ := fd
      have e2 : (some (n1, n2, n3, n4, n5, n6, n7, n8, n15) : He.FnV) = d.due := e
      unfold FnA.due at e2
      simp only [Option.some.injEq, Prod.mk.injEq] at e2
      obtain ⟨h1, h2, h3, h4, h5, h6, h7, h8, h9⟩ := e2
      subst h1 h2 h3 h4 h5 h6 h7 h8 h9
      exact ⟨oc, od, osl, n9, n10, n11, n12, n13, n14, rfl, c⟩
    | _ => cases c
/-- what a property, a classmethod holds -/
def heldA (K : PySem.W.Frag) (p : Addr) (t : String) : Addr := match PySem.W.recIn K p t with
  | some (.ref g :: _) => g
  | _ => 0
def heldB (K : PySem.W.Frag) (p : Addr) (t : String) : Bool := match PySem.W.recIn K p t with
  | some (.ref _ :: _) => true
  | _ => false
theorem heldB_ok {K : PySem.W.Frag} {p : Addr} {t : String} (h : heldB K p t = true) : ∃ rest, PySem.W.recIn K p t = some (.ref (heldA K p t) :: rest) := by
  unfold heldB at h
  unfold heldA
  cases e : PySem.W.recIn K p t with
  | none =>
    rw [e] at h
    cases h
  | some vs =>
    rw [e] at h
    cases vs with
    | nil => cases h
    | cons v r =>
      cases v <;> first | exact ⟨r, rfl⟩ | cases h
def prA (K : PySem.W.Frag) (p : Addr) : Addr := heldA K p "property"
def prB (K : PySem.W.Frag) (p : Addr) : Bool := heldB K p "property"
theorem prB_ok {K : PySem.W.Frag} {p : Addr} (h : prB K p = true) : ∃ rest, PySem.W.recIn K p "property" = some (.ref (prA K p) :: rest) := heldB_ok h
/-- an empty tuple -/
def emB (K : PySem.W.Frag) (a : Addr) : Bool := match K.lookup a with
  | some o => decide (o.cls = .type "tuple") && (match o.data with
    | .seq its _ => its.toList.isEmpty
    | _ => false)
  | none => false
def fns0 : List FnA := [⟨fun K => He.ma K (He.ga K "Piece") "but", "but", "Piece.but", sBut⟩, ⟨fun K => He.ma K (He.ga K "Piece") "__eq__", "__eq__", "Piece.__eq__", sEqPc⟩, ⟨fun K => prA K (He.ma K (He.ga K "Piece") "bare"), "bare", "Piece.bare", sBare⟩, ⟨fun K => He.ma K (He.ga K "Program") "__str__", "__str__", "Program.__str__", sStrP⟩, ⟨fun K => He.ma K (He.ga K "Program") "__eq__", "__eq__", "Program.__eq__", sEqP⟩, ⟨fun K => He.ma K (He.ga K "Program") "__len__", "__len__", "Program.__len__", sLenP⟩, ⟨fun K => He.ma K (He.ga K "Program") "__getitem__", "__getitem__", "Program.__getitem__", sGetP⟩, ⟨fun K => He.ma K (He.ga K "Program") "__add__", "__add__", "Program.__add__", sAddP⟩, ⟨fun K => (He.ga K "is_integer"), "is_integer", "is_integer", sInt⟩, ⟨fun K => (He.ga K "is_number"), "is_number", "is_number", sNum⟩, ⟨fun K => (He.ga K "is_sequence"), "is_sequence", "is_sequence", sSeq⟩, ⟨fun K => (He.ga K "is_name"), "is_name", "is_name", sName⟩, ⟨fun K => (He.ga K "are_names"), "are_names", "are_names", sNames⟩, ⟨fun K => (He.ga K "require"), "require", "require", sReq⟩, ⟨fun K => (He.ga K "is_remark"), "is_remark", "is_remark", sRem⟩, ⟨fun K => (He.ga K "head_of"), "head_of", "head_of", sHead⟩, ⟨fun K => (He.ga K "tail_of"), "tail_of", "tail_of", sTail⟩, ⟨fun K => (He.ga K "body_rows"), "body_rows", "body_rows", sBody⟩, ⟨fun K => (He.ga K "rows_of"), "rows_of", "rows_of", sRowsOf⟩, ⟨fun K => (He.ga K "check_pieces"), "check_pieces", "check_pieces", sCheck⟩, ⟨fun K => (He.ga K "gap_of"), "gap_of", "gap_of", sGap⟩, ⟨fun K => (He.ga K "shape_of"), "shape_of", "shape_of", sShape⟩, ⟨fun K => (He.ga K "facts_of"), "facts_of", "facts_of", sFacts⟩, ⟨fun K => (He.ga K "facts_of_piece"), "facts_of_piece", "facts_of_piece", sFP⟩, ⟨fun K => (He.ga K "bits_of"), "bits_of", "bits_of", sBits⟩]
def fns1 : List FnA := [⟨fun K => (He.ga K "lanes_of"), "lanes_of", "lanes_of", sLanes⟩, ⟨fun K => (He.ga K "shape_in"), "shape_in", "shape_in", sShapeIn⟩, ⟨fun K => (He.ga K "put_behind"), "put_behind", "put_behind", sBeh⟩, ⟨fun K => (He.ga K "where_long"), "where_long", "where_long", sLong⟩, ⟨fun K => (He.ga K "where_holds"), "where_holds", "where_holds", sHolds⟩, ⟨fun K => (He.ga K "where_done"), "where_done", "where_done", sDone⟩, ⟨fun K => (He.ga K "do_break"), "do_break", "do_break", sBreak⟩, ⟨fun K => (He.ga K "do_join"), "do_join", "do_join", sJoin⟩, ⟨fun K => (He.ga K "do_mark"), "do_mark", "do_mark", sMark⟩, ⟨fun K => (He.ga K "do_unmark"), "do_unmark", "do_unmark", sUnmark⟩, ⟨fun K => (He.ga K "do_lift"), "do_lift", "do_lift", sLift⟩, ⟨fun K => (He.ga K "do_lower"), "do_lower", "do_lower", sLower⟩, ⟨fun K => (He.ga K "do_space"), "do_space", "do_space", sSpace⟩, ⟨fun K => (He.ga K "do_close"), "do_close", "do_close", sClose⟩, ⟨fun K => (He.ga K "do_row"), "do_row", "do_row", sRow⟩, ⟨fun K => (He.ga K "rows_done"), "rows_done", "rows_done", sRows⟩, ⟨fun K => (He.ga K "is_fence"), "is_fence", "is_fence", sFence⟩, ⟨fun K => (He.ga K "sorting_key"), "sorting_key", "sorting_key", sKeyS⟩, ⟨fun K => (He.ga K "in_order"), "in_order", "in_order", sInOrd⟩, ⟨fun K => (He.ga K "lay_piece"), "lay_piece", "lay_piece", sLayP⟩, ⟨fun K => (He.ga K "stands_ahead"), "stands_ahead", "stands_ahead", sAhead⟩, ⟨fun K => (He.ga K "run"), "run", "run", sRun⟩, ⟨fun K => (He.ga K "is_test"), "is_test", "is_test", sTest⟩, ⟨fun K => (He.ga K "is_deed"), "is_deed", "is_deed", sDeed⟩, ⟨fun K => (He.ga K "are_tests"), "are_tests", "are_tests", sAreT⟩]
def fns2 : List FnA := [⟨fun K => (He.ga K "are_deeds"), "are_deeds", "are_deeds", sAreD⟩, ⟨fun K => (He.ga K "are_rows"), "are_rows", "are_rows", sAreR⟩, ⟨fun K => (He.ga K "_law_box"), "_law_box", "_law_box", sBox⟩, ⟨fun K => (He.ga K "_law_take"), "_law_take", "_law_take", sTake⟩, ⟨fun K => (He.ga K "_law_pick"), "_law_pick", "_law_pick", sPick⟩, ⟨fun K => (He.ga K "_law_mixed"), "_law_mixed", "_law_mixed", sMixed⟩, ⟨fun K => (He.ga K "_law_name"), "_law_name", "_law_name", sLName⟩, ⟨fun K => (He.ga K "_law_piece"), "_law_piece", "_law_piece", sLPiece⟩, ⟨fun K => (He.ga K "_law_made"), "_law_made", "_law_made", sLMade⟩, ⟨fun K => (He.ga K "_law_test"), "_law_test", "_law_test", sLTest⟩, ⟨fun K => (He.ga K "_law_row"), "_law_row", "_law_row", sLRow⟩, ⟨fun K => (He.ga K "_law_tool"), "_law_tool", "_law_tool", sLTool⟩, ⟨fun K => (He.ga K "_law_tool_of"), "_law_tool_of", "_law_tool_of", sToolOf⟩, ⟨fun K => (He.ga K "_law_is_fence"), "_law_is_fence", "_law_is_fence", sLFence⟩, ⟨fun K => (He.ga K "_law_key"), "_law_key", "_law_key", sLKey⟩, ⟨fun K => (He.ga K "_law_sorted"), "_law_sorted", "_law_sorted", sLSorted⟩, ⟨fun K => (He.ga K "_law_turned"), "_law_turned", "_law_turned", sTurned⟩, ⟨fun K => (He.ga K "law"), "law", "law", sLaw⟩]
def fns : List FnA := fns0 ++ fns1 ++ fns2
def fa0 : List He.Fa := [.glo "Piece", .cls "Piece", .noat "Piece" "word", .noat "Piece" "parts", .noat "Piece" "broken", .noat "Piece" "marked", .noat "Piece" "ahead", .noat "Piece" "behind", .noat "Piece" "blanks", .noat "Piece" "left", .mkr "Piece", .meth "Piece" "but", .meth "Piece" "__eq__", .glo "Program", .cls "Program", .noat "Program" "pieces", .mkr "Program", .meth "Program" "__str__", .meth "Program" "__eq__", .meth "Program" "__len__", .meth "Program" "__getitem__", .meth "Program" "__add__", .glo "Row", .cls "Row", .noat "Row" "tests"]
def fa1 : List He.Fa := [.noat "Row" "deeds", .mkr "Row", .glo "Tool", .cls "Tool", .noat "Tool" "rows", .noat "Tool" "sorts", .mkr "Tool", .glo "TESTS", .glo "DEEDS", .int "SIGN_LENGTH" 4, .glo "is_integer", .keep "is_integer", .glo "is_number", .keep "is_number", .glo "is_sequence", .keep "is_sequence", .glo "is_name", .keep "is_name", .glo "are_names", .keep "are_names", .glo "require", .keep "require", .glo "is_remark", .keep "is_remark", .glo "head_of"]
def fa2 : List He.Fa := [.keep "head_of", .glo "tail_of", .keep "tail_of", .glo "body_rows", .keep "body_rows", .glo "rows_of", .keep "rows_of", .glo "check_pieces", .keep "check_pieces", .glo "gap_of", .keep "gap_of", .glo "shape_of", .keep "shape_of", .glo "facts_of", .keep "facts_of", .glo "facts_of_piece", .keep "facts_of_piece", .glo "bits_of", .keep "bits_of", .glo "lanes_of", .keep "lanes_of", .glo "shape_in", .keep "shape_in", .glo "put_behind", .keep "put_behind"]
def fa3 : List He.Fa := [.glo "where_long", .keep "where_long", .glo "where_holds", .keep "where_holds", .glo "where_done", .keep "where_done", .glo "do_break", .keep "do_break", .glo "do_join", .keep "do_join", .glo "do_mark", .keep "do_mark", .glo "do_unmark", .keep "do_unmark", .glo "do_lift", .keep "do_lift", .glo "do_lower", .keep "do_lower", .glo "do_space", .keep "do_space", .glo "do_close", .keep "do_close", .glo "do_row", .keep "do_row", .glo "rows_done"]
def fa4 : List He.Fa := [.keep "rows_done", .glo "is_fence", .keep "is_fence", .glo "sorting_key", .keep "sorting_key", .glo "in_order", .keep "in_order", .glo "lay_piece", .keep "lay_piece", .glo "stands_ahead", .keep "stands_ahead", .glo "run", .keep "run", .glo "is_test", .keep "is_test", .glo "is_deed", .keep "is_deed", .glo "are_tests", .keep "are_tests", .glo "are_deeds", .keep "are_deeds", .glo "are_rows", .keep "are_rows", .glo "_law_box", .keep "_law_box"]
def fa5 : List He.Fa := [.glo "_law_take", .keep "_law_take", .glo "_law_pick", .keep "_law_pick", .glo "_law_mixed", .keep "_law_mixed", .glo "_law_name", .keep "_law_name", .glo "_law_piece", .keep "_law_piece", .glo "_law_made", .keep "_law_made", .glo "_law_test", .keep "_law_test", .glo "_law_row", .keep "_law_row", .glo "_law_tool", .keep "_law_tool", .glo "_law_tool_of", .keep "_law_tool_of", .glo "_law_is_fence", .keep "_law_is_fence", .glo "_law_key", .keep "_law_key", .glo "_law_sorted"]
def fa6 : List He.Fa := [.keep "_law_sorted", .glo "_law_turned", .keep "_law_turned", .glo "law", .keep "law", .glo "DOING", .free "int", .free "bool", .free "str", .free "list", .free "tuple", .free "dict", .free "isinstance", .free "len", .free "all", .free "any", .free "abs", .free "range", .free "enumerate", .free "zip", .free "max", .free "min", .free "repr", .free "sorted"]
def fa : List He.Fa := fa0 ++ fa1 ++ fa2 ++ fa3 ++ fa4 ++ fa5 ++ fa6
def ini0 : List He.DefD := [⟨("Piece", some "__init__"), "__init__", "Piece.__init__", defArgs sPieceI, defBody sPieceI, defScope sPieceI, [.bl false, .bl false, .str "", .str "", .int 0, .bl false], []⟩, ⟨("Program", some "__init__"), "__init__", "Program.__init__", defArgs sProgI, defBody sProgI, defScope sProgI, [.adr (He.dflAt ("Program", some "__init__") 0)], []⟩, ⟨("Row", some "__init__"), "__init__", "Row.__init__", defArgs sRowI, defBody sRowI, defScope sRowI, [.adr (He.dflAt ("Row", some "__init__") 0), .adr (He.dflAt ("Row", some "__init__") 1)], []⟩, ⟨("Tool", some "__init__"), "__init__", "Tool.__init__", defArgs sToolI, defBody sToolI, defScope sToolI, [.adr (He.dflAt ("Tool", some "__init__") 0), .bl false], []⟩]
def ini : List He.DefD := ini0
def extras0 (K : PySem.W.Frag) : List Bool := [He.eqO (PySem.W.specialIn K (.builtin "object.__class__") "__get__") (some (some (.builtin "getset_descriptor.__get__"))),
  decide (PySem.W.takesIn K (.builtin "object.__class__") = some true),
  He.eqO (PySem.W.findIn K (.ref (He.ga K "Piece")) "__class__") (some (some (.builtin "object.__class__"))),
  decide (PySem.W.mroIn K (He.ga K "Piece") (.type "object") = some true),
  He.eqO (PySem.W.findIn K (.ref (He.ga K "Piece")) "__ne__") (some (some (.builtin "object.__ne__"))),
  He.eqO (PySem.W.findIn K (.ref (He.ga K "Piece")) "bare") (some (some (.ref (He.ma K (He.ga K "Piece") "bare")))),
  He.eqO (PySem.W.specialIn K (.ref (He.ma K (He.ga K "Piece") "bare")) "__get__") (some (some (.builtin "property.__get__"))),
  decide (PySem.W.takesIn K (.ref (He.ma K (He.ga K "Piece") "bare")) = some true),
  prB K (He.ma K (He.ga K "Piece") "bare"),
  PySem.W.keepIn K (.ref (prA K (He.ma K (He.ga K "Piece") "bare"))),
  He.eqO (PySem.W.findIn K (.ref (He.ga K "Program")) "__class__") (some (some (.builtin "object.__class__"))),
  decide (PySem.W.mroIn K (He.ga K "Program") (.type "object") = some true),
  emB K (He.dflAt ("Program", some "__init__") 0 K),
  PySem.W.fnIn K (He.ma K (He.ga K "Program") "__getitem__"),
  PySem.W.selfFirst K (He.ga K "Program"),
  He.eqO (PySem.W.findIn K (.ref (He.ga K "Program")) "__ne__") (some (some (.builtin "object.__ne__"))),
  He.eqO (PySem.W.findIn K (.ref (He.ga K "Row")) "__class__") (some (some (.builtin "object.__class__"))),
  decide (PySem.W.mroIn K (He.ga K "Row") (.type "object") = some true),
  He.eqO (PySem.W.findIn K (.ref (He.ga K "Tool")) "__class__") (some (some (.builtin "object.__class__"))),
  decide (PySem.W.mroIn K (He.ga K "Tool") (.type "object") = some true)]
def extras1 (K : PySem.W.Frag) : List Bool := [He.tupB K "TESTS" (testL.map He.Dv.str),
  He.tupB K "DEEDS" (deedL.map He.Dv.str),
  He.eqO (PySem.W.nsIn K (He.ga K "DOING") "break") (some (some (.ref (He.ga K "do_break")))),
  He.eqO (PySem.W.nsIn K (He.ga K "DOING") "join") (some (some (.ref (He.ga K "do_join")))),
  He.eqO (PySem.W.nsIn K (He.ga K "DOING") "mark") (some (some (.ref (He.ga K "do_mark")))),
  He.eqO (PySem.W.nsIn K (He.ga K "DOING") "unmark") (some (some (.ref (He.ga K "do_unmark")))),
  He.eqO (PySem.W.nsIn K (He.ga K "DOING") "lift") (some (some (.ref (He.ga K "do_lift")))),
  He.eqO (PySem.W.nsIn K (He.ga K "DOING") "lower") (some (some (.ref (He.ga K "do_lower")))),
  He.eqO (PySem.W.nsIn K (He.ga K "DOING") "space") (some (some (.ref (He.ga K "do_space")))),
  He.eqO (PySem.W.nsIn K (He.ga K "DOING") "close") (some (some (.ref (He.ga K "do_close"))))]
def extras (K : PySem.W.Frag) : List Bool := extras0 K ++ extras1 K
def keys : List Str := ["break", "join", "mark", "unmark", "lift", "lower", "space", "close"]
abbrev AlO : Type := Bool × List He.FnV × List He.FnW × Option (List (Option (Str × Int)))
def okB (K : PySem.W.Frag) : Bool := (fa.all fun f => f.ok K) && ((fns.all fun d => codeF K (d.at_ K) d.qual) && ((ini.all fun d => d.ok K) && (extras K).all fun b => b))
def obsD (K : PySem.W.Frag) : Option (List (Option (Str × Int))) := He.dicW K (He.ga K "DOING")
def valD (w : World) : Option (List (Option (Str × Int))) := some (He.keysIn w.params keys)
def obsO (K : PySem.W.Frag) : AlO := (okB K, fns.map (fun d => seeF K (d.at_ K)), ini.map (fun d => He.fnW K d.at_), obsD K)
def valO (w : World) : AlO := (true, fns.map FnA.due, ini.map He.DefD.val, valD w)
def hk : PySem.W.Hook where
  α := AlO
  obs := fun s => obsO (He.frG s.heap.get? (asO s.heap.get?))
  val := fun w => valO w
  says := fun w h => ∃ K : PySem.W.Frag, K.In h ∧ obsO K = valO w
  of := fun _ _ e => ⟨_, He.frG_in, e⟩
  keeps := fun _ _ _ ⟨K, hK, c⟩ k => ⟨K, PySem.W.Frag.In.keeps hK k, c⟩
def ob (s : PySem.W.SharedT) : AlO := obsO (He.frG (HandSHeadRun.getT s) (asO (HandSHeadRun.getT s)))
theorem ob_eq (s : PySem.W.SharedT) : ob s = hk.obs s.abs := by
  have e : HandSHeadRun.getT s = s.abs.heap.get? := funext (HandSHeadRun.getT_eq s)
  show obsO (He.frG (HandSHeadRun.getT s) (asO (HandSHeadRun.getT s))) = obsO (He.frG s.abs.heap.get? (asO s.abs.heap.get?))
  rw [e]
abbrev Kof (s : PySem.W.SharedT) : PySem.W.Frag := He.frG (HandSHeadRun.getT s) (asO (HandSHeadRun.getT s))
def obB (s : PySem.W.SharedT) : Bool × Option (List (Option (Str × Int))) := (okB (Kof s), obsD (Kof s))
def obF (s : PySem.W.SharedT) : List He.FnV × List He.FnW := (fns.map (fun d => seeF (Kof s) (d.at_ (Kof s))), ini.map (fun d => He.fnW (Kof s) d.at_))
theorem join4 {o : Option PySem.W.SharedT} {w : World} (h1 : o.map obB = some (true, valD w)) (h2 : o.map obF = some (fns.map FnA.due, ini.map He.DefD.val)) : o.map ob = some (valO w) := by
  cases o with
  | none => cases h1
  | some s =>
    have a := Option.some.inj h1
    have b := Option.some.inj h2
    have a1 : okB (Kof s) = true := congrArg Prod.fst a
    have a2 : obsD (Kof s) = valD w := congrArg Prod.snd a
    have b1 : fns.map (fun d => seeF (Kof s) (d.at_ (Kof s))) = fns.map FnA.due := congrArg Prod.fst b
    have b2 : ini.map (fun d => He.fnW (Kof s) d.at_) = ini.map He.DefD.val := congrArg Prod.snd b
    show some (okB (Kof s), fns.map (fun d => seeF (Kof s) (d.at_ (Kof s))), ini.map (fun d => He.fnW (Kof s) d.at_), obsD (Kof s)) = some (true, fns.map FnA.due, ini.map He.DefD.val, valD w)
    rw [a1, a2, b1, b2]
theorem join3 {α β γ δ : Type} {o : Option α} {f : α → β} {g : α → γ} {p : α → δ} {x : β} {y : γ} {z : δ} (h1 : o.map (fun s => (f s, g s, ())) = some (x, y, ())) (h2 : o.map p = some z) : o.map (fun s => (f s, g s, p s)) = some (x, y, z) := by
  cases o with
  | none => cases h1
  | some s =>
    have a := Option.some.inj h1
    have b : p s = z := Option.some.inj h2
    have a1 : f s = x := congrArg Prod.fst a
    have a2 : g s = y := congrArg (fun q => q.2.1) a
    show some (f s, g s, p s) = _
    rw [a1, a2, b]
end LayH
set_option Elab.async false
set_option linter.all false
set_option maxRecDepth 100000
set_option maxHeartbeats 8000000
namespace LayH
open PySem PySem.Spec PyProof.Rows L2
abbrev R : PySem.W.OpenRow := PySem.W.OpenLaw.row PySem.Challenge.rw_laytwice_k65_whole_sorting
abbrev qv : Program := PySem.W.view R.prog [95]
def names0 : List PySem.Str := ["__name__", "LayError", "InvalidPiece", "InvalidProgram", "InvalidText", "InvalidRow", "InvalidTool", "NoPiece", "NoRow", "is_integer", "is_number", "is_sequence", "is_name", "are_names", "require", "is_remark", "head_of", "tail_of", "body_rows", "rows_of", "Piece", "check_pieces", "row_at", "read_blanks", "read_ahead"]
def names1 : List PySem.Str := ["read_head", "split_remark", "read_flat", "read_item", "read_broken", "read_piece", "read_pieces", "Program", "SIGN_LENGTH", "gap_of", "shape_of", "facts_of", "facts_of_piece", "bits_of", "lanes_of", "shape_in", "put_behind", "where_long", "where_holds", "where_done", "do_break", "do_join", "do_mark", "do_unmark", "do_lift"]
def names2 : List PySem.Str := ["do_lower", "do_space", "do_close", "DOING", "do_row", "rows_done", "lay_piece", "stands_ahead", "is_fence", "sorting_key", "in_order", "run", "TESTS", "DEEDS", "is_test", "is_deed", "are_tests", "are_deeds", "are_rows", "row_words", "first_line", "read_row", "Row", "Tool", "_law_box"]
def names3 : List PySem.Str := ["_law_take", "_law_pick", "_law_mixed", "_law_name", "_law_piece", "_law_made", "_law_test", "_law_row", "_law_tool", "_law_tool_of", "_law_is_fence", "_law_key", "_law_sorted", "_law_turned"]
def names : List PySem.Str := names0 ++ names1 ++ names2 ++ names3
abbrev PA (w : World) : Prop := HandSHeadRun.RunEq R qv PySem.W.Hook.none (fun _ => ()) 40000 names w
noncomputable abbrev endS (w : World) (os : OsState) : Option PySem.W.SharedT := HandSHeadRun.endF (HandSHeadRun.stepQ (HandSHeadRun.denQ HandSHeadRun.tabQ) R.prog w) 40000 R.prog w os
abbrev PB (w : World) : Prop := ∀ os : OsState, (endS w os).map obB = some (true, valD w)
abbrev PF (w : World) : Prop := ∀ os : OsState, (endS w os).map obF = some (fns.map FnA.due, ini.map He.DefD.val)
set_option maxHeartbeats 0
theorem runA0 (w : World) : PA (w.withFollow "special-get-raises" false) := by
  intro os
  kernel_rfl
theorem runA1 (w : World) : PA (w.withFollow "special-get-raises" true) := by
  intro os
  kernel_rfl
theorem runB0 (w : World) : PB (w.withFollow "special-get-raises" false) := by
  intro os
  kernel_rfl
theorem runB1 (w : World) : PB (w.withFollow "special-get-raises" true) := by
  intro os
  kernel_rfl
theorem runF0 (w : World) : PF (w.withFollow "special-get-raises" false) := by
  intro os
  kernel_rfl
theorem runF1 (w : World) : PF (w.withFollow "special-get-raises" true) := by
  intro os
  kernel_rfl
theorem run (w : World) : HandSHeadRun.RunEq R qv hk ob 40000 names w := fun os =>
  join3 (PySem.W.byRow2 "special-get-raises" (P := PA) runA0 runA1 w os) (join4 (PySem.W.byRow2 "special-get-raises" (P := PB) runB0 runB1 w os) (PySem.W.byRow2 "special-get-raises" (P := PF) runF0 runF1 w os))
end LayH
set_option Elab.async false
set_option linter.all false
set_option maxRecDepth 100000
set_option maxHeartbeats 4000000
set_option pp.maxSteps 1500
/-! Keywords: a def with ** that is called with keywords, a class that is called with **. -/
namespace KwX
open PySem PySem.Spec PyProof.Rows L2 StX

/-! ### a dict merged into another one (mergeMapping) -/
section
variable {prog : Program} {w : World} {Kt : Type} [DecidableEq Kt] {knd : KeyKind prog w Kt} {A : Around} {E : Value → Shared → Prop} {s : Shared}
theorem wpAny_dictPut {d : Addr} {kvs : List (Kt × Value)} {k : Kt} {key v : Value} {Q : Unit → Shared → Prop} (hkey : knd.is k key = true) (hm : s.heap.DictOf knd d kvs)
    (hQ : ∀ h', h'.DictOf knd d (stored kvs k v) → Heap.SameBut d s.heap h' → Q () { s with heap := h' })
    (hsz : kvs.length ≤ sizeLine) :
    wpAny (model prog w) A (dictPut d (knd.hash k) key v) Q E s := by
  obtain ⟨o, es, ep, ho, hc, hd, hk, hp, hn⟩ := hm
  have hes : es.size ≤ sizeLine := by
    have e1 := hp.length
    have e2 : es.toList.length = es.size := by simp
    omega
  unfold dictPut
  refine wpAny_bind (wpAny_dictFind_of hkey ho hd hk ?_)
  have hidx : (es.findIdx? fun e => knd.is k e.key) = kvs.findIdx? fun kv => decide (kv.1 = k) := by
    rw [← hp.findIdx k]; obtain ⟨l⟩ := es; simp
  cases hi : es.findIdx? fun e => knd.is k e.key with
  | some i =>
    refine wpAny_updateDict ho hd (hQ _ ⟨_, _, ep, Heap.get?_update_self _ ho (Obj.isFreed_of_dict (Obj.data_mapDict hd _)),
      hc.mapDict _, Obj.data_mapDict hd _, hk.modify _ _, ?_, ?_⟩ (Heap.SameBut.update ..))
    · rw [stored, if_pos (any_of_findIdx_some (hidx ▸ hi))]
      have hl : (es.toList.findIdx? fun e => knd.is k e.key) = some i := by rw [← hi]; obtain ⟨l⟩ := es; simp
      have := hp.modify hn hl v
      obtain ⟨l⟩ := es
      simpa using this
    · rw [stored, if_pos (any_of_findIdx_some (hidx ▸ hi)), keys_map_store]; exact hn
  | none =>
    have hnot : k ∉ kvs.map (·.1) := not_mem_of_findIdx_none (hidx ▸ hi)
    have hany : ¬ (kvs.any fun kv => decide (kv.1 = k)) = true := by
      rw [List.any_eq_true]; rintro ⟨kv, hkv, he⟩
      exact hnot (List.mem_map.mpr ⟨kv, hkv, of_decide_eq_true he⟩)
    refine wpAny_updateDictKeys (hz := hes) ho hd (hQ _ ⟨_, _, ep + 1, Heap.get?_update_self _ ho (Obj.isFreed_of_dict (Obj.data_mapDictKeys hd _)),
      hc.mapDictKeys _, Obj.data_mapDictKeys hd _, hk.push hkey _, ?_, ?_⟩ (Heap.SameBut.update ..))
    · rw [stored, if_neg hany]
      have := hp.append hkey (knd.hash k) v
      obtain ⟨l⟩ := es
      simpa using this
    · rw [stored, if_neg hany, List.map_append, List.nodup_append]
      refine ⟨hn, by simp, ?_⟩
      intro a ha b hb
      simp only [List.map_cons, List.map_nil, List.mem_singleton] at hb
      subst hb
      exact fun e => hnot (e ▸ ha)

theorem wpAny_mergeMapping {u : Bool} {d o : Addr} {kvs more : List (Kt × Value)} {Q : Unit → Shared → Prop} (hdo : d ≠ o) (hoS : (o == sysModules) = false)
    (hd : s.heap.DictOf knd d kvs) (ho : s.heap.DictOf knd o more) (hu : u = true → ((kvs ++ more).map (·.1)).Nodup)
    (hQ : ∀ h', h'.DictOf knd d (merged kvs more) → h'.DictOf knd o more → Heap.SameBut d s.heap h' → Q () { s with heap := h' })
    (hsz : kvs.length + more.length ≤ sizeLine) :
    wpAny (model prog w) A (mergeMapping d (.ref o) u) Q E s := by
  obtain ⟨od, esd, epd, hod, hcd, hdd, hkd, hpd, hnd⟩ := id hd
  obtain ⟨oo, eso, epo, hoo, hco, hdo', hko, hpo, hno⟩ := id ho
  have hlen : more.length = eso.size := by rw [← hpo.length]; simp
  have hT : s.TypeIs (.ref o) "dict" := ⟨oo, hoo, hco.1⟩
  unfold mergeMapping
  refine wpAny_bind (wpAny_isInstance (T := "dict") hT PySem.F.sub_dict_dict ?_)
  dsimp only
  rw [if_pos rfl]
  refine wpAny_bind (wpAny_specialOf hT PySem.F.slot_dict_iter.lookup ?_)
  have hb : ((some (Value.builtin "dict.__iter__")) == some (Value.builtin "dict.__iter__")) = true := by decide +kernel
  refine wpAny_bind (wpAny_pure ?_)
  rw [hb]
  dsimp only
  rw [if_neg (by rw [hoS]; exact Bool.false_ne_true)]
  refine wpAny_bind (wpAny_dictEntries hod hdd ?_)
  have loop : wpAny (model prog w) A (do
      let l ← dictEntries o
      let epoch ← dictEpoch o
      forIn (List.range l.size) PUnit.unit fun i (_ : PUnit) => do
          let l' ← dictEntries o
          match l'[i]? with
            | some e => do
              holding [e.key, e.val]
                  (have jp := fun (_ : Unit) => dictPut d e.hash e.key e.val
                   if u = true then do
                     let f ← dictFind d e.key e.hash
                     if f.isSome = true then do
                       rule "dict.merge.duplicate-key"
                       let x ← newExc (Value.type "KeyError") [e.key]
                       let r ← raiseNew x
                       jp r
                     else jp ()
                   else jp ())
              let ep' ← dictEpoch o
              if (ep' != epoch) = true then do
                unsupported "dict.changed-during-merge"
                pure (ForInStep.yield PUnit.unit)
              else pure (ForInStep.yield PUnit.unit)
            | x => do
              unsupported "dict.changed-during-merge"
              pure (ForInStep.yield PUnit.unit)
      pure ()) Q E s := by
    refine wpAny_bind (wpAny_dictEntries hoo hdo' ?_)
    refine wpAny_bind (wpAny_dictEpoch hoo hdo' ?_)
    refine wpAny_bind ?_
    rw [List.range_eq_range']
    refine wpAny_forIn_list _
      (fun rest _ s' => ∃ h' i, s' = { s with heap := h' } ∧ rest = List.range' i (eso.size - i) ∧ i ≤ eso.size ∧ h'.DictOf knd d (merged kvs (more.take i)) ∧ h'.get? o = some oo ∧ Heap.SameBut d s.heap h')
      _ ?_ ?_ _ _ ⟨s.heap, 0, rfl, by simp, Nat.zero_le _, by simpa [merged] using hd, hoo, Heap.SameBut.refl _ _⟩
    · rintro x rest b s' ⟨h', i, rfl, hr, hi, hd', hoo', hs'⟩
      have hlt : i < eso.size := by
        rcases Nat.lt_or_ge i eso.size with h | h
        · exact h
        · rw [Nat.sub_eq_zero_of_le h] at hr; simp at hr
      obtain ⟨rfl, hrest⟩ : x = i ∧ rest = List.range' (i + 1) (eso.size - (i + 1)) := by
        have e : eso.size - i = (eso.size - (i + 1)) + 1 := by omega
        rw [e, List.range'_succ] at hr
        injection hr with h1 h2
        exact ⟨h1, h2⟩
      refine wpAny_bind (wpAny_dictEntries hoo' hdo' ?_)
      rw [Array.getElem?_eq_getElem hlt]
      obtain ⟨kv, hkv⟩ : ∃ kv, more[x]? = some kv := ⟨more[x]'(by rw [hlen]; exact hlt), List.getElem?_eq_getElem _⟩
      obtain ⟨k, v⟩ := kv
      obtain ⟨hkey, hval⟩ := hpo.get? (e := eso[x]) (by simp [hlt]) hkv
      obtain ⟨k', hkey', hhash⟩ := hko eso[x] (Array.getElem_mem hlt)
      obtain rfl : k' = k := knd.inj _ _ _ hkey' hkey
      have hmx : (merged kvs (more.take x)).length ≤ sizeLine := by
        have e1 := merged_length_le kvs (more.take x)
        have e2 : (more.take x).length ≤ more.length := by rw [List.length_take]; omega
        omega
      dsimp only
      rw [hhash, hval]
      refine wpAny_bind (wpAny_holding ?_)
      cases u
      case' true =>
        obtain ⟨o1, es1, ep1, ho1, hc1, hd1, hk1, hp1, hn1⟩ := id hd'
        rw [if_pos rfl]
        refine wpAny_bind (wpAny_dictFind_of hkey' ho1 hd1 hk1 ?_)
        have hno1 : (es1.findIdx? fun e => knd.is k' e.key) = none := by
          have e0 : (es1.findIdx? fun e => knd.is k' e.key) = es1.toList.findIdx? fun e => knd.is k' e.key := by obtain ⟨l⟩ := es1; simp
          rw [e0, hp1.findIdx k', List.findIdx?_eq_none_iff]
          intro kv hkv1
          refine decide_eq_false fun e => ?_
          have hN := hu rfl
          have eT : more = more.take x ++ (k', v) :: more.drop (x + 1) := by
            have l1 : x < more.length := by rw [hlen]; exact hlt
            have := List.getElem?_eq_some_iff.mp hkv
            obtain ⟨l2, e2⟩ := this
            rw [← e2]
            simp
          have hN2 : ((kvs ++ more.take x).map (·.1)).Nodup := by
            rw [eT, ← List.append_assoc, List.map_append] at hN
            exact (List.nodup_append.mp hN).1
          rw [merged_append_of_fresh _ _ hN2] at hkv1
          rw [eT, ← List.append_assoc, List.map_append] at hN
          exact (List.nodup_append.mp hN).2.2 kv.1 (List.mem_map_of_mem hkv1) k' (by simp) e
        rw [hno1]
      all_goals
        refine wpAny_dictPut hkey' hd' (fun h'' hd'' hs'' => ?_) hmx
        have hoo'' : h''.get? o = some oo := (hs''.2 o (Ne.symm hdo)).trans hoo'
        refine wpAny_bind (wpAny_dictEpoch hoo'' hdo' ?_)
        rw [if_neg (by simp)]
        exact wpAny_pure ⟨h'', x + 1, rfl, hrest, hlt, by rw [merged_take_succ kvs more x (k', v) hkv]; exact hd'', hoo'', hs'.trans hs''⟩
    · rintro b s' ⟨h', i, rfl, hr, hi, hd', hoo', hs'⟩
      have hin : i = eso.size := by
        rcases Nat.lt_or_ge i eso.size with h | h
        · have e : eso.size - i = (eso.size - (i + 1)) + 1 := by omega
          rw [e, List.range'_succ] at hr; exact nomatch hr
        · exact Nat.le_antisymm hi h
      refine wpAny_pure (hQ h' ?_ ⟨oo, eso, epo, hoo', hco, hdo', hko, hpo, hno⟩ hs')
      rw [hin, ← hlen, List.take_length] at hd'; exact hd'
  split
  · refine wpAny_bind (wpAny_dictEntries hoo hdo' ?_)
    refine wpAny_bind ?_
    have scan : ∀ (l : List DictEntry), (∀ e ∈ l, ∃ k, knd.is k e.key = true) → ∀ (g : DictEntry → PUnit → Sem (ForInStep PUnit)), (∀ e, (∀ a, e.key ≠ .ref a) → g e ⟨⟩ = pure (.yield ⟨⟩)) → ∀ {R : PUnit → Shared → Prop}, R ⟨⟩ s → wpAny (model prog w) A (forIn l PUnit.unit g) R E s := by
      intro l hl g hg R hR
      induction l with
      | nil => rw [List.forIn_nil]; exact wpAny_pure hR
      | cons e l ih =>
        obtain ⟨k, hk⟩ := hl e (List.mem_cons_self ..)
        rw [List.forIn_cons, hg e (fun a z => by have := knd.byValue k _ hk; rw [z] at this; cases this)]
        exact wpAny_bind (wpAny_pure (ih fun e he => hl e (List.mem_cons_of_mem _ he)))
    rw [← Array.forIn_toList]
    refine scan _ (fun e he => ?_) _ (fun e he => ?_) loop
    · obtain ⟨k, hk, _⟩ := hko e (Array.mem_def.mpr he)
      exact ⟨k, hk⟩
    · cases q : e.key with
      | ref a => exact absurd q (he a)
      | _ => rfl
  · exact loop
end
end KwX
set_option Elab.async false
set_option linter.all false
set_option maxRecDepth 100000
set_option maxHeartbeats 4000000
set_option pp.maxSteps 1500
namespace KwX
open PySem PySem.Spec PyProof.Rows L2 StX
/-! ### C( **d) -/
section
variable {M : Model} {A : Around} {E : Value → Shared → Prop} {s : Shared}
theorem kk_call {f : Value} {first : List Value} {pos : Pos} {Q : Value → Shared → Prop} {P : Heap → Prop} {args : List (Bool × Sem Value)} {kws : List (Option Str × Sem Value)} (hst : (args.any (·.1) || kws.any (·.1.isNone)) = true)
    (hk : ∀ h, P h → ∃ k, (k = Keeper.frame ∨ k = Keeper.machine ∨ k = Keeper.boundFrame) ∧ PySem.W.Looks M h (keeperOf f) k)
    (h : wpAny M A (evalArgs f true args kws) (fun a s₁ => P s₁.heap ∧ wpAny M A (call f (first ++ a.pos) a.kw) Q E s₁) E s) : wpAny M A (callWith pos f first args kws) Q E s := by
  unfold callWith
  refine wpAny_bind (wpAny_holding (wpAny_mono h (fun a s₁ h₁ => wpAny_bind (wpAny_standAt ?_)) fun _ _ x => x))
  obtain ⟨k, hk', L⟩ := hk _ h₁.1
  simp only [hst]
  refine wpAny_bind (L.here ?_)
  have tail : ∀ {t : Sem Value}, wpAny M A t Q E s₁ → wpAny M A (t >>= fun r => holding [r] point >>= fun _ => pure r) Q E s₁ :=
    fun ht => wpAny_bind (wpAny_mono ht (fun r s₂ hr => wpAny_bind (wpAny_holding (wpAny_point (wpAny_pure hr)))) fun _ _ x => x)
  have marked (mk : Value) : wpAny M A (callMarked mk f (first ++ a.pos) a.kw) Q E s₁ := by unfold callMarked; exact Calls.wpAny_keep h₁.2
  rcases hk' with rfl | rfl | rfl <;> dsimp only <;> first | exact tail (marked _) | exact tail (wpAny_operating h₁.2)
/-- the arguments of f( **e): a new dict at d, e, its pairs merged, and read -/
theorem kk_args {f : Value} {x : Sem Value} {pos : Pos} {Q : Args → Shared → Prop}
    (h : wpAny M A (alloc ({ cls := .type "dict", data := .dict #[] } : Obj)) (fun d s1 => wpAny M A x (fun v s2 => wpAny M A (mergeMapping d v true) (fun _ s3 => wpAny M A (keywordsIn f d) (fun kw s4 => Q ⟨[], kw⟩ s4) E s3) (fun _ _ => False) s2) E s1) E s) :
    wpAny M A (evalArgs f true [] [(none, (do let v ← x; standAt pos; pure v))]) Q E s := by
  unfold evalArgs
  dsimp only
  have e0 : wpAny M A (spliced []) (fun vs s' => vs = [] ∧ s' = s) E s := by
    unfold spliced
    exact wpAny_pure ⟨rfl, rfl⟩
  refine wpAny_bind (wpAny_mono e0 (fun vs s' hv => ?_) fun _ _ z => z)
  obtain ⟨rfl, rfl⟩ := hv
  refine wpAny_bind (wpAny_pure ?_)
  dsimp only
  refine wpAny_holding ?_
  rw [if_neg (by simp)]
  unfold mergedKeywords
  refine wpAny_bind (wpAny_bind (wpAny_mono h (fun d s1 h1 => ?_) fun _ _ z => z))
  refine wpAny_bind (wpAny_holding ?_)
  refine wpAny_bind ?_
  rw [List.forIn_cons]
  refine wpAny_bind ?_
  refine wpAny_bind (wpAny_pure ?_)
  refine wpAny_bind (wpAny_bind (wpAny_mono h1 (fun v s2 h2 => wpAny_bind (wpAny_standAt (wpAny_pure ?_))) fun _ _ z => z))
  refine wpAny_bind (wpAny_onRaise (wpAny_holding (wpAny_tryCatch (wpAny_onRaise (wpAny_mono h2 (fun u s3 h3 => ?_) fun _ _ z => z.elim)))))
  refine wpAny_pure ?_
  show wpAny M A (pure ([] : List (Str × Sem Value))) _ E s3
  refine wpAny_pure ?_
  refine wpAny_pure ?_
  refine wpAny_pure ?_
  refine wpAny_bind (wpAny_pure ?_)
  exact wpAny_bind (wpAny_holding (wpAny_mono h3 (fun kw s4 h4 => wpAny_pure h4) fun _ _ z => z))
end
/-- all keys are texts: what keywordsIn tells -/
theorem wpAny_keywordsIn {P : Program} {w : World} {A : Around} {E : Value → Shared → Prop} {s : Shared} {f : Value} {d : Addr} {ks : List Str} {vs : List (Key × Value)} {Q : List (Str × Value) → Shared → Prop} (hd : s.heap.DictOf (mixKind P w) d vs)
    (hk : vs.map (·.1) = ks.map Sum.inr) (h : Q (ks.zip (vs.map (·.2))) s) : wpAny (model P w) A (keywordsIn f d) Q E s := by
  obtain ⟨o, es, ep, ho, hc, hdd, hks, hp, hn⟩ := hd
  unfold keywordsIn
  refine wpAny_bind (wpAny_dictEntries ho hdd ?_)
  rw [← Array.forIn_toList]
  generalize es.toList = el at hp
  have main : ∀ (el : List DictEntry) (vs : List (Key × Value)) (ks : List Str) (acc : List (Str × Value)), Pairs (mixKind P w) el vs → vs.map (·.1) = ks.map Sum.inr → ∀ (g : DictEntry → List (Str × Value) → Sem (ForInStep (List (Str × Value)))),
      (∀ e x t b, e.key = .str x t → g e b = pure (.yield (b ++ [(x, e.val)]))) → wpAny (model P w) A (forIn el acc g) (fun r s' => r = acc ++ ks.zip (vs.map (·.2)) ∧ s' = s) E s := by
    intro el vs ks acc hp hk g hg
    induction hp generalizing ks acc with
    | nil =>
      rw [List.forIn_nil]
      refine wpAny_pure ⟨?_, rfl⟩
      simp
    | @cons e kv es kvs h1 h2 _ ih =>
      cases ks with
      | nil => cases hk
      | cons k ks =>
        injection hk with e1 e2
        obtain ⟨t, ht⟩ : ∃ t, e.key = .str k t := by
          have e1 : kv.1 = Sum.inr k := e1
          rw [e1] at h1
          have h1 : keyIs (Sum.inr k) e.key = true := h1
          rcases keyIs_shape h1 with ⟨i, t, z, _⟩ | ⟨x, t, z, q⟩
          · cases z
          · cases z
            exact ⟨t, q⟩
        rw [List.forIn_cons, hg e k t acc ht]
        refine wpAny_bind (wpAny_pure ?_)
        refine wpAny_mono (ih ks (acc ++ [(k, e.val)]) e2) (fun r s' hr => ⟨?_, hr.2⟩) fun _ _ z => z
        rw [hr.1, h2, List.append_assoc]
        rfl
  refine wpAny_bind (wpAny_mono (main el vs ks [] hp hk _ fun e x t b he => by rw [he]) (fun r s' hr => ?_) fun _ _ z => z)
  obtain ⟨rfl, rfl⟩ := hr
  exact wpAny_pure (by rw [List.nil_append]; exact h)

/-- the pairs of a dict whose keys are these texts -/
def kvK (ks : List Str) (zs : List V) : List (Key × V) := (ks.map Sum.inr).zip zs
/-- C( **e): e a dict with text keys ks in this order; a new instance and its dict, then __init__ -/
def tMakeD (C : Addr) (ks : List Str) (sp : Sp) (gV : List V → List V → List V) (E : XK) (te : TE) : TE := fun σ H Q => ∀ d, H d = none → te σ (upd H d (.dK [])) fun y H1 => ∃ (o : Addr) (zs : List V), y = .ref o ∧ H1 d = some (.dK []) ∧ H1 o = some (.dK (kvK ks zs)) ∧ zs.length = ks.length ∧ o ≠ d ∧
  ∀ x dx, upd H1 d (.dK (kvK ks zs)) x = none → upd H1 d (.dK (kvK ks zs)) dx = none → dx ≠ x → sp (gV [.ref x] zs) (upd (upd (upd H1 d (.dK (kvK ks zs))) dx (.own x)) x (.ins C dx [])) (fun v H3 => v = .non ∧ Q (.ref x) H3) E
theorem kvK_keys {ks : List Str} {zs : List V} (h : zs.length = ks.length) : (kvK ks zs).map (·.1) = ks.map Sum.inr := by
  unfold kvK
  rw [List.map_fst_zip]
  rw [List.length_map, h]
  exact Nat.le_refl _
theorem kvK_vals {ks : List Str} {zs : List V} (h : zs.length = ks.length) : (kvK ks zs).map (·.2) = zs := by
  unfold kvK
  rw [List.map_snd_zip]
  rw [List.length_map, h]
  exact Nat.le_refl _
theorem KV.parts : ∀ {kvs : List (Key × V)} {vs : List (Key × Value)}, KV kvs vs → vs.map (·.1) = kvs.map (·.1) ∧ Vals (kvs.map (·.2)) (vs.map (·.2)) := by
  intro kvs vs r
  unfold KV at r
  induction r with
  | nil => exact ⟨rfl, .nil⟩
  | @cons p q ps qs h t ih => exact ⟨by rw [List.map_cons, List.map_cons, ih.1, h.1], .cons h.2 ih.2⟩
section
variable {X : Cx} {CX : CXT} {k : Nat} {f C : Addr} {fd : FuncData} {ps ks : List Str} {sp : Sp} {E : XK} {x : Str} {p pos kpos : Pos} {e : Expr} {te : TE} {g : List Value → List Value → List Value} {gV : List V → List V → List V}
theorem pe_makeD (M : Mk X.K C f) (F : FnOk X.prog X.w X.K X.mg X.base CX k f fd ps sp) (hr : Room (k + 1) X.A) (hg : Gl X x) (hm : X.mg x = some (.ref C)) (hb : KBn X.K fd ps (0 + 1) ks g gV) (hx : Passes CX X E)
    (he : PE X e te) (hnd : ks.Nodup) (hks : ks.length ≤ 1000) (hdb : (x == ("__debug__" : Str)) = false := by decide) (htr : keywordEach [⟨none, e, kpos⟩] X.env = [(none, eval e X.env)] := by rfl) :
    PE X (.Call (.Name x p) [] [⟨none, e, kpos⟩] pos) (tMakeD C ks sp gV E te) := by
  refine ⟨fun pins s σ H Q I h => ?_⟩
  refine wpAny_Call_Name_kw (ld_glob I hg hm ?_ hdb)
  rw [htr]
  show wpAny _ _ (callWith pos (.ref C) [] [] [(none, (do let v ← eval e X.env; standAt pos; pure v))]) _ _ _
  refine kk_call (P := fun h => X.K.In h) rfl (PySem.W.keeps_K M.kp) (kk_args (wpAny_alloc ?_))
  have I1 := I.laid (a := s.heap.objs.size) (o := .dK []) (t' := s.toks) (fun _ _ q => Heap.get?_push_of_some _ q) (Nat.le_refl _) (dk_empty s.heap I.big)
  refine thn (he.run pins _ σ _ _ I1 (h _ (I.hok.fresh (Nat.le_refl _)))) fun v s2 ⟨y, H1, I2, ry, o, zs, ey, hd, ho, hl, hne, q⟩ => ?_
  subst ey
  obtain rfl : v = Value.ref o := ry
  obtain ⟨z, hdS, vs, rel, dd⟩ := dk_of I2.hok hd
  obtain ⟨z2, hoS, vs2, rel2, dd2⟩ := dk_of I2.hok ho
  cases rel
  obtain ⟨hk2, hv2⟩ := KV.parts rel2
  rw [kvK_keys hl] at hk2
  rw [kvK_vals hl] at hv2
  have hn2 : (vs2.map (·.1)).Nodup := by
    obtain ⟨_, _, _, _, _, _, _, _, hn⟩ := id dd2
    exact hn
  refine wpAny_mergeMapping (Ne.symm hne) hoS dd dd2 (fun _ => hn2) (fun h' d1 d2 hs => ?_) (by rw [← rel2.length]; show 0 + _ ≤ _; omega)
  have e0 : merged [] vs2 = vs2 := merged_nil_of_nodup vs2 hn2
  rw [e0] at d1
  have he' : ∃ q, h'.get? s.heap.objs.size = some q := let ⟨q, _, _, hq, _⟩ := d1; ⟨q, hq⟩
  have I3 := d_write (t' := s2.toks) (ob := .dK (kvK ks zs)) I2 (by rw [hd]; exact True.intro) hs he' (dk_new z2 hdS rel2 d1)
  refine wpAny_keywordsIn d1 hk2 ⟨I3.kIn, ?_⟩
  exact run_makeN M F hr hb hx I3 .nil hv2 rfl hl q
end

/-! ### a def with ** called with keywords -/
/-- a promise by positional values vs and the values zs of keywords named ks -/
def FnRK (P : Program) (w : World) (K : PySem.W.Frag) (mg : Str → Option Value) (base : Heap) (CX : CXT) (k : Nat) (f : Addr) (ks : List Str) (sp : List V → List V → Hp → VK → XK → Prop) : Prop :=
  ∀ (A : Around) (outer : List Env) (s : Shared) (H : Hp) (us ws : List Value) (vs zs : List V) (Q : VK) (E : XK), Room k A → Env0 P w K mg base A outer s H → Vals vs us → Vals zs ws → sp vs zs H Q E →
    codeAny (model P w) A (.call (.ref f) ⟨us, ks.zip ws⟩) (CR CX outer P w H s Q E) s
/-- a dict filled by its names -/
theorem kx_nsSet {prog : Program} {w : World} {A : Around} {E : Value → Shared → Prop} {s : Shared} {d : Addr} {es : List DictEntry} {n : Nat} {k : Str} {v : Value} {Q : Unit → Shared → Prop} (hd : s.heap.get? d = some (PySem.W.dictOf es n))
    (hs : ∀ e ∈ es, e.key.isStr k = false) (hr : ∀ e ∈ es, e.refKey = false)
    (h : ∀ h', h'.get? d = some (PySem.W.dictOf (es ++ [⟨PyData.keyHash w.params k, .str k s.toks, v⟩]) (n + 1)) → Heap.SameBut d s.heap h' → Q () { s with heap := h', toks := s.toks + 1 }) :
    wpAny (model prog w) A (nsSet d k v) Q E s := by
  have e1 : es.any (·.key.isStr k) = false := by
    cases q : es.any (·.key.isStr k) with
    | false => rfl
    | true => obtain ⟨e, he, z⟩ := List.any_eq_true.mp q; rw [hs e he] at z; cases z
  have e2 : es.any (·.refKey) = false := by
    cases q : es.any (·.refKey) with
    | false => rfl
    | true => obtain ⟨e, he, z⟩ := List.any_eq_true.mp q; rw [hr e he] at z; cases z
  have e : Obj.putName k (PyData.keyHash w.params k) (.str k s.toks) v (PySem.W.dictOf es n) = PySem.W.dictOf (es ++ [⟨PyData.keyHash w.params k, .str k s.toks, v⟩]) (n + 1) := by
    rw [PySem.W.putName_dict, PySem.W.putL_new hs]
    show PySem.W.dictOf _ (if es.any (·.key.isStr k) then n else n + 1) = _
    rw [e1, if_neg Bool.false_ne_true]
  have c : aRefKeyMayBeTheName k es.toArray = false := by
    rw [aRefKeyMayBeTheName_at, ← Array.any_toList, ← Array.any_toList]
    show (!es.any (·.key.isStr k) && es.any (·.refKey)) = false
    rw [e2, Bool.and_false]
  unfold nsSet
  refine wpAny_bind (wpAny_bind (wpAny_askSetting (wpAny_pure (wpAny_bind (wpAny_mkText (wpAny_bind (wpAny_loadPart hd ?_)))))))
  dsimp only
  rw [c]
  refine wpAny_updatePart hd (h _ ?_ (Heap.SameBut.update ..))
  have z := Heap.get?_update_self (h := s.heap) (Obj.putName k (PyData.keyHash w.params k) (.str k s.toks) v) hd (by rw [e]; rfl)
  rw [e] at z
  exact z
theorem kx_fill {prog : Program} {w : World} {A : Around} {E : Value → Shared → Prop} {d : Addr} {Q : PUnit → Shared → Prop} : ∀ (ex : List (Str × Value)) (s : Shared) (es : List DictEntry) (n : Nat), s.heap.get? d = some (PySem.W.dictOf es n) →
    (∀ e ∈ es, ∀ x ∈ ex, e.key.isStr x.1 = false) → (∀ e ∈ es, e.refKey = false) → (ex.map (·.1)).Nodup →
    (∀ h', h'.get? d = some (PySem.W.dictOf (es ++ PySem.W.kwEs w.params s.toks ex) (n + ex.length)) → Heap.SameBut d s.heap h' → Q ⟨⟩ { s with heap := h', toks := s.toks + ex.length }) →
    wpAny (model prog w) A (forIn ex PUnit.unit fun x _ => (nsSet d x.1 x.2 >>= fun _ => pure (ForInStep.yield PUnit.unit))) Q E s
  | [], s, es, n, hd, _, _, _, h => by
    rw [List.forIn_nil]
    refine wpAny_pure (h s.heap ?_ (Heap.SameBut.refl ..))
    show s.heap.get? d = some (PySem.W.dictOf (es ++ []) n)
    rw [List.append_nil]
    exact hd
  | x :: r, s, es, n, hd, hs, hr, hn, h => by
    obtain ⟨hn1, hn2⟩ := List.nodup_cons.mp (show (x.1 :: r.map (·.1)).Nodup from hn)
    rw [List.forIn_cons]
    refine wpAny_bind (wpAny_bind (kx_nsSet hd (fun e he => hs e he x (.head _)) hr fun h' hd' sb => wpAny_pure ?_))
    show wpAny (model prog w) A (forIn r PUnit.unit fun x _ => (nsSet d x.1 x.2 >>= fun _ => pure (ForInStep.yield PUnit.unit))) Q E { s with heap := h', toks := s.toks + 1 }
    refine kx_fill r { s with heap := h', toks := s.toks + 1 } _ _ hd' (fun e he y hy => ?_) (fun e he => ?_) hn2 fun h'' hd'' sb' => ?_
    · rcases List.mem_append.mp he with he | he
      · exact hs e he y (.tail _ hy)
      · obtain rfl := List.mem_singleton.mp he
        show (x.1 == y.1) = false
        exact beq_eq_false_iff_ne.mpr fun q => hn1 (by rw [q]; exact List.mem_map_of_mem hy)
    · rcases List.mem_append.mp he with he | he
      · exact hr e he
      · obtain rfl := List.mem_singleton.mp he
        rfl
    · have t1 : s.toks + 1 + r.length = s.toks + (r.length + 1) := by omega
      have t2 : n + 1 + r.length = n + (r.length + 1) := by omega
      show Q ⟨⟩ { s with heap := h'', toks := s.toks + 1 + r.length }
      rw [t1]
      refine h h'' ?_ (sb.trans sb')
      rw [t2, List.append_assoc] at hd''
      exact hd''
section
variable {P : Program} {w : World} {K : PySem.W.Frag} {mg : Str → Option Value} {base : Heap} {A : Around} {outer : List Env} {s : Shared} {H : Hp}
theorem env0_to {u : HO} {h' : Heap} {t' : Nat} (e0 : Env0 P w K mg base A outer s H) (kp : ∀ b x, s.heap.get? b = some x → h'.get? b = some x) (le : s.heap.objs.size ≤ h'.objs.size) (new : ObjOk P w (upd H s.heap.objs.size u) h' s.heap.objs.size u) :
    Env0 P w K mg base A outer { s with heap := h', toks := t' } (upd H s.heap.objs.size u) := by
  refine ⟨e0.frames, e0.mod, fun b x e => ⟨kp b x (e0.bs b x e).1, ?_⟩, Nat.le_trans e0.bsz le, Heap.FunFrames.of_keeps (fun b x e _ => ⟨x, kp b x e, rfl⟩) e0.funs, fun b hb => ?_, e0.hok.laid kp (Nat.le_refl _) new, e0.bare⟩
  · rw [upd_ne (Nat.ne_of_lt (Heap.lt_size (e0.bs b x e).1))]
    exact (e0.bs b x e).2
  · obtain ⟨_, x, hx, _⟩ := e0.funs.mem hb
    rw [upd_ne (Nat.ne_of_lt (Heap.lt_size hx))]
    exact e0.frf b hb
theorem kw_pairs {prog : Program} {w : World} : ∀ (ex : List (Str × Value)) (t : Tok), Pairs (mixKind prog w) (PySem.W.kwEs w.params t ex) (ex.map fun x => (Sum.inr x.1, x.2))
  | [], _ => .nil
  | x :: r, t => .cons (mixKind_str prog w x.1 t) rfl (kw_pairs r (t + 1))
theorem kw_dict {prog : Program} {w : World} {h : Heap} {d : Addr} {ex : List (Str × Value)} {t : Tok} {n : Nat} (hd : h.get? d = some (PySem.W.dictOf (PySem.W.kwEs w.params t ex) n)) (hn : (ex.map (·.1)).Nodup) :
    h.DictOf (mixKind prog w) d (ex.map fun x => (Sum.inr x.1, x.2)) := by
  refine ⟨_, (PySem.W.kwEs w.params t ex).toArray, n, hd, ⟨rfl, rfl, rfl⟩, rfl, fun e he => ?_, kw_pairs ex t, ?_⟩
  · obtain ⟨k, u, hk, hh⟩ := PySem.W.kwEs_key ex t e (List.mem_toArray.mp he)
    exact ⟨Sum.inr k, by rw [hk]; exact mixKind_str prog w k u, hh.trans rfl⟩
  · rw [List.map_map]
    show (ex.map fun x => (Sum.inr x.1 : Key)).Nodup
    have e : (ex.map fun x => (Sum.inr x.1 : Key)) = (ex.map (·.1)).map Sum.inr := by rw [List.map_map]; rfl
    rw [e]
    exact List.Pairwise.map Sum.inr (fun a b ne z => ne (Sum.inr.inj z)) hn
theorem kv_zip : ∀ {ks : List Str} {zs : List V} {ws : List Value}, Vals zs ws → KV (kvK ks zs) ((ks.zip ws).map fun x => (Sum.inr x.1, x.2))
  | [], _, _, _ => by
    unfold kvK
    simp
    exact .nil
  | k :: ks, _, _, .nil => .nil
  | k :: ks, _, _, .cons r t => .cons ⟨rfl, r⟩ (kv_zip (ks := ks) t)
end
end KwX
set_option Elab.async false
set_option linter.all false
set_option maxRecDepth 100000
set_option maxHeartbeats 4000000
set_option pp.maxSteps 1500
namespace KwX
open PySem PySem.Spec PyProof.Rows L2 StX
section
variable {CX : CXT} {P : Program} {w : World} {K : PySem.W.Frag} {mg : Str → Option Value} {base : Heap} {k : Nat} {f : Addr} {name qual : Str} {params : Arguments} {body : List Stmt} {scope : Scope} {dV kV doc pm cdv ct oc : Value} {an od : Option Addr}
  {osl : Array (Option Value)} {N ps ks : List Str} {sp : Sp} {pd : Str}
/-- def f(a, .., **d), called with values for a, .. and keywords ks that are no parameters: a new dict of them -/
theorem fn_kw (lk : K.lookup f = some ⟨oc, od, .func (PySem.W.fnOf name qual params body scope dV kV doc pm an cdv ct), osl⟩) (hcd : PySem.W.codeIn K cdv qual = true) (S : FnScope N (ps ++ [pd]) scope) (hCX : CXUp CX) (hnd : ks.Nodup) (hks : ks.length ≤ 1000)
    (hb : ∀ us ws : List Value, us.length = ps.length → ws.length = ks.length → bindArgs (PySem.W.fnOf name qual params body scope dV kV doc pm an cdv ct) ⟨us, ks.zip ws⟩ =
      ((alloc ({ cls := .type "dict", data := .dict #[] } : Obj) : Sem Addr) >>= fun d => (forIn (ks.zip ws) PUnit.unit fun x _ => (nsSet d x.1 x.2 >>= fun _ => pure (ForInStep.yield PUnit.unit))) >>= fun _ => pure (ps.zip us ++ [(pd, Value.ref d)])))
    (hbody : ∀ (A : Around) (outer : List Env) (s : Shared) (H : Hp) (vs : List V) (Q : VK) (E : XK), Room k (A.deeper (envOfC qual scope s.heap.objs.size f cdv)) → sp vs H Q E →
      ∃ t, PSs (cxOf CX P w K mg base N qual scope f cdv A outer s H E) body t ∧ t { nx := fun _ H' => Q .non H', rt := Q } (start N vs) H) :
    FnRK P w K mg base CX (k + 1) f ks (fun vs zs H Q E => vs.length = ps.length ∧ zs.length = ks.length ∧ ∀ d, H d = none → sp (vs ++ [V.ref d]) (upd H d (.dK (kvK ks zs))) Q E) := by
  intro A outer s H us ws vs zs Q E hr e0 r rz hsp
  obtain ⟨hl, hz, hq⟩ := hsp
  have hl1 : us.length = ps.length := by rw [← r.length]; exact hl
  have hl2 : ws.length = ks.length := by rw [← rz.length]; exact hz
  have hn : H s.heap.objs.size = Option.none := e0.hok.fresh (Nat.le_refl _)
  refine run_bnd lk hcd S hr e0 (G := fun xs H2 => ∃ d, H d = none ∧ xs = vs ++ [V.ref d] ∧ H2 = upd H d (.dK (kvK ks zs))) (fun A' Ex Q' h => ?_) fun s2 H2 xs ⟨d, hd, ex, eH⟩ hr' => ?_
  · rw [hb us ws hl1 hl2]
    refine wpAny_bind (wpAny_alloc ?_)
    have hnz : ((ks.zip ws).map (·.1)).Nodup := by
      rw [List.map_fst_zip (by rw [hl2]; exact Nat.le_refl _)]
      exact hnd
    have g0 : (s.heap.push ({ cls := .type "dict", data := .dict #[] } : Obj)).get? s.heap.objs.size = some (PySem.W.dictOf [] 0) := Heap.get?_push_size _ rfl
    refine wpAny_bind (kx_fill (ks.zip ws) _ [] 0 g0 (fun _ he => nomatch he) (fun _ he => nomatch he) hnz fun h' hd' sb => wpAny_pure ?_)
    have kp : ∀ b x, s.heap.get? b = some x → h'.get? b = some x := fun b x e => by
      rw [sb.2 b (Nat.ne_of_lt (Heap.lt_size e))]
      exact Heap.get?_push_of_some _ e
    have hbig : sysModules < s.heap.objs.size := env0_big e0
    have hlen : (kvK ks zs).length ≤ sizeLine := by
      unfold kvK
      rw [List.length_zip, List.length_map, hz]
      exact Nat.le_trans (Nat.min_le_left ..) (Nat.le_trans hks (by decide))
    have new : ObjOk P w (upd H s.heap.objs.size (.dK (kvK ks zs))) h' s.heap.objs.size (.dK (kvK ks zs)) :=
      ⟨hlen, beq_eq_false_iff_ne.mpr (Ne.symm (Nat.ne_of_lt hbig)), _, kv_zip rz, kw_dict hd' hnz⟩
    have le : s.heap.objs.size ≤ h'.objs.size := Nat.le_of_lt (Heap.lt_size hd')
    have un := Un.laid (fs := frs outer) (ex := []) (H := H) (h := s.heap) (h' := h') (a := s.heap.objs.size) (o := .dK (kvK ks zs)) kp (Nat.le_refl _) hn
    have z := h _ _ (vs ++ [V.ref s.heap.objs.size]) (us ++ [Value.ref s.heap.objs.size]) (env0_to (t' := s.toks + (ks.zip ws).length) e0 kp le new) un rfl
      (fun e s' => hCX outer s H _ _ E e s' un kp rfl) (r.append (.cons rfl .nil)) (by rw [List.length_append, List.length_append, hl] <;> rfl) ⟨_, hn, rfl, rfl⟩
    rw [List.zip_append hl1.symm] at z
    exact z
  · subst ex eH
    exact hbody A outer s2 _ _ Q E hr' (hq d hd)
end
/-! ### o.m(k = v, ..) -/
def tMethKw (C : Addr) (m : Str) (sp : List V → List V → Hp → VK → XK → Prop) (E : XK) (ta : TE) (tk : TA) : TE := fun σ H Q => ta σ H fun x H1 => ∃ a dx fs, x = .ref a ∧ H1 a = some (.ins C dx fs) ∧ fs.lookup m = none ∧ tk σ H1 fun zs H2 => sp [x] zs H2 Q E
section
variable {X : Cx} {CX : CXT} {k : Nat} {f C : Addr} {ks : List Str} {sp : List V → List V → Hp → VK → XK → Prop} {E : XK} {m : Str} {pos apos : Pos} {o : Expr} {kws : List Keyword} {ta : TE} {tk : TA}
theorem run_fnRK {pins : List (Addr × Obj)} {σ : L2.St} {H : Hp} {s : Shared} {Q : VK} {us ws : List Value} {vs zs : List V} (F : FnRK X.prog X.w X.K X.mg X.base CX k f ks sp) (hr : Room k X.A) (hx : Passes CX X E) (I : Inv X pins σ H s) (r : Vals vs us) (rz : Vals zs ws) (h : sp vs zs H Q E) :
    codeAny (model X.prog X.w) X.A (.call (.ref f) ⟨us, ks.zip ws⟩) (fun r s' => match r with | .ok (.ret v) => EP X pins σ Q v s' | .ok _ => False | .error e => X.xe e s') s := by
  refine codeAny_mono (F X.A X.stack s H us ws vs zs Q E hr I.env0 r rz h) fun r s' hq => ?_
  cases r with
  | error e => exact hx pins σ H s e s' I hq
  | ok fl =>
    cases fl with
    | ret u => exact I.after hq
    | next => exact False.elim hq
    | brk => exact False.elim hq
    | cont => exact False.elim hq
theorem pe_methKw {pl : Sem Bool} (he : PE X o ta) (c : Cls X.K C) (hm : Meth X.K C m f) (F : FnRK X.prog X.w X.K X.mg X.base CX k f ks sp) (hr : Room k X.A) (hx : Passes CX X E) (hkw : PK X kws tk)
    (hall : (backToKw pos (keywordEach kws X.env)).all (·.1.isSome) = true := by rfl) (hks : (backToKw pos (keywordEach kws X.env)).filterMap (·.1) = ks := by rfl)
    (hpl : ((backTo pos (starEach [] X.env)).any (·.1) || (backToKw pos (keywordEach kws X.env)).any (·.1.isNone)) = false := by rfl)
    (ht : eval (.Call (.Attribute o m apos) [] kws pos) X.env = (do
      let ov ← eval o X.env
      standAt apos.atName
      let (f, first) ← holding [ov] (getMethod ov m pl)
      callWith pos f first (backTo pos (starEach [] X.env)) (backToKw pos (keywordEach kws X.env))) := by rfl) :
    PE X (.Call (.Attribute o m apos) [] kws pos) (tMethKw C m sp E ta tk) := by
  refine ⟨fun pins s σ H Q I h => ?_⟩
  refine PySem.W.methodCall_KW (pl := pl) (thn (he.run pins s σ H _ I h) fun u s1 ⟨x, H1, I1, rx, a, dx, fs, ex, ea, l, q⟩ => ?_) ht
  subst ex
  obtain rfl : u = Value.ref a := rx
  refine getmeth_ok I1 ea c hm l ?_
  refine PySem.W.callWith_KW0 (first := [.ref a]) (h₀ := X.base) I.ok.mod.kin hm.kp hall ?_ hpl
  refine thn (hkw.run pos pins s1 σ H1 _ I1 q) fun ws s2 ⟨zs, H2, I2, rz, q2⟩ => ⟨I2.kIn, ?_⟩
  rw [hks]
  exact wpAny_call (run_fnRK (us := [.ref a]) (vs := [.ref a]) F hr hx I2 (.cons rfl .nil) rz q2)
end
end KwX
set_option Elab.async false
set_option linter.all false
set_option maxRecDepth 100000
set_option maxHeartbeats 4000000
set_option pp.maxSteps 1500
namespace KwX
open PySem PySem.Spec PyProof.Rows L2 StX
theorem fitsN {n : Nat} (h : n ≤ 1000) : n ≤ sizeLine := Nat.le_trans h (by decide)
section
variable {X : Cx}
/-- d.update(e): dicts with keys ints and texts -/
def tDUpd (td te : TE) : TE := fun σ H Q => td σ H fun x H1 => ∃ a, x = .ref a ∧ IsD H1 a ∧ te σ H1 fun y H2 => ∃ o kvs more, y = .ref o ∧ H2 a = some (.dK kvs) ∧ H2 o = some (.dK more) ∧ a ≠ o ∧ kvs.length + more.length ≤ 1000 ∧ Q .non (upd H2 a (.dK (mergeK kvs more)))
theorem pe_dupd {o e : Expr} {td te : TE} {apos pos : Pos} (ho : PE X o td) (he : PE X e te) (m : M1 X o "update" apos e pos) : PE X (.Call (.Attribute o "update" apos) [e] [] pos) (tDUpd td te) := by
  refine ⟨fun pins s σ H Q I h => ?_⟩
  refine wpAny_Call_method m.base m.few m.line PySem.F.plainAttrs_dict PySem.F.slot_dict_update PySem.F.type_dict_update (thn (ho.run pins s σ H _ I h) fun u s1 ⟨x, H1, I1, rx, a, ex, d, q1⟩ => ?_)
  subst ex
  obtain rfl : u = Value.ref a := rx
  obtain ⟨t1, t2, _⟩ := isD_at I1 d
  refine ⟨t1, t2, ?_⟩
  rw [m.trees]
  refine Calls.callWith_builtin rfl (Calls.evalArgs_plain (Calls.spliced_cons (thn (he.run pins s1 σ H1 _ I1 q1) fun iv s2 ⟨y, H2, I2, ry, ov, kvs, more, ey, e1, e2, hne, hl, q2⟩ => Calls.spliced_nil ?_)))
  subst ey
  cases ry
  obtain ⟨z, hd, vs, rel, dd⟩ := dk_of I2.hok e1
  obtain ⟨z2, hd2, vs2, rel2, dd2⟩ := dk_of I2.hok e2
  have lz := length_mergeK more kvs
  refine call_meetsIn PySem.F.slot_dict_update dd.typeIs PySem.F.entry_dict_update (PySem.F.args_dict_update_2 _ _) (meets_dict_update (mixKind X.prog X.w) a ov hne hd2) ⟨vs, vs2, dd, dd2, by rw [← rel.length, ← rel2.length]; exact fitsN (by omega), fun h' dd' _ hs => ?_⟩
  have he' : ∃ q, h'.get? a = some q := let ⟨q, _, _, hq, _⟩ := dd'; ⟨q, hq⟩
  exact ⟨.non, _, d_write I2 (by rw [e1]; exact True.intro) hs he' (dk_new (fitsN (by omega)) hd (rel2.merge rel) dd'), rfl, q2⟩
end
section
variable {CX : CXT} {P : Program} {w : World} {K : PySem.W.Frag} {mg : Str → Option Value} {base : Heap} {k : Nat} {f : Addr} {fd : FuncData} {x qual : Str} {st : Stmt} {N ps ks : List Str} {sp : Sp} {pd : Str}
/-- a def with ** called with keywords, by its body -/
theorem fun_kw (F : Fun K x qual st f fd) (S : FnScope N (ps ++ [pd]) (defScope st)) (hCX : CXUp CX) (hnd : ks.Nodup) (hks : ks.length ≤ 1000)
    (hb : ∀ (kV doc pm : Value) (an : Option Addr) (cdv ct : Value) (us ws : List Value), us.length = ps.length → ws.length = ks.length → bindArgs (PySem.W.fnOf x qual (defArgs st) (defBody st) (defScope st) .none kV doc pm an cdv ct) ⟨us, ks.zip ws⟩ =
      ((alloc ({ cls := .type "dict", data := .dict #[] } : Obj) : Sem Addr) >>= fun d => (forIn (ks.zip ws) PUnit.unit fun x _ => (nsSet d x.1 x.2 >>= fun _ => pure (ForInStep.yield PUnit.unit))) >>= fun _ => pure (ps.zip us ++ [(pd, Value.ref d)])))
    (hbody : ∀ (cdv : Value) (A : Around) (outer : List Env) (s : Shared) (H : Hp) (vs : List V) (Q : VK) (E : XK), Room k (A.deeper (envOfC qual (defScope st) s.heap.objs.size f cdv)) → sp vs H Q E →
      ∃ t, PSs (cxOf CX P w K mg base N qual (defScope st) f cdv A outer s H E) (defBody st) t ∧ t { nx := fun _ H' => Q .non H', rt := Q } (start N vs) H) :
    FnRK P w K mg base CX (k + 1) f ks (fun vs zs H Q E => vs.length = ps.length ∧ zs.length = ks.length ∧ ∀ d, H d = none → sp (vs ++ [V.ref d]) (upd H d (.dK (kvK ks zs))) Q E) := by
  obtain ⟨oc, od, kV, doc, pm, an, cdv, ct, osl, rfl, lk, hcd⟩ := F.ex
  exact fn_kw lk hcd S hCX hnd hks (hb kV doc pm an cdv ct) fun A outer s H vs Q E hr hsp => hbody cdv A outer s H vs Q E hr hsp
end
end KwX
set_option Elab.async false
set_option linter.all false
set_option maxRecDepth 100000
set_option maxHeartbeats 4000000
namespace Lay
open PySem L2
def top (i : Nat) : Stmt := PySem.Challenge.pw_laytwice_k65_whole_sorting.main.body.getD i (.Pass ⟨0, 0, 0, 0⟩)
abbrev sBox : Stmt := top 80
abbrev sTake : Stmt := top 81
abbrev sPick : Stmt := top 82

/-! ### the box of draws -/
def Boxy (o : HO) : Prop := ∃ g s n : Int, o = .lst [.int g, .int s, .int n]
def BoxAt (H : Hp) (b : Addr) : Prop := ∃ o, H b = some o ∧ Boxy o
/-- all that is tracked beside b is as it was -/
def Kept (b : Addr) (H H' : Hp) : Prop := ∀ a o, a ≠ b → H a = some o → H' a = some o
theorem Kept.refl (b : Addr) (H : Hp) : Kept b H H := fun _ _ _ h => h
theorem Kept.trans {b : Addr} {H H1 H2 : Hp} (x : Kept b H H1) (y : Kept b H1 H2) : Kept b H H2 := fun a o n h => y a o n (x a o n h)
theorem Kept.of_same {b : Addr} {H H' : Hp} (x : Same H H') : Kept b H H' := fun a o _ h => x a o h
theorem Kept.box {b : Addr} {H : Hp} {o : HO} : Kept b H (upd H b o) := fun a u n h => by rw [upd_ne n]; exact h
theorem Kept.new {b a : Addr} {H : Hp} {o : HO} (h : H a = none) : Kept b H (upd H a o) := fun c u _ e => by
  rw [upd_ne (ne_of_none e h)]
  exact e
theorem Same.new {a : Addr} {H : Hp} {o : HO} (h : H a = none) : Same H (upd H a o) := fun c u e => by
  rw [upd_ne (ne_of_none e h)]
  exact e
theorem BoxAt.new {b a : Addr} {H : Hp} {o : HO} (x : BoxAt H b) (h : H a = none) : BoxAt (upd H a o) b := by
  obtain ⟨u, e, y⟩ := x
  exact ⟨u, Same.new h _ _ e, y⟩
theorem BoxAt.box {b : Addr} {H : Hp} {o : HO} (y : Boxy o) : BoxAt (upd H b o) b := ⟨o, upd_same, y⟩
theorem BoxAt.ne {b a : Addr} {H : Hp} (x : BoxAt H b) (h : H a = none) : a ≠ b := by
  obtain ⟨u, e, y⟩ := x
  exact (ne_of_none e h).symm

/-- what the draws want of the module's names -/
structure TxtD (mg : Str → Option Value) : Prop where
  int : mg "int" = none
  len : mg "len" = none
  abs : mg "abs" = none
  range : mg "range" = none

def spTake : Sp := fun vs H Q _ => ∃ (b : Addr) (m : Int), vs = [.ref b, .int m] ∧ BoxAt H b ∧ 0 < m ∧ m < 1073741824 ∧
  ∀ (r : Int) (o : HO), 0 ≤ r → r < m → Boxy o → Q (.int r) (upd H b o)
def spPick (K : PySem.W.Frag) : Sp := fun vs H Q _ => ∃ (b l : Addr) (xs : List V), vs = [.ref b, .ref l] ∧ BoxAt H b ∧ l ≠ b ∧ SqL K H l xs ∧ 0 < xs.length ∧ xs.length ≤ 1000 ∧
  ∀ (v : V) (o : HO), v ∈ xs → Boxy o → Q v (upd H b o)
theorem SqL.kept {K : PySem.W.Frag} {b a : Addr} {H H' : Hp} {xs : List V} (k : Kept b H H') (n : a ≠ b) (h : SqL K H a xs) : SqL K H' a xs := by
  rcases h with (h | ⟨o, h⟩) | h
  · exact .inl (.inl (k _ _ n h))
  · exact .inl (.inr ⟨o, k _ _ n h⟩)
  · exact .inr h
theorem SqT.kept {K : PySem.W.Frag} {b a : Addr} {H H' : Hp} {xs : List V} (k : Kept b H H') (n : a ≠ b) (h : SqT K H a xs) : SqT K H' a xs := by
  rcases h with (h | ⟨o, h⟩) | h
  · exact .inl (.inl (k _ _ n h))
  · exact .inl (.inr ⟨o, k _ _ n h⟩)
  · exact .inr h

theorem lt40 {m : Int} (h : m < 1073741824) : m < 2 ^ (40 : Int).toNat := by
  have e : (2 : Int) ^ (40 : Int).toNat = 1099511627776 := by decide
  omega
section
variable {P : Program} {w : World} {K : PySem.W.Frag} {mg : Str → Option Value} {base : Heap}
theorem scTake : FnScope ["_law_box_here", "_law_many", "_law_digit", "_law_raw", "_law_wide"] ["_law_box_here", "_law_many"] (defScope sTake) := ⟨rfl, rfl, rfl, by decide +kernel, rfl, by decide +kernel, by decide +kernel⟩
theorem ok_take {f : Addr} {fd : FuncData} (F : Fun K "_law_take" "_law_take" sTake f fd) (T : TxtD mg) : FnOk P w K mg base CX0 1 f fd ["_law_box_here", "_law_many"] spTake := by
  refine F.ok scTake (fun vs H Q E h => ?_) (fun cdv A outer s H vs Q E hr h => ?_)
  · obtain ⟨b, m, rfl, _⟩ := h
    rfl
  · obtain ⟨b, m, rfl, ⟨o, hb, g, s, n, rfl⟩, hm0, hm1, k⟩ := h
    refine ⟨_, (pss_cons (ps_if (pt_cmpR op_gt (pe_ix ix_list (pv 0) pe_int (fun _ _ => rfl)) pe_int (nomark _))
      (pss_cons (ps_set (i := 2) scTake.nd rfl (.inl rfl) (pe_op op_mod (pe_callTy call_int1 (by rfl) T.int (by decide +kernel) (pa_cons (pe_ix ix_list (pv 0) pe_int (fun _ _ => rfl)) pa_nil)) (pv 1)))
      (pss_cons (ps_asg (pe_op op_fdiv (pe_ix ix_list (pv 0) pe_int (fun _ _ => rfl)) (pv 1)) (pg_sub (pv 0) pe_int set_list))
      (pss_one (ps_ret (pv 2)))))
      pss_nil)
    (pss_cons (ps_asg (pe_op op_add (pe_ix ix_list (pv 0) pe_int (fun _ _ => rfl)) pe_int) (pg_sub (pv 0) pe_int set_list))
    (pss_cons (ps_set (i := 3) scTake.nd rfl (.inl rfl) (pe_op op_mod (pe_callTy call_int1 (by rfl) T.int (by decide +kernel) (pa_cons (pe_op op_mul (pe_op op_add (pe_ix ix_list (pv 0) pe_int (fun _ _ => rfl)) (pe_op op_mul pe_int (pe_ix ix_list (pv 0) pe_int (fun _ _ => rfl)))) pe_int) pa_nil)) pe_int))
    (pss_cons (ps_asg (pe_op op_add (pe_op op_mod (pe_callTy call_int1 (by rfl) T.int (by decide +kernel) (pa_cons (pe_op op_add (pe_op op_mul (pv 3) pe_int) pe_int) pa_nil)) pe_int) pe_int) (pg_sub (pv 0) pe_int set_list))
    (pss_cons (ps_if (pt_cmpR op_lt (pv 1) (pe_op op_pow pe_int pe_int) (nomark _))
      (pss_one (ps_ret (pe_op op_mod (pe_callTy call_int1 (by rfl) T.int (by decide +kernel) (pa_cons (pe_op op_fdiv (pe_op op_add (pe_op op_mul (pv 3) pe_int) (pe_ix ix_list (pv 0) pe_int (fun _ _ => rfl))) pe_int) pa_nil)) (pv 1))))
      pss_nil)
    pss_never))))), ?_⟩
    refine ⟨_, rfl, b, _, _, _, rfl, rfl, SqL.of hb, rfl, _, _, rfl, rfl, _, rfl, ?_⟩
    refine ite2 (fun h0 => ?_) (fun h0 => ?_)
    · refine ⟨_, rfl, b, _, _, _, rfl, rfl, SqL.of hb, rfl, .inl ⟨_, rfl, _, rfl, _, _, rfl, rfl, hm0, ?_⟩⟩
      refine ⟨_, rfl, b, _, _, _, rfl, rfl, SqL.of hb, rfl, _, rfl, _, _, rfl, rfl, ⟨hm0, hm1⟩, _, rfl, b, _, _, 0, rfl, rfl, hb, rfl, ?_⟩
      refine ⟨_, rfl, k _ _ (Int.emod_nonneg _ (by omega)) (Int.emod_lt_of_pos _ hm0) ⟨_, _, _, rfl⟩⟩
    · refine ⟨_, rfl, b, _, _, _, rfl, rfl, SqL.of hb, rfl, _, _, rfl, rfl, _, rfl, b, _, _, 2, rfl, rfl, hb, rfl, ?_⟩
      refine ⟨_, rfl, b, _, _, _, rfl, rfl, SqL.of upd_same, rfl, _, rfl, b, _, _, _, rfl, rfl, SqL.of upd_same, rfl, _, _, rfl, rfl, .inl ⟨by decide, by decide⟩, _, _, rfl, rfl, _, _, rfl, rfl, .inr ⟨by decide, by decide⟩, .inl ⟨_, rfl, _, _, rfl, rfl, (by show (0 : Int) < 2147483647; decide), ?_⟩⟩
      refine ⟨_, rfl, _, _, rfl, rfl, .inr ⟨by decide, by decide⟩, _, _, rfl, rfl, .inl ⟨_, rfl, _, _, rfl, rfl, (by show (0 : Int) < 2147483629; decide), _, _, rfl, rfl, _, rfl, b, _, _, 1, rfl, rfl, upd_same, rfl, ?_⟩⟩
      rw [upd_upd]
      refine ⟨_, rfl, _, _, rfl, rfl, ⟨by decide, by decide, by decide⟩, _, _, rfl, rfl, _, rfl, ?_⟩
      refine ite2 (fun _ => ?_) (fun h1 => absurd (decide_eq_true (lt40 hm1)) h1)
      refine ⟨_, rfl, _, _, rfl, rfl, .inr ⟨by decide, by decide⟩, _, rfl, b, _, _, _, rfl, rfl, SqL.of upd_same, rfl, _, _, rfl, rfl, _, _, rfl, rfl, ⟨by decide, by decide⟩, .inl ⟨_, rfl, _, rfl, _, _, rfl, rfl, hm0, ?_⟩⟩
      exact k _ _ (Int.emod_nonneg _ (by omega)) (Int.emod_lt_of_pos _ hm0) ⟨_, _, _, rfl⟩

theorem scPick : FnScope ["_law_box_here", "_law_items"] ["_law_box_here", "_law_items"] (defScope sPick) := ⟨rfl, rfl, rfl, by decide +kernel, rfl, by decide +kernel, by decide +kernel⟩
theorem ok_pick {f fT : Addr} {fd fdT : FuncData} (F : Fun K "_law_pick" "_law_pick" sPick f fd) (T : TxtD mg) (FT : Fun K "_law_take" "_law_take" sTake fT fdT) (bT : Binds K fdT ["_law_box_here", "_law_many"] []) (gT : mg "_law_take" = some (.ref fT)) :
    FnOk P w K mg base CX0 2 f fd ["_law_box_here", "_law_items"] (spPick K) := by
  have GT : FnOk P w K mg base CX0 1 fT fdT ["_law_box_here", "_law_many"] spTake := ok_take FT T
  refine F.ok scPick (fun vs H Q E h => ?_) (fun cdv A outer s H vs Q E hr h => ?_)
  · obtain ⟨b, l, xs, rfl, _⟩ := h
    rfl
  · obtain ⟨b, l, xs, rfl, hb, hl, hs, h0, h1, k⟩ := h
    refine ⟨_, (pss_one (ps_ret (pe_ix ix_list (pv 1) (pe_call GT hr (by rfl) gT FT.kp bT .nil pass0 (pa_cons (pv 0) (pa_cons (pe_callB call_len_seq (by rfl) T.len (by decide +kernel) (pa_cons (pv 1) pa_nil)) pa_nil))) (fun _ _ => rfl)))), ?_⟩
    refine ⟨_, rfl, _, rfl, _, rfl, l, xs, rfl, .inl hs, b, _, rfl, hb, by omega, by omega, fun r o r0 r1 ho => ?_⟩
    have hr' : r.toNat < xs.length := by omega
    have er : r = ((r.toNat : Nat) : Int) := by omega
    exact ⟨l, xs, r, xs[r.toNat], rfl, rfl, SqL.kept Kept.box hl hs, at_of er (by simp [hr']), k _ _ (List.getElem_mem hr') ho⟩

def spBox (K : PySem.W.Frag) : Sp := fun vs H Q _ => ∃ (a : Addr) (ns : List Int) (i j : Int), vs = [.ref a, .int i, .int j] ∧ SqL K H a (ns.map V.int) ∧ 0 ≤ i ∧ i ≤ 1000 ∧ 0 ≤ j ∧ j ≤ 1000 ∧ ns.length ≤ 1000 ∧
  ∀ (p : Addr) (H' : Hp), Same H H' → H p = none → BoxAt H' p → Q (.ref p) H'
theorem scBox : FnScope ["_law_script", "_law_k", "_law_own", "_law_cell", "_law_seed"] ["_law_script", "_law_k", "_law_own"] (defScope sBox) := ⟨rfl, rfl, rfl, by decide +kernel, rfl, by decide +kernel, by decide +kernel⟩
theorem ok_box {f : Addr} {fd : FuncData} (F : Fun K "_law_box" "_law_box" sBox f fd) (T : TxtD mg) : FnOk P w K mg base CX0 1 f fd ["_law_script", "_law_k", "_law_own"] (spBox K) := by
  refine F.ok scBox (fun vs H Q E h => ?_) (fun cdv A outer s H vs Q E hr h => ?_)
  · obtain ⟨a, ns, i, j, rfl, _⟩ := h
    rfl
  · obtain ⟨a, ns, i, j, rfl, hs, i0, i1, j0, j1, hn, k⟩ := h
    refine ⟨_, (pss_cons (ps_set (i := 3) scBox.nd rfl (.inl rfl) (pe_op op_add (pe_op op_add (pe_op op_mul pe_int (pv 1)) (pe_op op_mul pe_int (pv 2))) pe_int))
    (C8.pss_cut (ps_if (pt_cmpR op_lt (pv 1) (pe_callB call_len_seq (by rfl) T.len (by decide +kernel) (pa_cons (pv 0) pa_nil)) (nomark _))
      (pss_one (ps_set (i := 3) scBox.nd rfl (.inl rfl) (pe_callB call_abs (by rfl) T.abs (by decide +kernel) (pa_cons (pe_ix ix_list (pv 0) (pv 1) (fun _ _ => rfl)) pa_nil))))
      (pss_one (ps_if (pt_cmpR op_gt (pe_callB call_len_seq (by rfl) T.len (by decide +kernel) (pa_cons (pv 0) pa_nil)) pe_int (nomark _))
        (pss_one (ps_set (i := 3) scBox.nd rfl (.inl rfl) (pe_op op_add (pv 3) (pe_op op_mul (pe_op op_mod (pe_callTy call_int1 (by rfl) T.int (by decide +kernel) (pa_cons (pe_callB call_abs (by rfl) T.abs (by decide +kernel) (pa_cons (pe_ix ix_list (pv 0) (pe_op op_mod (pe_callTy call_int1 (by rfl) T.int (by decide +kernel) (pa_cons (pv 1) pa_nil)) (pe_callB call_len_seq (by rfl) T.len (by decide +kernel) (pa_cons (pv 0) pa_nil))) (fun _ _ => rfl)) pa_nil)) pa_nil)) pe_int) pe_int))))
        pss_nil)))
    (pss_cons (ps_set (i := 4) scBox.nd rfl (.inl rfl) (pe_op op_add (pe_op op_mod (pe_callTy call_int1 (by rfl) T.int (by decide +kernel) (pa_cons (pe_op op_add (pe_op op_mul (pe_op op_mod (pe_callTy call_int1 (by rfl) T.int (by decide +kernel) (pa_cons (pv 3) pa_nil)) pe_int) pe_int) (pe_op op_mul pe_int (pe_op op_add (pv 1) (pe_op op_mul pe_int (pv 2))))) pa_nil)) pe_int) pe_int))
    (pss_one (ps_ret (pe_lst (pa_cons (pe_ix ix_list (pe_lst (pa_cons pe_int (pa_cons (pv 3) pa_nil))) (pe_callTy call_int1 (by rfl) T.int (by decide +kernel) (pa_cons (pe_cmpR op_ge (pv 3) (pe_op op_pow pe_int pe_int) (nomark _)) pa_nil)) (fun _ _ => rfl)) (pa_cons (pv 4) (pa_cons pe_int pa_nil))))))))), ?_⟩
    refine ⟨_, rfl, _, _, rfl, rfl, .inl ⟨by decide, by decide⟩, _, rfl, _, _, rfl, rfl, .inl ⟨by decide, by decide⟩, _, _, rfl, rfl, _, _, rfl, rfl, ?_⟩
    refine ⟨fun σ' H' => H' = H ∧ ∃ c : Int, σ' = [some (.ref a), some (.int i), some (.int j), some (.int c), none], ?_, ?_⟩
    · have hl : (ns.map V.int).length = ns.length := List.length_map ..
      refine ⟨_, rfl, _, rfl, a, _, rfl, .inl hs, _, _, rfl, rfl, _, rfl, ?_⟩
      refine ite2 (fun h => ?_) (fun h => ?_)
      · have hi : i < (ns.map V.int).length := of_decide_eq_true h
        obtain ⟨z, hz⟩ : ∃ z, (ns.map V.int)[i.toNat]? = some (V.int z) := by
          refine ⟨ns[i.toNat]'(by omega), ?_⟩
          rw [List.getElem?_map, List.getElem?_eq_getElem (by omega)]
          rfl
        exact ⟨_, rfl, _, rfl, a, _, _, _, rfl, rfl, hs, at_of (by omega) hz, _, rfl, rfl, _, rfl⟩
      · refine ⟨_, rfl, a, _, rfl, .inl hs, _, _, rfl, rfl, _, rfl, ?_⟩
        refine ite2 (fun h2 => ?_) (fun _ => ⟨rfl, _, rfl⟩)
        have h2' : (0 : Int) < (ns.map V.int).length := of_decide_eq_true h2
        have m0 := Int.emod_nonneg i (show ((ns.map V.int).length : Int) ≠ 0 by omega)
        have m1 := Int.emod_lt_of_pos i h2'
        obtain ⟨z, hz⟩ : ∃ z, (ns.map V.int)[(i % ((ns.map V.int).length : Int)).toNat]? = some (V.int z) := by
          refine ⟨ns[(i % ((ns.map V.int).length : Int)).toNat]'(by omega), ?_⟩
          rw [List.getElem?_map, List.getElem?_eq_getElem (by omega)]
          rfl
        refine ⟨_, rfl, _, rfl, _, rfl, .inl ⟨_, rfl, _, rfl, a, _, rfl, .inl hs, _, _, rfl, rfl, h2', a, _, _, _, rfl, rfl, hs, at_of (by omega) hz, _, rfl, .inl ⟨_, rfl, _, _, rfl, rfl, (by show (0 : Int) < 2147483629; decide), _, _, rfl, rfl, .inr ⟨by decide, by decide⟩, _, _, rfl, rfl, rfl, _, rfl⟩⟩⟩
    · rintro σ' H' ⟨rfl, c, rfl⟩
      refine ⟨_, rfl, .inl ⟨_, rfl, _, _, rfl, rfl, (by show (0 : Int) < 2147483629; decide), _, _, rfl, rfl, .inr ⟨by decide, by decide⟩, _, rfl, _, rfl, _, _, rfl, rfl, .inl ⟨by decide, by decide⟩, _, _, rfl, rfl, _, _, rfl, rfl, .inl ⟨by decide, by decide⟩, _, _, rfl, rfl, .inl ⟨_, rfl, _, _, rfl, rfl, (by show (0 : Int) < 2147483629; decide), _, _, rfl, rfl, ?_⟩⟩⟩
      refine ⟨_, rfl, (by show 2 ≤ sizeLine; decide), fun l hl => ⟨_, rfl, _, _, rfl, rfl, ⟨by decide, by decide, by decide⟩, _, _, rfl, rfl, .inr ⟨_, rfl, l, _, _, if (decide ((10 : Int) ^ (18 : Int).toNat ≤ c)) = true then V.int c else V.int 0, rfl, rfl, SqL.of upd_same, ?_, ?_⟩⟩⟩
      · cases decide ((10 : Int) ^ (18 : Int).toNat ≤ c) <;> rfl
      · refine ⟨_, rfl, (by show 3 ≤ sizeLine; decide), fun p hp => ?_⟩
        refine k _ _ ((Same.new hl).trans (Same.new hp)) ((Same.new hl).free hp) ⟨_, upd_same, ?_⟩
        by_cases hc : (decide ((10 : Int) ^ (18 : Int).toNat ≤ c)) = true
        · rw [if_pos hc]
          exact ⟨_, _, _, rfl⟩
        · rw [if_neg hc]
          exact ⟨_, _, _, rfl⟩
end
end Lay
set_option Elab.async false
set_option linter.all false
set_option maxRecDepth 100000
set_option maxHeartbeats 4000000
namespace Lay
open PySem L2
/-- the names of the module that must be Python's own -/
structure TxtK (mg : Str → Option Value) : Prop where
  int : mg "int" = none
  bool : mg "bool" = none
  str : mg "str" = none
  list : mg "list" = none
  tuple : mg "tuple" = none
  isinstance : mg "isinstance" = none
  len : mg "len" = none
  all : mg "all" = none
  enumerate : mg "enumerate" = none
theorem TyOf.same {K : PySem.W.Frag} {H H' : Hp} {x : V} {t : Value} (s : Same H H') (h : TyOf K H x t) : TyOf K H' x t := by
  cases h with
  | non => exact .non
  | bl b => exact .bl b
  | int i => exact .int i
  | str z => exact .str z
  | flt z => exact .flt z
  | lst e => exact .lst (s _ _ e)
  | frz e => exact .frz (s _ _ e)
  | tup e => exact .tup (s _ _ e)
  | dK e => exact .dK (s _ _ e)
  | dT e => exact .dT (s _ _ e)
  | ins e cl ha hn htk hm => exact .ins (s _ _ e) cl ha hn htk hm
theorem TyX.same {K : PySem.W.Frag} {H H' : Hp} {x : V} {t : Value} (s : Same H H') (h : TyX K H x t) : TyX K H' x t := by
  cases h with
  | base h => exact .base (TyOf.same s h)
  | byt b => exact .byt b
  | set e => exact .set (s _ _ e)
  | kList e c => exact .kList e c
  | kTuple e c => exact .kTuple e c
  | kDict e c => exact .kDict e c
  | fTuple e => exact .fTuple (s _ _ e)
  | fDict e => exact .fDict (s _ _ e)
/-- isinstance of the built-in class n -/
def IsT (K : PySem.W.Frag) (H : Hp) (x : V) (n : String) (b : Bool) : Prop := ∃ t, TyX K H x t ∧ PySem.W.kitOne K t (.type n) = some b
theorem IsT.same {K : PySem.W.Frag} {H H' : Hp} {x : V} {n : String} {b : Bool} (s : Same H H') (h : IsT K H x n b) : IsT K H' x n b := by
  obtain ⟨t, h1, h2⟩ := h
  exact ⟨t, TyX.same s h1, h2⟩
theorem isT_str {K : PySem.W.Frag} {H : Hp} {z : Str} : IsT K H (.str z) "str" true := ⟨_, .base (.str z), kit_ty (by decide +kernel)⟩
theorem isT_bl {K : PySem.W.Frag} {H : Hp} {z : Bool} : IsT K H (.bl z) "bool" true := ⟨_, .base (.bl z), kit_ty (by decide +kernel)⟩
theorem isT_int {K : PySem.W.Frag} {H : Hp} {z : Int} : IsT K H (.int z) "int" true ∧ IsT K H (.int z) "bool" false := ⟨⟨_, .base (.int z), kit_ty (by decide +kernel)⟩, ⟨_, .base (.int z), kit_ty (by decide +kernel)⟩⟩
/-- is it a list or a tuple -/
def IsSeq (K : PySem.W.Frag) (H : Hp) (x : V) (b : Bool) : Prop := ∃ t, TyX K H x t ∧ PySem.W.kitAny K t [.type "list", .type "tuple"] = some b
theorem IsSeq.same {K : PySem.W.Frag} {H H' : Hp} {x : V} {b : Bool} (s : Same H H') (h : IsSeq K H x b) : IsSeq K H' x b := by
  obtain ⟨t, h1, h2⟩ := h
  exact ⟨t, TyX.same s h1, h2⟩
theorem kitAny_lt {K : PySem.W.Frag} {t : Value} {b c : Bool} (h1 : PySem.W.kitOne K t (.type "list") = some b) (h2 : PySem.W.kitOne K t (.type "tuple") = some c) : PySem.W.kitAny K t [.type "list", .type "tuple"] = some (b || c) := by
  refine kitAny_cons h1 (fun hb => ?_) (fun hb => by rw [hb]; rfl)
  subst hb
  exact kitAny_cons h2 (fun hc => by subst hc; exact kitAny_nil) (fun hc => by rw [hc]; rfl)
/-- what is a list or a tuple of xs -/
def SqX (K : PySem.W.Frag) (H : Hp) (a : Addr) (xs : List V) : Prop := H a = some (.lst xs) ∨ H a = some (.tup xs)
theorem SqX.same {K : PySem.W.Frag} {H H' : Hp} {a : Addr} {xs : List V} (s : Same H H') (h : SqX K H a xs) : SqX K H' a xs := h.imp (s _ _) (s _ _)
theorem SqX.seq {K : PySem.W.Frag} {H : Hp} {a : Addr} {xs : List V} (h : SqX K H a xs) : IsSeq K H (.ref a) true := by
  rcases h with h | h
  · exact ⟨_, .base (.lst h), kitAny_lt (b := true) (c := false) (kit_ty (by decide +kernel)) (kit_ty (by decide +kernel))⟩
  · exact ⟨_, .base (.tup h), kitAny_lt (b := false) (c := true) (kit_ty (by decide +kernel)) (kit_ty (by decide +kernel))⟩
def nameB (z : Str) : Bool := decide (z.length ≤ 6) && (Txt.isascii z && (Txt.isalpha z && Txt.islower z))
theorem nameB_len {z : Str} (h : nameB z = true) : z.length ≤ 6 := of_decide_eq_true (Bool.and_eq_true_iff.mp h).1
/-- whether x is a name -/
def NmB (K : PySem.W.Frag) (H : Hp) (x : V) (b : Bool) : Prop := (∃ z, x = .str z ∧ z.length ≤ sizeLine ∧ b = nameB z) ∨ (b = false ∧ IsT K H x "str" false)
theorem NmB.same {K : PySem.W.Frag} {H H' : Hp} {x : V} {b : Bool} (s : Same H H') (h : NmB K H x b) : NmB K H' x b := h.imp id fun ⟨e, t⟩ => ⟨e, t.same s⟩
def remarkB (z : Str) : Bool := decide (V.str z = V.str "") || nameB z

def spInt (K : PySem.W.Frag) : Sp := fun vs H Q _ => ∃ x b c, vs = [x] ∧ IsT K H x "int" b ∧ IsT K H x "bool" c ∧ Q (.bl (b && !c)) H
def spNum (K : PySem.W.Frag) : Sp := fun vs H Q _ => ∃ (x : V) (m : Int), vs = [x, .int m] ∧ ((∃ i, x = .int i ∧ Q (.bl (decide (0 ≤ i) && decide (i < m))) H) ∨ (∃ b c, IsT K H x "int" b ∧ IsT K H x "bool" c ∧ (b && !c) = false ∧ Q (.bl false) H))
def spSeq (K : PySem.W.Frag) : Sp := fun vs H Q _ => ∃ x b, vs = [x] ∧ IsSeq K H x b ∧ ∀ H', Same H H' → Q (.bl b) H'
def spName (K : PySem.W.Frag) : Sp := fun vs H Q _ => ∃ x b, vs = [x] ∧ NmB K H x b ∧ Q (.bl b) H
/-- the items' answers -/
def NmBs (K : PySem.W.Frag) (H : Hp) (xs : List V) (bs : List Bool) : Prop := bs.length = xs.length ∧ ∀ (i : Nat) (x : V) (b : Bool), xs[i]? = some x → bs[i]? = some b → NmB K H x b
def spNames (K : PySem.W.Frag) : Sp := fun vs H Q _ => ∃ x, vs = [x] ∧ ((IsSeq K H x false ∧ ∀ H', Same H H' → Q (.bl false) H') ∨
  (∃ a xs bs, x = .ref a ∧ SqX K H a xs ∧ xs.length ≤ 1000 ∧ NmBs K H xs bs ∧ ∀ H', Same H H' → Q (.bl (decide (0 < xs.length) && bs.all id)) H'))
def spReq : Sp := fun vs H Q _ => ∃ v, vs = [.bl true, v] ∧ Q .non H
def spRem (K : PySem.W.Frag) : Sp := fun vs H Q _ => ∃ x, vs = [x] ∧ ((∃ z, x = .str z ∧ z.length ≤ sizeLine ∧ Q (.bl (remarkB z)) H) ∨ (IsT K H x "str" false ∧ Q (.bl false) H))
abbrev sInt : Stmt := top 10
abbrev sNum : Stmt := top 11
abbrev sSeq : Stmt := top 12
abbrev sName : Stmt := top 13
abbrev sNames : Stmt := top 14
abbrev sReq : Stmt := top 16
abbrev sRem : Stmt := top 17
section
variable {P : Program} {w : World} {K : PySem.W.Frag} {mg : Str → Option Value} {base : Heap}
theorem scInt : FnScope ["value"] ["value"] (defScope sInt) := ⟨rfl, rfl, rfl, by decide +kernel, rfl, by decide +kernel, by decide +kernel⟩
theorem ok_int {f : Addr} {fd : FuncData} (F : Fun K "is_integer" "is_integer" sInt f fd) (T : TxtK mg) : FnOk P w K mg base CX0 1 f fd ["value"] (spInt K) := by
  refine F.ok scInt (fun vs H Q E h => ?_) (fun cdv A outer s H vs Q E hr h => ?_)
  · obtain ⟨x, b, c, rfl, _⟩ := h
    rfl
  · obtain ⟨x, b, c, rfl, ⟨t, ty, e⟩, ⟨t', ty', e'⟩, k⟩ := h
    refine ⟨_, (pss_one (ps_ret (pe_and (pe_callB call_isi (by rfl) T.isinstance (by decide +kernel) (pa_cons (pv 0) (pa_cons (pe_bltn (v := .ty "int") (by rfl) T.int (by decide +kernel) rfl) pa_nil))) (pe_one (pe_not (pe_callB call_isi (by rfl) T.isinstance (by decide +kernel) (pa_cons (pv 0) (pa_cons (pe_bltn (v := .ty "bool") (by rfl) T.bool (by decide +kernel) rfl) pa_nil)))))))), ?_⟩
    refine ⟨_, rfl, _, _, _, _, _, rfl, .ty _, ty, e, _, rfl, ?_⟩
    refine ite2 (fun hb => ?_) (fun hb => ?_)
    · subst hb
      exact ⟨_, rfl, _, _, _, _, _, rfl, .ty _, ty', e', _, rfl, k⟩
    · have : b = false := by simpa using hb
      subst this
      exact k
theorem scNum : FnScope ["value", "many"] ["value", "many"] (defScope sNum) := ⟨rfl, rfl, rfl, by decide +kernel, rfl, by decide +kernel, by decide +kernel⟩
theorem ok_num {f fI : Addr} {fd fdI : FuncData} (F : Fun K "is_number" "is_number" sNum f fd) (GI : FnOk P w K mg base CX0 1 fI fdI ["value"] (spInt K)) (gI : mg "is_integer" = some (.ref fI)) (kI : PySem.W.keepIn K (.ref fI) = true) (bI : Binds K fdI ["value"] []) :
    FnOk P w K mg base CX0 2 f fd ["value", "many"] (spNum K) := by
  refine F.ok scNum (fun vs H Q E h => ?_) (fun cdv A outer s H vs Q E hr h => ?_)
  · obtain ⟨x, m, rfl, _⟩ := h
    rfl
  · obtain ⟨x, m, rfl, h⟩ := h
    refine ⟨_, (pss_one (ps_ret (pe_and (pe_call GI hr (by rfl) gI kI bI .nil pass0 (pa_cons (pv 0) pa_nil)) (pe_one (pe_chain op_le op_lt pe_int (pv 0) (pv 1)))))), ?_⟩
    rcases h with ⟨i, rfl, k⟩ | ⟨b, c, h1, h2, h3, k⟩
    · refine ⟨_, rfl, _, true, false, rfl, isT_int.1, isT_int.2, _, rfl, ?_⟩
      refine ⟨_, rfl, _, _, rfl, rfl, _, rfl, ?_⟩
      refine ite2 (fun hb => ?_) (fun hb => ?_)
      · refine ⟨_, rfl, _, _, rfl, rfl, ?_⟩
        rw [hb, Bool.true_and] at k
        exact k
      · have : decide (0 ≤ i) = false := by simpa using hb
        rw [this, Bool.false_and] at k
        exact k
    · refine ⟨_, rfl, _, b, c, rfl, h1, h2, _, rfl, ?_⟩
      rw [h3]
      exact k
theorem scSeq : FnScope ["value"] ["value"] (defScope sSeq) := ⟨rfl, rfl, rfl, by decide +kernel, rfl, by decide +kernel, by decide +kernel⟩
theorem ok_seq {f : Addr} {fd : FuncData} (F : Fun K "is_sequence" "is_sequence" sSeq f fd) (T : TxtK mg) : FnOk P w K mg base CX0 1 f fd ["value"] (spSeq K) := by
  refine F.ok scSeq (fun vs H Q E h => ?_) (fun cdv A outer s H vs Q E hr h => ?_)
  · obtain ⟨x, b, rfl, _⟩ := h
    rfl
  · obtain ⟨x, b, rfl, ⟨t, ty, e⟩, k⟩ := h
    refine ⟨_, (pss_one (ps_ret (pe_callB call_isiT (by rfl) T.isinstance (by decide +kernel) (pa_cons (pv 0) (pa_cons (pe_tup (pa_cons (pe_bltn (v := .ty "list") (by rfl) T.list (by decide +kernel) rfl) (pa_cons (pe_bltn (v := .ty "tuple") (by rfl) T.tuple (by decide +kernel) rfl) pa_nil))) pa_nil))))), ?_⟩
    refine ⟨_, rfl, (by show 2 ≤ sizeLine; decide), fun p hp => ?_⟩
    exact ⟨x, p, _, t, _, b, rfl, upd_same, .cons (.ty _) (.cons (.ty _) .nil), TyX.same (Same.new hp) ty, e, k _ (Same.new hp)⟩
theorem scName : FnScope ["value"] ["value"] (defScope sName) := ⟨rfl, rfl, rfl, by decide +kernel, rfl, by decide +kernel, by decide +kernel⟩
theorem ok_name {f : Addr} {fd : FuncData} (F : Fun K "is_name" "is_name" sName f fd) (T : TxtK mg) : FnOk P w K mg base CX0 1 f fd ["value"] (spName K) := by
  refine F.ok scName (fun vs H Q E h => ?_) (fun cdv A outer s H vs Q E hr h => ?_)
  · obtain ⟨x, b, rfl, _⟩ := h
    rfl
  · obtain ⟨x, b, rfl, h, k⟩ := h
    refine ⟨_, (pss_cons (ps_if (pt_not (pt_val (pe_callB call_isi (by rfl) T.isinstance (by decide +kernel) (pa_cons (pv 0) (pa_cons (pe_bltn (v := .ty "str") (by rfl) T.str (by decide +kernel) rfl) pa_nil)))))
      (pss_one (ps_ret pe_bl))
      pss_nil)
    (pss_one (ps_ret (pe_and (pe_cmpR op_le (pe_callB call_len_str (by rfl) T.len PySem.boot_len (pa_cons (pv 0) pa_nil)) pe_int (nomark _)) (pe_and (pe_m0 PySem.F.slot_str_isascii PySem.F.type_str_isascii mt_isascii (pv 0)) (pe_and (pe_m0 PySem.F.slot_str_isalpha PySem.F.type_str_isalpha mt_isalpha (pv 0)) (pe_one (pe_m0 PySem.F.slot_str_islower PySem.F.type_str_islower mt_islower (pv 0))))))))), ?_⟩
    rcases h with ⟨z, rfl, hz, rfl⟩ | ⟨rfl, t, ty, e⟩
    · obtain ⟨t, ty, e⟩ := isT_str (K := K) (H := H) (z := z)
      refine ⟨_, rfl, _, _, _, _, _, rfl, .ty _, ty, e, _, rfl, ?_⟩
      refine ⟨_, rfl, _, rfl, hz, _, _, rfl, rfl, _, rfl, ?_⟩
      have e0 : decide (((z.length : Nat) : Int) ≤ 6) = decide (z.length ≤ 6) := by
        by_cases q : z.length ≤ 6
        · rw [decide_eq_true q, decide_eq_true (by omega)]
        · rw [decide_eq_false q, decide_eq_false (by omega)]
      unfold nameB at k
      refine ite2 (fun h1 => ?_) (fun h1 => ?_)
      · rw [e0] at h1
        rw [h1, Bool.true_and] at k
        refine ⟨_, rfl, ⟨_, rfl⟩, _, rfl, rfl, trivial, _, rfl, ?_⟩
        refine ite2 (fun h2 => ?_) (fun h2 => ?_)
        · rw [h2, Bool.true_and] at k
          refine ⟨_, rfl, ⟨_, rfl⟩, _, rfl, rfl, trivial, _, rfl, ?_⟩
          refine ite2 (fun h3 => ?_) (fun h3 => ?_)
          · rw [h3, Bool.true_and] at k
            exact ⟨_, rfl, ⟨_, rfl⟩, _, rfl, rfl, trivial, k⟩
          · have : Txt.isalpha z = false := by simpa using h3
            rw [this, Bool.false_and] at k
            exact k
        · have : Txt.isascii z = false := by simpa using h2
          rw [this, Bool.false_and] at k
          exact k
      · rw [e0] at h1
        have : decide (z.length ≤ 6) = false := by simpa using h1
        rw [this, Bool.false_and] at k
        exact k
    · exact ⟨_, rfl, _, _, _, _, _, rfl, .ty _, ty, e, _, rfl, k⟩
theorem scNames : FnScope ["value", "one"] ["value"] (defScope sNames) := ⟨rfl, rfl, rfl, by decide +kernel, rfl, by decide +kernel, by decide +kernel⟩
theorem ok_names {f fS fN : Addr} {fd fdS fdN : FuncData} (F : Fun K "are_names" "are_names" sNames f fd) (T : TxtK mg) (GS : FnOk P w K mg base CX0 1 fS fdS ["value"] (spSeq K)) (gS : mg "is_sequence" = some (.ref fS)) (kS : PySem.W.keepIn K (.ref fS) = true) (bS : Binds K fdS ["value"] [])
    (GN : FnOk P w K mg base CX0 1 fN fdN ["value"] (spName K)) (gN : mg "is_name" = some (.ref fN)) (kN : PySem.W.keepIn K (.ref fN) = true) (bN : Binds K fdN ["value"] []) : FnOk P w K mg base CX0 2 f fd ["value"] (spNames K) := by
  refine F.ok scNames (fun vs H Q E h => ?_) (fun cdv A outer s H vs Q E hr h => ?_)
  · obtain ⟨x, rfl, _⟩ := h
    rfl
  · obtain ⟨x, rfl, h⟩ := h
    rcases h with ⟨h, k⟩ | ⟨a, xs, bs, rfl, hx, hl, hb, k⟩
    · refine ⟨_, (pss_cons (ps_if (pt_not (pt_val (pe_call GS hr (by rfl) gS kS bS .nil pass0 (pa_cons (pv 0) pa_nil)))) (pss_one (ps_ret pe_bl)) pss_nil) pss_never), ?_⟩
      exact ⟨_, rfl, _, false, rfl, h, fun H' s => ⟨_, rfl, k H' s⟩⟩
    · have fin : ∀ H1 l, Same H H1 → H1 l = some (.lst (bs.map V.bl)) → (Q (.bl (bs.all id)) H1 ↔ Q (.bl (bs.all id)) H1) := fun _ _ _ _ => Iff.rfl
      have turn : ∀ {G : Hp} {D : Addr} {i : Nat} {x : V}, Same H G → xs[i]? = some x → ∃ b, bs[i]? = some b ∧ NmB K G x b := fun {G D i x} s hi => by
        have li := (List.getElem?_eq_some_iff.mp hi).1
        rw [← hb.1] at li
        exact ⟨bs[i], by simp [li], (hb.2 i x _ hi (by simp [li])).same s⟩
      rcases hx with hx | hx
      · refine ⟨_, (pss_cons (ps_if (pt_not (pt_val (pe_call GS hr (by rfl) gS kS bS .nil pass0 (pa_cons (pv 0) pa_nil)))) (pss_one (ps_ret pe_bl)) pss_nil)
          (pss_one (ps_ret (pe_and (pe_cmpR op_gt (pe_callB call_len_seq (by rfl) T.len PySem.boot_len (pa_cons (pv 0) pa_nil)) pe_int (nomark _)) (pe_one (pe_callB (cr_all rfl) (by rfl) T.all (by decide +kernel) (pa_cons
            (pe_lc (own := [("one", 1)]) (g := gName 1) (tt := tYes) (by rfl) scNames.nd (pi_list (pv 0)) (blkOk_by (N := ["value", "one"]) (sc := defScope sNames) (by decide +kernel)) (fun _ _ _ _ _ => pg_name (i := 1) scNames.nd rfl (Or.inl rfl)) (fun _ _ _ _ _ => pts_nil) (fun _ _ _ _ _ => pe_call GN hr (by rfl) gN kN bN .nil pass0 (pa_cons (pv 1) pa_nil))) pa_nil))))))), ?_⟩
        refine ⟨_, rfl, _, true, rfl, SqX.seq (.inl hx), fun H1 s1 => ⟨_, rfl, ?_⟩⟩
        refine ⟨_, rfl, a, xs, rfl, .inl (SqL.of (s1 _ _ hx)), _, _, rfl, rfl, _, rfl, ?_⟩
        have e0 : decide (((xs.length : Nat) : Int) > 0) = decide (0 < xs.length) := by
          by_cases q : 0 < xs.length
          · rw [decide_eq_true q, decide_eq_true (by omega)]
          · rw [decide_eq_false q, decide_eq_false (by omega)]
        refine ite2 (fun h1 => ?_) (fun h1 => ?_)
        · have h2 : decide (0 < xs.length) = true := by rw [← e0]; exact h1
          rw [h2] at k
          refine ⟨_, rfl, a, rfl, ⟨_, SqL.of (s1 _ _ hx)⟩, fun D nD => lc_list (K := K) (a := a) (xs := xs) (fun i G => Same H1 G ∧ G D = some (.lst ((bs.take i).map V.bl))) ⟨Same.new nD, upd_same⟩ (fun i G _ q => SqL.of (q.1 _ _ (s1 _ _ hx))) ?_ ?_⟩
          · rintro i x G hi ⟨sG, hD⟩
            obtain ⟨b, eb, nb⟩ := turn (D := D) (s1.trans sG) hi
            refine ⟨rfl, _, rfl, x, b, rfl, nb, _, hD, ?_, fun c u e => by rw [upd_ne (ne_of_none e nD)]; exact sG _ _ e, ?_⟩
            · rw [List.length_map, List.length_take]
              have : i < xs.length := (List.getElem?_eq_some_iff.mp hi).1
              exact small1000 (by omega)
            · rw [upd_same, List.take_succ, eb, List.map_append]
              rfl
          · rintro G ⟨sG, hD⟩
            refine ⟨D, bs, rfl, ?_, ?_⟩
            · rw [← hb.1, List.take_length] at hD
              exact SqL.of hD
            · exact k G (s1.trans sG)
        · have h2 : decide (0 < xs.length) = false := by rw [← e0]; simpa using h1
          rw [h2] at k
          exact k H1 s1
      · refine ⟨_, (pss_cons (ps_if (pt_not (pt_val (pe_call GS hr (by rfl) gS kS bS .nil pass0 (pa_cons (pv 0) pa_nil)))) (pss_one (ps_ret pe_bl)) pss_nil)
          (pss_one (ps_ret (pe_and (pe_cmpR op_gt (pe_callB call_len_seq (by rfl) T.len PySem.boot_len (pa_cons (pv 0) pa_nil)) pe_int (nomark _)) (pe_one (pe_callB (cr_all rfl) (by rfl) T.all (by decide +kernel) (pa_cons
            (pe_lc (own := [("one", 1)]) (g := gName 1) (tt := tYes) (by rfl) scNames.nd (pi_tup (pv 0)) (blkOk_by (N := ["value", "one"]) (sc := defScope sNames) (by decide +kernel)) (fun _ _ _ _ _ => pg_name (i := 1) scNames.nd rfl (Or.inl rfl)) (fun _ _ _ _ _ => pts_nil) (fun _ _ _ _ _ => pe_call GN hr (by rfl) gN kN bN .nil pass0 (pa_cons (pv 1) pa_nil))) pa_nil))))))), ?_⟩
        refine ⟨_, rfl, _, true, rfl, SqX.seq (.inr hx), fun H1 s1 => ⟨_, rfl, ?_⟩⟩
        refine ⟨_, rfl, a, xs, rfl, .inr (SqT.of (s1 _ _ hx)), _, _, rfl, rfl, _, rfl, ?_⟩
        have e0 : decide (((xs.length : Nat) : Int) > 0) = decide (0 < xs.length) := by
          by_cases q : 0 < xs.length
          · rw [decide_eq_true q, decide_eq_true (by omega)]
          · rw [decide_eq_false q, decide_eq_false (by omega)]
        refine ite2 (fun h1 => ?_) (fun h1 => ?_)
        · have h2 : decide (0 < xs.length) = true := by rw [← e0]; exact h1
          rw [h2] at k
          refine ⟨_, rfl, a, rfl, ⟨_, SqT.of (s1 _ _ hx)⟩, fun D nD => lc_tup (K := K) (a := a) (xs := xs) (fun i G => Same H1 G ∧ G D = some (.lst ((bs.take i).map V.bl))) ⟨Same.new nD, upd_same⟩ (fun i G _ q => SqT.of (q.1 _ _ (s1 _ _ hx))) ?_ ?_⟩
          · rintro i x G hi ⟨sG, hD⟩
            obtain ⟨b, eb, nb⟩ := turn (D := D) (s1.trans sG) hi
            refine ⟨rfl, _, rfl, x, b, rfl, nb, _, hD, ?_, fun c u e => by rw [upd_ne (ne_of_none e nD)]; exact sG _ _ e, ?_⟩
            · rw [List.length_map, List.length_take]
              have : i < xs.length := (List.getElem?_eq_some_iff.mp hi).1
              exact small1000 (by omega)
            · rw [upd_same, List.take_succ, eb, List.map_append]
              rfl
          · rintro G ⟨sG, hD⟩
            refine ⟨D, bs, rfl, ?_, ?_⟩
            · rw [← hb.1, List.take_length] at hD
              exact SqL.of hD
            · exact k G (s1.trans sG)
        · have h2 : decide (0 < xs.length) = false := by rw [← e0]; simpa using h1
          rw [h2] at k
          exact k H1 s1
theorem scReq : FnScope ["holds", "word"] ["holds", "word"] (defScope sReq) := ⟨rfl, rfl, rfl, by decide +kernel, rfl, by decide +kernel, by decide +kernel⟩
/-- require, where what is asked holds -/
theorem ok_req {f : Addr} {fd : FuncData} (F : Fun K "require" "require" sReq f fd) : FnOk P w K mg base CX0 1 f fd ["holds", "word"] spReq := by
  refine F.ok scReq (fun vs H Q E h => ?_) (fun cdv A outer s H vs Q E hr h => ?_)
  · obtain ⟨v, rfl, _⟩ := h
    rfl
  · obtain ⟨v, rfl, k⟩ := h
    exact ⟨_, pss_one (ps_if (pt_not (pt_val (pv 0))) pss_never pss_nil), _, rfl, _, rfl, k⟩
theorem scRem : FnScope ["value"] ["value"] (defScope sRem) := ⟨rfl, rfl, rfl, by decide +kernel, rfl, by decide +kernel, by decide +kernel⟩
theorem ok_rem {f fN : Addr} {fd fdN : FuncData} (F : Fun K "is_remark" "is_remark" sRem f fd) (T : TxtK mg) (GN : FnOk P w K mg base CX0 1 fN fdN ["value"] (spName K)) (gN : mg "is_name" = some (.ref fN)) (kN : PySem.W.keepIn K (.ref fN) = true) (bN : Binds K fdN ["value"] []) :
    FnOk P w K mg base CX0 2 f fd ["value"] (spRem K) := by
  refine F.ok scRem (fun vs H Q E h => ?_) (fun cdv A outer s H vs Q E hr h => ?_)
  · obtain ⟨x, rfl, _⟩ := h
    rfl
  · obtain ⟨x, rfl, h⟩ := h
    refine ⟨_, (pss_one (ps_ret (pe_and (pe_callB call_isi (by rfl) T.isinstance (by decide +kernel) (pa_cons (pv 0) (pa_cons (pe_bltn (v := .ty "str") (by rfl) T.str (by decide +kernel) rfl) pa_nil))) (pe_one (pe_or (pe_cmpR op_eq (pv 0) pe_str (nomark _)) (pe_one (pe_call GN hr (by rfl) gN kN bN .nil pass0 (pa_cons (pv 0) pa_nil)))))))), ?_⟩
    rcases h with ⟨z, rfl, hz, k⟩ | ⟨⟨t, ty, e⟩, k⟩
    · obtain ⟨t, ty, e⟩ := isT_str (K := K) (H := H) (z := z)
      refine ⟨_, rfl, _, _, _, _, _, rfl, .ty _, ty, e, _, rfl, ?_⟩
      refine ⟨_, rfl, rfl, _, rfl, ?_⟩
      unfold remarkB at k
      refine ite2 (fun h1 => ?_) (fun h1 => ?_)
      · rw [h1] at k
        exact k
      · have : decide (V.str z = V.str "") = false := by simpa using h1
        rw [this, Bool.false_or] at k
        exact ⟨_, rfl, _, _, rfl, .inl ⟨z, rfl, hz, rfl⟩, k⟩
    · exact ⟨_, rfl, _, _, _, _, _, rfl, .ty _, ty, e, _, rfl, k⟩
end
end Lay
set_option Elab.async false
set_option linter.all false
set_option maxRecDepth 100000
set_option maxHeartbeats 4000000
set_option pp.maxSteps 700
namespace Lay
open PySem PySem.Spec PyProof.Rows L2
theorem iteN {c : Bool} {A B : Prop} (h : c = false) (x : B) : if c = true then A else B := by
  rw [if_neg (by rw [h]; exact Bool.false_ne_true)]
  exact x
theorem iteY {c : Bool} {A B : Prop} (h : c = true) (x : A) : if c = true then A else B := by
  rw [if_pos h]
  exact x
theorem same_put {H H1 : Hp} {p : Addr} {o : HO} (s : Same H H1) (n : H p = none) : Same H (upd H1 p o) := fun b u e => by
  rw [upd_ne (ne_of_none e n)]
  exact s _ _ e
theorem fits {n : Nat} (h : n ≤ 1000) : n ≤ sizeLine := Nat.le_trans h (by decide)
theorem made_same {x dx : Addr} {H H' : Hp} {o : HO} (hx : H x = none) (hd : H dx = none) (k : Kept x (upd (upd H dx (.own x)) x o) H') : Same H H' := fun b u e => k b u (ne_of_none e hx) (by rw [upd_ne (ne_of_none e hx), upd_ne (ne_of_none e hd)]; exact e)
theorem fresh_own {H : Hp} {p d : Addr} {o : HO} (np : H p = none) (ne : d ≠ p) : upd H d o p = none := by
  rw [upd_ne (Ne.symm ne)]
  exact np
theorem Same.rfl {H : Hp} : Same H H := fun _ _ e => e
/-! defs by their names -/
/-- the module's names that must be Python's own -/
structure Bt (mg : Str → Option Value) : Prop where
  int : mg "int" = none
  bool : mg "bool" = none
  str : mg "str" = none
  list : mg "list" = none
  tuple : mg "tuple" = none
  dict : mg "dict" = none
  isinstance : mg "isinstance" = none
  len : mg "len" = none
  all : mg "all" = none
  any : mg "any" = none
  abs : mg "abs" = none
  range : mg "range" = none
  enumerate : mg "enumerate" = none
  zip : mg "zip" = none
  max : mg "max" = none
  min : mg "min" = none
  repr : mg "repr" = none
  sorted : mg "sorted" = none
/-- the def n as it stands behind the top -/
def Dfn (K : PySem.W.Frag) (mg : Str → Option Value) (n : Str) (st : Stmt) (ps : List Str) : Prop := ∃ f fd, Fun K n n st f fd ∧ mg n = some (.ref f) ∧ Binds K fd ps []
/-- the def n keeps a promise -/
def Has (P : Program) (w : World) (K : PySem.W.Frag) (mg : Str → Option Value) (base : Heap) (CX : CXT) (k : Nat) (n : Str) (ps : List Str) (sp : Sp) : Prop :=
  ∃ f fd, FnOk P w K mg base CX k f fd ps sp ∧ mg n = some (.ref f) ∧ PySem.W.keepIn K (.ref f) = true ∧ Binds K fd ps []
section
variable {P : Program} {w : World} {K : PySem.W.Frag} {mg : Str → Option Value} {base : Heap} {n : Str} {st : Stmt} {N ps : List Str} {k : Nat} {sp : Sp}
theorem Dfn.has (D : Dfn K mg n st ps) (S : FnScope N ps (defScope st)) (len : ∀ vs H Q E, sp vs H Q E → vs.length = ps.length)
    (hbody : ∀ (f : Addr) (cdv : Value) (A : Around) (outer : List Env) (s : Shared) (H : Hp) (vs : List V) (Q : VK) (E : XK), Room k (A.deeper (envOfC n (defScope st) s.heap.objs.size f cdv)) → sp vs H Q E →
      ∃ t, PSs (cxOf CX0 P w K mg base N n (defScope st) f cdv A outer s H E).nox (defBody st) t ∧ t { nx := fun _ H' => Q .non H', rt := Q } (start N vs) H) : Has P w K mg base CX0 (k + 1) n ps sp := by
  obtain ⟨f, fd, F, g, b⟩ := D
  exact ⟨f, fd, F.ok S len (hbody f), g, F.kp, b⟩
theorem Dfn.hasX (D : Dfn K mg n st ps) (S : FnScope N ps (defScope st)) (len : ∀ vs H Q E, sp vs H Q E → vs.length = ps.length)
    (hbody : ∀ (f : Addr) (cdv : Value) (A : Around) (outer : List Env) (s : Shared) (H : Hp) (vs : List V) (Q : VK) (E : XK), Room k (A.deeper (envOfC n (defScope st) s.heap.objs.size f cdv)) → sp vs H Q E →
      ∃ t, PSs (cxOf (L2.CX P w) P w K mg base N n (defScope st) f cdv A outer s H E) (defBody st) t ∧ t { nx := fun _ H' => Q .non H', rt := Q } (start N vs) H) : Has P w K mg base (L2.CX P w) (k + 1) n ps sp := by
  obtain ⟨f, fd, F, g, b⟩ := D
  exact ⟨f, fd, F.okX S len (hbody f), g, F.kp, b⟩
theorem Has.mono {CX : CXT} {j : Nat} (h : Has P w K mg base CX j n ps sp) (l : j ≤ k) : Has P w K mg base CX k n ps sp := by
  obtain ⟨f, fd, F, r⟩ := h
  exact ⟨f, fd, F.mono l, r⟩
theorem Has.imp {CX : CXT} {sp' : Sp} (h : Has P w K mg base CX k n ps sp) (i : ∀ vs H Q E, sp' vs H Q E → sp vs H Q E) : Has P w K mg base CX k n ps sp' := by
  obtain ⟨f, fd, F, r⟩ := h
  exact ⟨f, fd, F.imp i, r⟩
end
section
variable {X : Cx} {CX : CXT} {k : Nat} {ps : List Str} {sp : Sp} {E : XK} {n : Str} {p pos : Pos} {e : Expr} {es : List Expr} {t : TA}
theorem pe_callH (D : Has X.prog X.w X.K X.mg X.base CX k n ps sp) (hr : Room k X.A) (hg : Gl X n) (hx : Passes CX X E) (ha : PA X (e :: es) t) (hdb : (n == ("__debug__" : Str)) = false := by decide)
    (he : starEach (e :: es) X.env = (false, eval e X.env) :: starEach es X.env := by rfl) (hpl : (backTo pos (starEach es X.env)).any (·.1) = false := by rfl) : PE X (.Call (.Name n p) (e :: es) [] pos) (tCall sp [] E t) := by
  obtain ⟨f, fd, F, g, kp, b⟩ := D
  exact pe_call F hr hg g kp b .nil hx ha hdb he hpl
theorem pe_callH0 (D : Has X.prog X.w X.K X.mg X.base CX k n ps sp) (hr : Room k X.A) (hg : Gl X n) (hx : Passes CX X E) (hdb : (n == ("__debug__" : Str)) = false := by decide) : PE X (.Call (.Name n p) [] [] pos) (tCall sp [] E tNil) := by
  obtain ⟨f, fd, F, g, kp, b⟩ := D
  exact pe_call0 F hr hg g kp b .nil hx hdb
end
section
variable {X : Cx}
/-- xs == [], any xs -/
theorem op_eqNil (hu : X.A.units + 64 < cLine) : OpR X (compareOp .Eq) (fun x y H Q => ∃ a b xs, x = .ref a ∧ y = .ref b ∧ SqL X.K H a xs ∧ H b = some (.lst []) ∧ Q (.bl xs.isEmpty) H) := by
  intro pins s σ H x y v u Q I rx ry h
  obtain ⟨a, b, xs, rfl, rfl, ha, hb, q⟩ := h
  cases xs with
  | nil => exact op_eqD hu pins s σ H _ _ v u Q I rx ry ⟨.list [], .list [], .lst ha .nil, .lst (SqL.of hb) .nil, rfl, rfl, q⟩
  | cons z zs =>
    cases rx
    cases ry
    obtain ⟨its, r, p1, _⟩ := I.list ha
    obtain ⟨its2, r2, p2, _⟩ := I.list (SqL.of hb)
    cases r2
    refine SeqAt.eq_list_lengthsAt p1.isList p2.isList ?_ (by omega) ⟨.bl false, H, I, rfl, q⟩
    cases r
    rfl
end
/-! rules that name K -/
def rLenK (K : PySem.W.Frag) : List V → Hp → VK → Prop := fun xs H Q => ∃ p ys, xs = [.ref p] ∧ (SqL K H p ys ∨ SqT K H p ys) ∧ Q (.int ys.length) H
section
variable {X : Cx} {K : PySem.W.Frag}
theorem call_lenK (hK : X.K = K) : CallR X (.builtin "len") (rLenK K) := by
  subst hK
  exact call_len_seq
theorem call_isiK (hK : X.K = K) : CallR X (.builtin "isinstance") (rIsi K) := by
  subst hK
  exact call_isi
theorem call_isiTK (hK : X.K = K) : CallR X (.builtin "isinstance") (rIsiT K) := by
  subst hK
  exact call_isiT
theorem ix_listK (hK : X.K = K) : IxR X (rIxL K) := by
  subst hK
  exact ix_list
theorem op_inK (hK : X.K = K) : OpR X (compareOp .In) (rIn K false) := by
  subst hK
  exact op_in_seq
theorem op_notInK (hK : X.K = K) : OpR X (compareOp .NotIn) (rIn K true) := by
  subst hK
  exact op_notIn_seq
end
/-! a list or a tuple, walked -/
def SqK (K : PySem.W.Frag) (k : Bool) (H : Hp) (a : Addr) (xs : List V) : Prop := match k with
  | false => SqL K H a xs
  | true => SqT K H a xs
theorem SqK.same {K : PySem.W.Frag} {k : Bool} {H H' : Hp} {a : Addr} {xs : List V} (e : Same H H') (h : SqK K k H a xs) : SqK K k H' a xs := by
  cases k with
  | false =>
    rcases h with (h | ⟨o, h⟩) | h
    · exact .inl (.inl (e _ _ h))
    · exact .inl (.inr ⟨o, e _ _ h⟩)
    · exact .inr h
  | true =>
    rcases h with (h | ⟨o, h⟩) | h
    · exact .inl (.inl (e _ _ h))
    · exact .inl (.inr ⟨o, e _ _ h⟩)
    · exact .inr h
def iSq (K : PySem.W.Frag) (te : TE) : TI := fun σ H R => te σ H fun x H1 => ∃ (a : Addr) (xs : List V) (k : Bool), x = .ref a ∧ SqK K k H1 a xs ∧ ∀ J, Walk J xs.length (fun G => SqK K k G a xs) (YAt xs) → R J H1
theorem pi_sq {X : Cx} {K : PySem.W.Frag} (hK : X.K = K) {l tg : Expr} {te : TE} (hl : PE X l te) : PI X tg l (iSq K te) := by
  subst hK
  refine ⟨fun pins s σ H R I h => thn (hl.run pins s σ H _ I h) fun v s1 ⟨x, H1, I1, r1, a, xs, k, e, hq, q⟩ => ?_⟩
  subst e
  cases r1
  have done : ∀ b ∈ [s1.heap.objs.size], FpOk X pins H1 b := fun b hb => by
    rw [List.mem_singleton.mp hb]
    exact I1.fpOk (Nat.le_refl _) (I1.hok.fresh (Nat.le_refl _))
  cases k with
  | false =>
    obtain ⟨its, rv, p, hz⟩ := I1.list hq
    have q := q _ walk_list
    refine wpAny_pyIter_list p.isList ?_
    exact ⟨s1.heap.objs.size, [s1.heap.objs.size], _, _, H1, rfl, I1.kept (t' := s1.toks) fun b o e => Heap.get?_push_of_some _ e, turn_list a _, ⟨_, Heap.get?_push_size _ rfl, rfl, rfl⟩, done, q⟩
  | true =>
    obtain ⟨its, rv, p, hz⟩ := I1.tuple hq
    have q := q _ walk_tup
    refine wpAny_pyIter_tuple (show s1.heap.IsTuple a its.toArray from p) ?_
    exact ⟨s1.heap.objs.size, [s1.heap.objs.size], _, _, H1, rfl, I1.kept (t' := s1.toks) fun b o e => Heap.get?_push_of_some _ e, turn_tuple a _, ⟨_, Heap.get?_push_size _ rfl, rfl, rfl⟩, done, q⟩
/-! names, sign by sign -/
def az (c : Nat) : Bool := decide (97 ≤ c) && decide (c ≤ 122)
theorem az_iff {c : Nat} : az c = true ↔ 97 ≤ c ∧ c ≤ 122 := by
  unfold az
  rw [Bool.and_eq_true, decide_eq_true_iff, decide_eq_true_iff]
theorem ch128 : ∀ c, c < 128 → (Unicode.isAlpha c && !(Unicode.isUpper c || Unicode.isTitle c)) = az c ∧ (az c = true → Unicode.isLower c = true) := by decide +kernel
theorem nameB_eq (z : Str) : nameB z = (decide (z.length ≤ 6) && (decide (0 < z.length) && z.cps.all az)) := by
  unfold nameB Txt.isascii Txt.isalpha Txt.islower
  congr 1
  apply Bool.eq_iff_iff.mpr
  simp only [Bool.and_eq_true, decide_eq_true_iff, Array.all_eq_true', Array.any_eq_true', Bool.not_eq_true', Array.any_eq_false', gt_iff_lt]
  constructor
  · rintro ⟨h1, ⟨h2, h3⟩, _, h5⟩
    refine ⟨h2, fun c hc => ?_⟩
    rw [← (ch128 c (h1 c hc)).1, Bool.and_eq_true]
    refine ⟨h3 c hc, ?_⟩
    have := h5 c hc
    simpa using this
  · rintro ⟨h2, h3⟩
    have lt : ∀ c, c ∈ z.cps → c < 128 := fun c hc => by
      have := (az_iff.mp (h3 c hc)).2
      omega
    refine ⟨lt, ⟨h2, fun c hc => ?_⟩, ?_, fun c hc => ?_⟩
    · have := (ch128 c (lt c hc)).1
      rw [h3 c hc, Bool.and_eq_true] at this
      exact this.1
    · have h0 : 0 < z.cps.size := h2
      exact ⟨z.cps[0], Array.getElem_mem h0, (ch128 _ (lt _ (Array.getElem_mem h0))).2 (h3 _ (Array.getElem_mem h0))⟩
    · have := (ch128 c (lt c hc)).1
      rw [h3 c hc, Bool.and_eq_true] at this
      simpa using this.2
def alphaS : Str := "abcdefghijklmnopqrstuvwxyz"
theorem alpha_list : alphaS.cps.toList = List.range' 97 26 := by decide +kernel
theorem mem_alpha {c : Nat} : decide (c ∈ alphaS.cps.toList) = az c := by
  rw [alpha_list]
  apply Bool.eq_iff_iff.mpr
  rw [decide_eq_true_iff, List.mem_range'_1, az_iff]
  omega
end Lay
set_option Elab.async false
set_option linter.all false
set_option maxRecDepth 100000
set_option maxHeartbeats 4000000
namespace Lay
open PySem L2
/-- what a piece is made of -/
structure PD where
  word : Str
  parts : List Str
  broken : Bool
  marked : Bool
  ahead : Str
  behind : Str
  blanks : Int
  left : Bool
structure PD.Ok (d : PD) : Prop where
  word : nameB d.word = true
  some : 0 < d.parts.length
  few : d.parts.length ≤ 1000
  parts : ∀ z ∈ d.parts, nameB z = true
  ahead : remarkB d.ahead = true
  behind : remarkB d.behind = true
  b0 : 0 ≤ d.blanks
  b3 : d.blanks < 3
theorem remarkB_len {z : Str} (h : remarkB z = true) : z.length ≤ 6 := by
  unfold remarkB at h
  rcases Bool.or_eq_true_iff.mp h with h | h
  · have e : z = ("" : Str) := V.str.inj (of_decide_eq_true h)
    rw [e]
    decide
  · exact nameB_len h
theorem six_line {n : Nat} (h : n ≤ 6) : n ≤ sizeLine := Nat.le_trans h (by decide)
/-- its attributes, the tuple of the items at t -/
def pieceF (d : PD) (t : Addr) : List (Str × V) :=
  putF "left" (.bl d.left) (putF "blanks" (.int d.blanks) (putF "behind" (.str d.behind) (putF "ahead" (.str d.ahead) (putF "marked" (.bl d.marked) (putF "broken" (.bl d.broken) (putF "parts" (.ref t) (putF "word" (.str d.word) [])))))))
/-- at p a piece of d -/
def PieceAt (K : PySem.W.Frag) (C : Addr) (H : Hp) (p : Addr) (d : PD) : Prop := ∃ dx t, H p = some (.ins C dx (pieceF d t)) ∧ H t = some (.tup (d.parts.map V.str))
theorem SqT.same {K : PySem.W.Frag} {H H' : Hp} {a : Addr} {xs : List V} (e : Same H H') (h : SqT K H a xs) : SqT K H' a xs := by
  rcases h with (h | ⟨o, h⟩) | h
  · exact .inl (.inl (e _ _ h))
  · exact .inl (.inr ⟨o, e _ _ h⟩)
  · exact .inr h
theorem PieceAt.same {K : PySem.W.Frag} {C : Addr} {H H' : Hp} {p : Addr} {d : PD} (s : Same H H') (h : PieceAt K C H p d) : PieceAt K C H' p d := by
  obtain ⟨dx, t, h1, h2⟩ := h
  exact ⟨dx, t, s _ _ h1, s _ _ h2⟩
/-- what the class Piece says of itself -/
structure PieceC (K : PySem.W.Frag) (C : Addr) : Prop where
  cl : Cls K C
  word : NoAttr K C "word"
  parts : NoAttr K C "parts"
  broken : NoAttr K C "broken"
  marked : NoAttr K C "marked"
  ahead : NoAttr K C "ahead"
  behind : NoAttr K C "behind"
  blanks : NoAttr K C "blanks"
  left : NoAttr K C "left"
def spPieceI (C : Addr) (K : PySem.W.Frag) : Sp := fun vs H Q _ => ∃ (p a dx : Addr) (d : PD), vs = [.ref p, .str d.word, .ref a, .bl d.broken, .bl d.marked, .str d.ahead, .str d.behind, .int d.blanks, .bl d.left] ∧ d.Ok ∧ SqX K H a (d.parts.map V.str) ∧
  H p = some (.ins C dx []) ∧ ∀ H' t, Kept p H H' → H' p = some (.ins C dx (pieceF d t)) → H' t = some (.tup (d.parts.map V.str)) → Q .non H'
abbrev sPieceI : Stmt := inClass (top 22) 0
theorem few_put {f : Str} {v : V} {fs : List (Str × V)} {n : Nat} (h : fs.length ≤ n) : (putF f v fs).length ≤ n + 1 := Nat.le_trans (length_putF f v fs) (Nat.succ_le_succ h)
theorem few_1000 {fs : List (Str × V)} {n : Nat} (h : fs.length ≤ n) (hn : n < 1000) : fs.length < 1000 := Nat.lt_of_le_of_lt h hn
section
variable {P : Program} {w : World} {K : PySem.W.Frag} {mg : Str → Option Value} {base : Heap}
theorem scPi : FnScope ["self", "word", "parts", "broken", "marked", "ahead", "behind", "blanks", "left"] ["self", "word", "parts", "broken", "marked", "ahead", "behind", "blanks", "left"] (defScope sPieceI) := ⟨rfl, rfl, rfl, by decide +kernel, rfl, by decide +kernel, by decide +kernel⟩
/-- the defs that Piece asks -/
structure PieceD (P : Program) (w : World) (K : PySem.W.Frag) (mg : Str → Option Value) (base : Heap) (fR fN fM fE fU : Addr) (dR dN dM dE dU : FuncData) : Prop where
  GR : FnOk P w K mg base CX0 1 fR dR ["holds", "word"] spReq
  gR : mg "require" = some (.ref fR)
  kR : PySem.W.keepIn K (.ref fR) = true
  bR : Binds K dR ["holds", "word"] []
  GN : FnOk P w K mg base CX0 1 fN dN ["value"] (spName K)
  gN : mg "is_name" = some (.ref fN)
  kN : PySem.W.keepIn K (.ref fN) = true
  bN : Binds K dN ["value"] []
  GM : FnOk P w K mg base CX0 2 fM dM ["value"] (spNames K)
  gM : mg "are_names" = some (.ref fM)
  kM : PySem.W.keepIn K (.ref fM) = true
  bM : Binds K dM ["value"] []
  GE : FnOk P w K mg base CX0 2 fE dE ["value"] (spRem K)
  gE : mg "is_remark" = some (.ref fE)
  kE : PySem.W.keepIn K (.ref fE) = true
  bE : Binds K dE ["value"] []
  GU : FnOk P w K mg base CX0 2 fU dU ["value", "many"] (spNum K)
  gU : mg "is_number" = some (.ref fU)
  kU : PySem.W.keepIn K (.ref fU) = true
  bU : Binds K dU ["value", "many"] []
theorem ok_pieceI {f C : Addr} {fd : FuncData} {dvs : List V} {fR fN fM fE fU : Addr} {dR dN dM dE dU : FuncData} (F : FunD K "__init__" "Piece.__init__" (defArgs sPieceI) (defBody sPieceI) (defScope sPieceI) dvs [] f fd) (T : TxtK mg) (Z : PieceC K C) (D : PieceD P w K mg base fR fN fM fE fU dR dN dM dE dU) :
    FnOk P w K mg base CX0 3 f fd ["self", "word", "parts", "broken", "marked", "ahead", "behind", "blanks", "left"] (spPieceI C K) := by
  refine F.ok scPi (fun vs H Q E h => ?_) (fun cdv A outer s H vs Q E hr h => ?_)
  · obtain ⟨p, a, dx, d, rfl, _⟩ := h
    rfl
  · obtain ⟨p, a, dx, d, rfl, o, ha, hp, k⟩ := h
    have hr1 := hr.mono (show 1 ≤ 2 by decide)
    suffices h : ∃ t, PSs (cxOf CX0 P w K mg base ["self", "word", "parts", "broken", "marked", "ahead", "behind", "blanks", "left"] "Piece.__init__" (defScope sPieceI) f cdv A outer s H E).nox (defBody sPieceI) t ∧ t { nx := fun _ H' => Q .non H', rt := Q } (start ["self", "word", "parts", "broken", "marked", "ahead", "behind", "blanks", "left"] [.ref p, .str d.word, .ref a, .bl d.broken, .bl d.marked, .str d.ahead, .str d.behind, .int d.blanks, .bl d.left]) H by
      obtain ⟨t, h1, h2⟩ := h
      exact ⟨t, h1.nox, h2⟩
    refine ⟨_, (pss_cons (ps_expr (pe_call D.GR hr1 (by rfl) D.gR D.kR D.bR .nil pass0 (pa_cons (pe_call D.GN hr1 (by rfl) D.gN D.kN D.bN .nil pass0 (pa_cons (pv 1) pa_nil)) (pa_cons pe_str pa_nil))))
    (pss_cons (ps_expr (pe_call D.GR hr1 (by rfl) D.gR D.kR D.bR .nil pass0 (pa_cons (pe_call D.GM hr (by rfl) D.gM D.kM D.bM .nil pass0 (pa_cons (pv 2) pa_nil)) (pa_cons pe_str pa_nil))))
    (pss_cons (ps_expr (pe_call D.GR hr1 (by rfl) D.gR D.kR D.bR .nil pass0 (pa_cons (pe_callB call_isi (by rfl) T.isinstance (by decide +kernel) (pa_cons (pv 3) (pa_cons (pe_bltn (v := .ty "bool") (by rfl) T.bool (by decide +kernel) rfl) pa_nil))) (pa_cons pe_str pa_nil))))
    (pss_cons (ps_expr (pe_call D.GR hr1 (by rfl) D.gR D.kR D.bR .nil pass0 (pa_cons (pe_callB call_isi (by rfl) T.isinstance (by decide +kernel) (pa_cons (pv 4) (pa_cons (pe_bltn (v := .ty "bool") (by rfl) T.bool (by decide +kernel) rfl) pa_nil))) (pa_cons pe_str pa_nil))))
    (pss_cons (ps_expr (pe_call D.GR hr1 (by rfl) D.gR D.kR D.bR .nil pass0 (pa_cons (pe_call D.GE hr (by rfl) D.gE D.kE D.bE .nil pass0 (pa_cons (pv 5) pa_nil)) (pa_cons pe_str pa_nil))))
    (pss_cons (ps_expr (pe_call D.GR hr1 (by rfl) D.gR D.kR D.bR .nil pass0 (pa_cons (pe_call D.GE hr (by rfl) D.gE D.kE D.bE .nil pass0 (pa_cons (pv 6) pa_nil)) (pa_cons pe_str pa_nil))))
    (pss_cons (ps_expr (pe_call D.GR hr1 (by rfl) D.gR D.kR D.bR .nil pass0 (pa_cons (pe_call D.GU hr (by rfl) D.gU D.kU D.bU .nil pass0 (pa_cons (pv 7) (pa_cons pe_int pa_nil))) (pa_cons pe_str pa_nil))))
    (pss_cons (ps_expr (pe_call D.GR hr1 (by rfl) D.gR D.kR D.bR .nil pass0 (pa_cons (pe_callB call_isi (by rfl) T.isinstance (by decide +kernel) (pa_cons (pv 8) (pa_cons (pe_bltn (v := .ty "bool") (by rfl) T.bool (by decide +kernel) rfl) pa_nil))) (pa_cons pe_str pa_nil))))
    (pss_cons (ps_fld (pv 0) (pv 1) rfl)
    (C8.pss_cut (ps_fld (pv 0) (pe_callTy call_tuple_of (by rfl) T.tuple (by decide +kernel) (pa_cons (pv 2) pa_nil)) rfl)
    (pss_cons (ps_fld (pv 0) (pv 3) rfl)
    (pss_cons (ps_fld (pv 0) (pv 4) rfl)
    (pss_cons (ps_fld (pv 0) (pv 5) rfl)
    (pss_cons (ps_fld (pv 0) (pv 6) rfl)
    (pss_cons (ps_fld (pv 0) (pv 7) rfl)
    (pss_one (ps_fld (pv 0) (pv 8) rfl))))))))))))))))), ?_⟩
    have nap : a ≠ p := by
      rcases ha with ha | ha
      · exact ne_of ha hp (fun z => nomatch z)
      · exact ne_of ha hp (fun z => nomatch z)
    refine ⟨_, rfl, _, true, rfl, .inl ⟨_, rfl, six_line (nameB_len o.word), o.word.symm⟩, _, rfl, ?_⟩
    have hall : (decide (0 < (d.parts.map V.str).length) && (List.replicate d.parts.length true).all id) = true := by
      rw [List.length_map, decide_eq_true o.some, Bool.true_and, List.all_eq_true]
      intro b hb
      rw [(List.mem_replicate.mp hb).2]
      rfl
    refine ⟨_, rfl, _, rfl, .inr ⟨a, _, List.replicate d.parts.length true, rfl, ha, by rw [List.length_map]; exact o.few, ⟨by rw [List.length_replicate, List.length_map], fun i x b hx hb => ?_⟩, fun H1 s1 => ⟨_, by rw [hall]; rfl, ?_⟩⟩⟩
    · rw [List.getElem?_map] at hx
      cases q : d.parts[i]? with
      | none =>
        rw [q] at hx
        cases hx
      | some z =>
        rw [q] at hx
        cases hx
        have hz := o.parts z (List.mem_of_getElem? q)
        have eb : b = true := (List.mem_replicate.mp (List.mem_of_getElem? hb)).2
        exact .inl ⟨z, rfl, six_line (nameB_len hz), by rw [eb, hz]⟩
    obtain ⟨t3, y3, e3⟩ := isT_bl (K := K) (H := H1) (z := d.broken)
    refine ⟨_, rfl, _, _, _, _, _, rfl, .ty _, y3, e3, _, rfl, ?_⟩
    obtain ⟨t4, y4, e4⟩ := isT_bl (K := K) (H := H1) (z := d.marked)
    refine ⟨_, rfl, _, _, _, _, _, rfl, .ty _, y4, e4, _, rfl, ?_⟩
    refine ⟨_, rfl, _, rfl, .inl ⟨_, rfl, six_line (remarkB_len o.ahead), _, by rw [o.ahead]; rfl, ?_⟩⟩
    refine ⟨_, rfl, _, rfl, .inl ⟨_, rfl, six_line (remarkB_len o.behind), _, by rw [o.behind]; rfl, ?_⟩⟩
    refine ⟨_, rfl, _, _, rfl, .inl ⟨_, rfl, _, by rw [decide_eq_true o.b0, decide_eq_true o.b3]; rfl, ?_⟩⟩
    obtain ⟨t8, y8, e8⟩ := isT_bl (K := K) (H := H1) (z := d.left)
    refine ⟨_, rfl, _, _, _, _, _, rfl, .ty _, y8, e8, _, rfl, ?_⟩
    refine ⟨_, rfl, _, rfl, p, C, dx, _, rfl, s1 _ _ hp, Z.cl, Z.word, (by show 0 < 1000; decide), ?_⟩
    refine ⟨fun σ' G => σ' = start ["self", "word", "parts", "broken", "marked", "ahead", "behind", "blanks", "left"] [.ref p, .str d.word, .ref a, .bl d.broken, .bl d.marked, .str d.ahead, .str d.behind, .int d.blanks, .bl d.left] ∧
      ∃ t, Kept p H G ∧ t ≠ p ∧ G p = some (.ins C dx (putF "parts" (.ref t) (putF "word" (.str d.word) []))) ∧ G t = some (.tup (d.parts.map V.str)), ?_, ?_⟩
    · have k1 : Kept p H (upd H1 p (.ins C dx (putF "word" (.str d.word) []))) := (Kept.of_same s1).trans Kept.box
      rcases ha with ha | ha
      · refine ⟨_, rfl, a, _, rfl, .inl ⟨SqL.of (k1 _ _ nap ha), fun l hl => ⟨_, rfl, p, C, dx, _, rfl, Same.new hl _ _ upd_same, Z.cl, Z.parts, few_1000 (few_put (Nat.zero_le 0)) (by decide), rfl, l, (k1.trans (Kept.new hl)).trans Kept.box, ?_, upd_same, ?_⟩⟩⟩
        · intro z
          rw [z, upd_same] at hl
          cases hl
        · have nlp : l ≠ p := fun z => by
            rw [z, upd_same] at hl
            cases hl
          rw [upd_ne nlp, upd_same]
      · refine ⟨_, rfl, a, _, rfl, .inr ⟨SqT.of (k1 _ _ nap ha), _, rfl, p, C, dx, _, rfl, upd_same, Z.cl, Z.parts, few_1000 (few_put (Nat.zero_le 0)) (by decide), rfl, a, k1.trans Kept.box, nap, upd_same, (by rw [upd_ne nap]; exact k1 _ _ nap ha)⟩⟩
    · rintro σ' G ⟨rfl, t, kG, ntp, hG, ht⟩
      refine ⟨_, rfl, _, rfl, p, C, dx, _, rfl, hG, Z.cl, Z.broken, few_1000 (few_put (few_put (Nat.zero_le 0))) (by decide), ?_⟩
      refine ⟨_, rfl, _, rfl, p, C, dx, _, rfl, upd_same, Z.cl, Z.marked, few_1000 (few_put (few_put (few_put (Nat.zero_le 0)))) (by decide), ?_⟩
      refine ⟨_, rfl, _, rfl, p, C, dx, _, rfl, upd_same, Z.cl, Z.ahead, few_1000 (few_put (few_put (few_put (few_put (Nat.zero_le 0))))) (by decide), ?_⟩
      refine ⟨_, rfl, _, rfl, p, C, dx, _, rfl, upd_same, Z.cl, Z.behind, few_1000 (few_put (few_put (few_put (few_put (few_put (Nat.zero_le 0)))))) (by decide), ?_⟩
      refine ⟨_, rfl, _, rfl, p, C, dx, _, rfl, upd_same, Z.cl, Z.blanks, few_1000 (few_put (few_put (few_put (few_put (few_put (few_put (Nat.zero_le 0))))))) (by decide), ?_⟩
      refine ⟨_, rfl, _, rfl, p, C, dx, _, rfl, upd_same, Z.cl, Z.left, few_1000 (few_put (few_put (few_put (few_put (few_put (few_put (few_put (Nat.zero_le 0)))))))) (by decide), ?_⟩
      simp only [upd_upd]
      exact k _ t (kG.trans Kept.box) upd_same (Kept.box _ _ ntp ht)
end
end Lay
set_option Elab.async false
set_option linter.all false
set_option maxRecDepth 100000
set_option maxHeartbeats 4000000
set_option pp.maxSteps 700
namespace Lay
open PySem PySem.Spec PyProof.Rows L2 KwX StX
/-! a piece with other things in the place of its own -/
def pnames : List Str := ["word", "parts", "broken", "marked", "ahead", "behind", "blanks", "left"]
def slf : List Str := ["self"]
abbrev sBut : Stmt := inClass (top 22) 2
theorem kbn_piece {K : PySem.W.Frag} {f : Addr} {fd : FuncData} {dvs : List V} (F : FunD K "__init__" "Piece.__init__" (defArgs sPieceI) (defBody sPieceI) (defScope sPieceI) dvs [] f fd) (hd : dvs.length = 6) :
    ∃ its : List Value, KBn K fd ["self", "word", "parts", "broken", "marked", "ahead", "behind", "blanks", "left"] (0 + 1) pnames (fun us ws => us ++ ws) (fun vs zs => vs ++ zs) := by
  have h := F.kbindsD (ps := ["self", "word", "parts", "broken", "marked", "ahead", "behind", "blanks", "left"]) 1 pnames (fun us _ ws => us ++ ws) (fun z => by rw [z] at hd; cases hd) (fun r _ r2 => r.append r2) fun T kV doc pm an cdv ct us its ws h1 h2 h3 => by
    rw [hd] at h2
    match us, its, ws, h1, h2, h3 with
    | [_], [_, _, _, _, _, _], [_, _, _, _, _, _, _, _], _, _, _ => exact ⟨_, rfl, rfl⟩
  exact h
/-- the piece e in the place of d -/
def spButG (K : PySem.W.Frag) (C : Addr) (ks : List Str) : Sp := fun vs H Q _ => ∃ (p q t dx a : Addr) (d e : PD) (zs : List V), vs = [.ref p, .ref q] ∧ H p = some (.ins C dx (pieceF d t)) ∧ H q = some (.dK (kvK ks zs)) ∧ ks.length ≤ 8 ∧ zs.length = ks.length ∧
  mergeK (kvK pnames [.str d.word, .ref t, .bl d.broken, .bl d.marked, .str d.ahead, .str d.behind, .int d.blanks, .bl d.left]) (kvK ks zs) = kvK pnames [.str e.word, .ref a, .bl e.broken, .bl e.marked, .str e.ahead, .str e.behind, .int e.blanks, .bl e.left] ∧ e.Ok ∧ SqX K H a (e.parts.map V.str) ∧
  ∀ y H', Same H H' → H y = none → PieceAt K C H' y e → Q (.ref y) H'
section
variable {P : Program} {w : World} {K : PySem.W.Frag} {mg : Str → Option Value} {base : Heap}
theorem scBut : FnScope ["self", "others", "told"] (slf ++ [("others" : Str)]) (defScope sBut) := ⟨rfl, rfl, rfl, by decide +kernel, rfl, by decide +kernel, by decide +kernel⟩
theorem cxUp_0 : CXUp CX0 := cxUp_none
theorem ok_butG {f fP C : Addr} {fd fdP : FuncData} {ks : List Str} (F : Fun K "but" "Piece.but" sBut f fd) (Z : PieceC K C) (M : Mk K C fP) (hnd : ks.Nodup) (hks : ks.length ≤ 1000)
    (GP : FnOk P w K mg base CX0 3 fP fdP ["self", "word", "parts", "broken", "marked", "ahead", "behind", "blanks", "left"] (spPieceI C K)) (gP : mg "Piece" = some (.ref C)) (kb : KBn K fdP ["self", "word", "parts", "broken", "marked", "ahead", "behind", "blanks", "left"] (0 + 1) pnames (fun us ws => us ++ ws) (fun vs zs => vs ++ zs))
    (hb : ∀ (kV doc pm : Value) (an : Option Addr) (cdv ct : Value) (us ws : List Value), us.length = slf.length → ws.length = ks.length → bindArgs (PySem.W.fnOf "but" "Piece.but" (defArgs sBut) (defBody sBut) (defScope sBut) .none kV doc pm an cdv ct) ⟨us, ks.zip ws⟩ =
      ((alloc ({ cls := .type "dict", data := .dict #[] } : Obj) : Sem Addr) >>= fun d => (forIn (ks.zip ws) PUnit.unit fun x _ => (nsSet d x.1 x.2 >>= fun _ => pure (ForInStep.yield PUnit.unit))) >>= fun _ => pure (slf.zip us ++ [(("others" : Str), Value.ref d)]))) :
    FnRK P w K mg base CX0 5 f ks (fun vs zs H Q E => vs.length = slf.length ∧ zs.length = ks.length ∧ ∀ d, H d = none → spButG K C ks (vs ++ [V.ref d]) (upd H d (.dK (kvK ks zs))) Q E) := by
  refine fun_kw F scBut cxUp_0 hnd hks hb (fun cdv A outer s H vs Q E hr h => ?_)
  obtain ⟨p, q, t, dx, a, d, e, zs, rfl, hp, hq, lk, lz, em, oe, ha, k⟩ := h
  refine ⟨_, (pss_cons (ps_set (i := 2) scBut.nd rfl (.inl rfl) (pe_disp (pps_cons pe_str (pe_fld (pv 0) rfl) (pps_cons pe_str (pe_fld (pv 0) rfl) (pps_cons pe_str (pe_fld (pv 0) rfl) (pps_cons pe_str (pe_fld (pv 0) rfl) (pps_cons pe_str (pe_fld (pv 0) rfl) (pps_cons pe_str (pe_fld (pv 0) rfl) (pps_cons pe_str (pe_fld (pv 0) rfl) (pps_cons pe_str (pe_fld (pv 0) rfl) pps_nil)))))))) rfl rfl (by decide) (by decide)))
    (pss_cons (ps_expr (pe_dupd (pv 2) (pv 1) ⟨by rfl, by rfl, by rfl, by rfl⟩))
    (pss_one (ps_ret (pe_makeD (E := E0) M GP hr (by rfl) gP kb pass0 (pv 2) (by decide +kernel) (by decide)))))), ?_⟩
  refine fun u nu => ?_
  have hp1 := Same.new nu (o := .dK []) _ _ hp
  refine ⟨_, rfl, p, C, dx, _, _, rfl, hp1, Z.cl, Z.word, rfl, _, rfl, p, C, dx, _, _, rfl, hp1, Z.cl, Z.parts, rfl, _, rfl, p, C, dx, _, _, rfl, hp1, Z.cl, Z.broken, rfl, _, rfl, p, C, dx, _, _, rfl, hp1, Z.cl, Z.marked, rfl, ?_⟩
  refine ⟨_, rfl, p, C, dx, _, _, rfl, hp1, Z.cl, Z.ahead, rfl, _, rfl, p, C, dx, _, _, rfl, hp1, Z.cl, Z.behind, rfl, _, rfl, p, C, dx, _, _, rfl, hp1, Z.cl, Z.blanks, rfl, _, rfl, p, C, dx, _, _, rfl, hp1, Z.cl, Z.left, rfl, ?_⟩
  refine ⟨upd_same, [(.inr "word", .str d.word), (.inr "parts", .ref t), (.inr "broken", .bl d.broken), (.inr "marked", .bl d.marked), (.inr "ahead", .str d.ahead), (.inr "behind", .str d.behind), (.inr "blanks", .int d.blanks), (.inr "left", .bl d.left)], rfl, (by show 8 ≤ 15; decide), ?_⟩
  rw [show mergeK [] [(.inr "word", .str d.word), (.inr "parts", .ref t), (.inr "broken", .bl d.broken), (.inr "marked", .bl d.marked), (.inr "ahead", .str d.ahead), (.inr "behind", .str d.behind), (.inr "blanks", .int d.blanks), (.inr "left", .bl d.left)] = kvK pnames [.str d.word, .ref t, .bl d.broken, .bl d.marked, .str d.ahead, .str d.behind, .int d.blanks, .bl d.left] from rfl, upd_upd]
  have uq : u ≠ q := (ne_of_none hq nu).symm
  have hqu : upd H u (.dK (kvK pnames [.str d.word, .ref t, .bl d.broken, .bl d.marked, .str d.ahead, .str d.behind, .int d.blanks, .bl d.left])) q = some (.dK (kvK ks zs)) := by rw [upd_ne (Ne.symm uq)]; exact hq
  have lk2 : (kvK ks zs).length ≤ 8 := by
    unfold kvK
    rw [List.length_zip, List.length_map]
    omega
  refine ⟨_, rfl, u, rfl, .inl ⟨_, .inl upd_same⟩, _, rfl, q, _, _, rfl, upd_same, hqu, uq, (by show 8 + _ ≤ 1000; omega), ?_⟩
  rw [em, upd_upd]
  have su : Same H (upd H u (.dK (kvK pnames [.str e.word, .ref a, .bl e.broken, .bl e.marked, .str e.ahead, .str e.behind, .int e.blanks, .bl e.left]))) := Same.new nu
  have hu : upd H u (.dK (kvK pnames [.str e.word, .ref a, .bl e.broken, .bl e.marked, .str e.ahead, .str e.behind, .int e.blanks, .bl e.left])) u = some (.dK (kvK pnames [.str e.word, .ref a, .bl e.broken, .bl e.marked, .str e.ahead, .str e.behind, .int e.blanks, .bl e.left])) := upd_same
  generalize upd H u (.dK (kvK pnames [.str e.word, .ref a, .bl e.broken, .bl e.marked, .str e.ahead, .str e.behind, .int e.blanks, .bl e.left])) = G at *
  refine fun d1 nd1 => ⟨_, rfl, u, [.str e.word, .ref a, .bl e.broken, .bl e.marked, .str e.ahead, .str e.behind, .int e.blanks, .bl e.left], rfl, upd_same, Same.new nd1 _ _ hu, rfl, ne_of_none hu nd1, fun y dy ny ndy ne => ?_⟩
  rw [upd_upd] at ny ndy ⊢
  have s1 : Same H (upd G d1 (.dK (kvK pnames [.str e.word, .ref a, .bl e.broken, .bl e.marked, .str e.ahead, .str e.behind, .int e.blanks, .bl e.left]))) := su.trans (Same.new nd1)
  generalize upd G d1 (.dK (kvK pnames [.str e.word, .ref a, .bl e.broken, .bl e.marked, .str e.ahead, .str e.behind, .int e.blanks, .bl e.left])) = G1 at *
  have ny2 : upd G1 dy (.own y) y = none := by
    rw [upd_ne (Ne.symm ne)]
    exact ny
  have s2 := (s1.trans (Same.new ndy (o := .own y))).trans (Same.new ny2 (o := .ins C dy []))
  refine ⟨y, a, dy, e, rfl, oe, SqX.same s2 ha, upd_same, fun H' t' kp h1 h2 => ⟨rfl, k y H' (fun b o eb => kp b o (ne_of_none (s1 _ _ eb) ny) (s2 _ _ eb)) (s1.free ny) ⟨dy, t', h1, h2⟩⟩⟩
end
end Lay
set_option Elab.async false
set_option linter.all false
set_option maxRecDepth 100000
set_option maxHeartbeats 4000000
set_option pp.maxSteps 1000
namespace Lay
open PySem PySem.Spec PyProof.Rows L2
theorem fitsN {n : Nat} (h : n ≤ 1000000) : n ≤ sizeLine := by rw [sizeLine_eq]; omega
theorem sum_few : ∀ {zs : List Str} {n : Nat}, (∀ z ∈ zs, z.length ≤ n) → (zs.map (·.length)).sum ≤ zs.length * n
  | [], _, _ => by simp
  | z :: zs, n, h => by
    have h1 := h z List.mem_cons_self
    have h2 := sum_few (zs := zs) fun y hy => h y (List.mem_cons_of_mem _ hy)
    rw [List.map_cons, List.sum_cons, List.length_cons, Nat.succ_mul]
    omega
theorem sjoin_le (sep : Str) : ∀ ts : List Str, (Str.join sep ts).length ≤ (ts.map (·.length)).sum + ts.length * sep.length
  | [] => by
    show (Str.join sep []).length ≤ _
    have : (Str.join sep []).length = 0 := rfl
    omega
  | [t] => by
    show t.length ≤ _
    rw [List.map_cons, List.sum_cons]
    omega
  | t :: u :: r => by
    have ih := sjoin_le sep (u :: r)
    show (t ++ sep ++ Str.join sep (u :: r)).length ≤ _
    rw [Str.length_append, Str.length_append, List.map_cons, List.sum_cons, List.length_cons, Nat.succ_mul]
    omega
theorem join_le (sep : Str) (ts : List Str) : (Txt.join sep ts).length ≤ (ts.map (·.length)).sum + ts.length * sep.length := by
  rw [TL.join_eq]
  exact sjoin_le sep ts
/-! ### the rows of a piece -/
def signS (d : PD) : Str := if d.left = true then Str.ofString "!" else Str.ofString ""
def headS (d : PD) : Str := ((Str.empty ++ signS d) ++ d.word) ++ Str.ofString "("
def tailS (d : PD) : Str := if d.behind.length = 0 then Str.ofString ")" else (Str.empty ++ Str.ofString ")  # ") ++ d.behind
def commaS (d : PD) : Str := if d.marked = true then Str.ofString "," else Str.ofString ""
def itemS (z : Str) : Str := ((Str.empty ++ Str.ofString "  ") ++ z) ++ Str.ofString ","
def lastS (d : PD) (z : Str) : Str := ((Str.empty ++ Str.ofString "  ") ++ z) ++ commaS d
def bodyS (d : PD) : List Str := if d.broken = true then headS d :: ((d.parts.dropLast.map itemS) ++ [lastS d (d.parts.getLastD Str.empty), tailS d])
  else [((headS d ++ Txt.join ", " d.parts) ++ commaS d) ++ tailS d]
def remarkS (d : PD) : List Str := if d.ahead.length = 0 then [] else [(Str.empty ++ Str.ofString "# ") ++ d.ahead]
def rowsS (d : PD) : List Str := List.replicate d.blanks.toNat (Str.ofString "") ++ (remarkS d ++ bodyS d)
def spText (K : PySem.W.Frag) (C : Addr) (g : PD → Str) : Sp := fun vs H Q _ => ∃ (p : Addr) (d : PD), vs = [.ref p] ∧ PieceAt K C H p d ∧ d.Ok ∧ d.parts.length ≤ 30 ∧ Q (.str (g d)) H
def spRowsOf (K : PySem.W.Frag) (C : Addr) (g : PD → List Str) : Sp := fun vs H Q _ => ∃ (p : Addr) (d : PD), vs = [.ref p] ∧ PieceAt K C H p d ∧ d.Ok ∧ d.parts.length ≤ 30 ∧ ∀ l H', Same H H' → H l = none → H' l = some (.lst ((g d).map V.str)) → Q (.ref l) H'
theorem headS_len {d : PD} (o : d.Ok) : (headS d).length ≤ 8 := by
  have h1 := nameB_len o.word
  have h2 : (signS d).length ≤ 1 := by
    unfold signS
    split <;> decide
  have h3 : (Str.ofString "(").length = 1 := by decide
  have h4 : Str.empty.length = 0 := by decide
  unfold headS
  rw [Str.length_append, Str.length_append, Str.length_append]
  omega
theorem tailS_len {d : PD} (o : d.Ok) : (tailS d).length ≤ 11 := by
  have h1 := remarkB_len o.behind
  have h3 : (Str.ofString ")  # ").length = 5 := by decide
  have h4 : Str.empty.length = 0 := by decide
  unfold tailS
  split
  · decide
  · rw [Str.length_append, Str.length_append]
    omega
theorem commaS_len {d : PD} : (commaS d).length ≤ 1 := by
  unfold commaS
  split <;> decide
section
variable {X : Cx}
theorem sl_tupS : SlR X (fun x lo hi H Q => ∃ a xs, x = .ref a ∧ SqT X.K H a xs ∧ ∀ p H', Same H H' → SqT X.K H' p (cutV xs lo hi) → Q (.ref p) H') := by
  intro pins s σ H x v vl vu lo hi sl Q I rx hs pl pu h
  obtain ⟨a, xs, rfl, hx, q⟩ := h
  refine sl_tupA pins s σ H _ v vl vu lo hi sl Q I rx hs pl pu ⟨a, xs, rfl, hx, fun w => ?_, fun _ p np => q p _ (Same.new np) (SqT.of upd_same)⟩
  refine q a H (Same.refl H) ?_
  unfold cutV
  rw [w.1, w.2, List.drop_zero, Nat.sub_zero, List.take_length]
  exact hx
end
abbrev sHead : Stmt := top 18
section
variable {P : Program} {w : World} {K : PySem.W.Frag} {mg : Str → Option Value} {base : Heap}
theorem scHead : FnScope ["piece", "sign"] ["piece"] (defScope sHead) := ⟨rfl, rfl, rfl, by decide +kernel, rfl, by decide +kernel, by decide +kernel⟩
theorem ok_head {f C : Addr} {fd : FuncData} (F : Fun K "head_of" "head_of" sHead f fd) (Z : PieceC K C) : FnOk P w K mg base CX0 1 f fd ["piece"] (spText K C headS) := by
  refine F.ok scHead (fun vs H Q E h => ?_) (fun cdv A outer s H vs Q E hr h => ?_)
  · obtain ⟨p, d, rfl, _⟩ := h
    rfl
  · obtain ⟨p, d, rfl, ⟨dx, t, hp, ht⟩, o, few, k⟩ := h
    refine ⟨_, (pss_cons (ps_set (i := 1) scHead.nd rfl (.inl rfl) (pe_ifExp (pt_val (pe_fld (pv 0) rfl)) pe_str pe_str))
      (pss_one (ps_ret (pe_joined (.cons (pe_fmt (pv 1)) (.cons (pe_fmt (pe_fld (pv 0) rfl)) (.cons pe_str .nil))))))), ?_⟩
    have hl := headS_len o
    have h1 := nameB_len o.word
    have h3 : (Str.ofString "(").length = 1 := by decide
    have h4 : Str.empty.length = 0 := by decide
    refine ⟨_, rfl, p, C, dx, _, _, rfl, hp, Z.cl, Z.left, rfl, d.left, rfl, ?_⟩
    by_cases q : d.left = true
    · refine iteY q ?_
      have e : headS d = ((Str.empty ++ Str.ofString "!") ++ d.word) ++ Str.ofString "(" := by
        unfold headS signS
        rw [if_pos q]
      rw [e] at k hl
      have l0 : (Str.ofString "!").length = 1 := by decide
      exact ⟨_, rfl, .inl ⟨_, rfl, fitsN (by omega), _, rfl, fitsN (by rw [Str.length_append]; omega), _, rfl, p, C, dx, _, _, rfl, hp, Z.cl, Z.word, rfl, .inl ⟨_, rfl, fitsN (by omega), _, rfl, fitsN (by rw [Str.length_append, Str.length_append]; omega), _, rfl, fitsN (by omega), k⟩⟩⟩
    · refine iteN (by simpa using q) ?_
      have e : headS d = ((Str.empty ++ Str.ofString "") ++ d.word) ++ Str.ofString "(" := by
        unfold headS signS
        rw [if_neg q]
      rw [e] at k hl
      have l0 : (Str.ofString "").length = 0 := by decide
      exact ⟨_, rfl, .inl ⟨_, rfl, fitsN (by omega), _, rfl, fitsN (by rw [Str.length_append]; omega), _, rfl, p, C, dx, _, _, rfl, hp, Z.cl, Z.word, rfl, .inl ⟨_, rfl, fitsN (by omega), _, rfl, fitsN (by rw [Str.length_append, Str.length_append]; omega), _, rfl, fitsN (by omega), k⟩⟩⟩
end
end Lay
set_option Elab.async false
set_option linter.all false
set_option maxRecDepth 100000
set_option maxHeartbeats 4000000
set_option pp.maxSteps 1000
namespace Lay
open PySem PySem.Spec PyProof.Rows L2
section
variable {X : Cx}
def signs (x : Str) : List V := x.cps.toList.map fun c => V.str ⟨#[c]⟩
/-- list(x) of a text -/
theorem call_listS (hc : X.calm = true) : CallR X (.type "list") (fun xs H Q => ∃ x : Str, xs = [.str x] ∧ x.cps.size ≤ 1000 ∧ ∀ l, H l = none → Q (.ref l) (upd H l (.lst (signs x)))) := by
  intro pins s σ H xs us Q I r h
  obtain ⟨x, rfl, hz, q⟩ := h
  obtain ⟨u, rfl, t, rfl⟩ := vals1 r
  refine call_list_str (hn := fits hz) (I.ok.hd hc) x t fun h' tk acc c' hk e hi => ?_
  refine ⟨.ref s.heap.objs.size, upd H s.heap.objs.size (.lst (signs x)), I.laid hk (Nat.le_refl _) ⟨by unfold signs; rw [List.length_map, Array.length_toList]; exact fits hz, acc.toList, c', ?_, by rw [Array.toArray_toList]; exact e⟩, rfl, q _ (I.hok.fresh (Nat.le_refl _))⟩
  refine vals_of_idx _ _ (by unfold signs; rw [List.length_map, Array.length_toList, Array.length_toList]; exact hi.1) fun j u hj => ?_
  obtain ⟨c, t', hc, rfl⟩ := hi.2 j u (by rw [← Array.getElem?_toList]; exact hj)
  exact ⟨.str ⟨#[c]⟩, by simp [signs, hc], ⟨_, rfl⟩⟩
end
/-! ### names that are drawn -/
def sixC : List Nat := [97, 98, 99, 120, 121, 122]
def Six (z : Str) : Prop := ∀ c ∈ z.cps.toList, c ∈ sixC
theorem six_all : ∀ c ∈ sixC, c < 128 ∧ Unicode.isAlpha c = true ∧ Unicode.isLower c = true ∧ (Unicode.isUpper c || Unicode.isTitle c) = false := by decide +kernel
theorem Six.append {a b : Str} (h : Six a) (k : Six b) : Six (a ++ b) := fun c hc => by
  have e : (a ++ b).cps.toList = a.cps.toList ++ b.cps.toList := by
    cases a
    cases b
    exact Array.toList_append
  rw [e] at hc
  exact (List.mem_append.mp hc).elim (h c) (k c)
theorem Six.join : ∀ {zs : List Str}, (∀ z ∈ zs, Six z ∧ z.length = 1) → Six (Str.join "" zs) ∧ (Str.join "" zs).length = zs.length
  | [], _ => ⟨fun c hc => by
      have e : (Str.join "" []).cps.toList = [] := by decide
      rw [e] at hc
      exact (List.not_mem_nil hc).elim, by decide⟩
  | [z], h => ⟨(h z (List.mem_singleton.mpr rfl)).1, (h z (List.mem_singleton.mpr rfl)).2⟩
  | z :: y :: r, h => by
    have ih := Six.join (zs := y :: r) fun x hx => h x (List.mem_cons_of_mem _ hx)
    have h0 := h z List.mem_cons_self
    have e : Six (Str.ofString "") := fun c hc => by
      have e : (Str.ofString "").cps.toList = [] := by decide
      rw [e] at hc
      exact (List.not_mem_nil hc).elim
    have e1 : (Str.ofString "").length = 0 := by decide
    refine ⟨(h0.1.append e).append ih.1, ?_⟩
    show ((z ++ Str.ofString "") ++ Str.join "" (y :: r)).length = _
    rw [Str.length_append, Str.length_append, ih.2, h0.2, e1, List.length_cons, List.length_cons, List.length_cons]
    omega
theorem Six.name {z : Str} (h : Six z) (l0 : 0 < z.length) (l6 : z.length ≤ 6) : nameB z = true := by
  have hs : z.cps.size = z.length := rfl
  unfold nameB Txt.isascii Txt.isalpha Txt.islower
  simp only [Bool.and_eq_true, decide_eq_true_eq]
  refine ⟨l6, ?_, ⟨l0, ?_⟩, ?_, ?_⟩
  · rw [Array.all_eq_true']
    exact fun c hc => decide_eq_true (six_all c (h c (Array.mem_toList_iff.mpr hc))).1
  · rw [Array.all_eq_true']
    exact fun c hc => (six_all c (h c (Array.mem_toList_iff.mpr hc))).2.1
  · rw [Array.any_eq_true']
    have hm : z.cps[0]'(by omega) ∈ z.cps := Array.getElem_mem _
    exact ⟨_, hm, (six_all _ (h _ (Array.mem_toList_iff.mpr hm))).2.2.1⟩
  · rw [Bool.not_eq_true']
    cases e : z.cps.any fun c => Unicode.isUpper c || Unicode.isTitle c with
    | false => rfl
    | true =>
      rw [Array.any_eq_true'] at e
      obtain ⟨c, hc, hu⟩ := e
      rw [(six_all c (h c (Array.mem_toList_iff.mpr hc))).2.2.2] at hu
      cases hu
theorem signs_six : ∀ v ∈ signs (Str.ofString "abcxyz"), ∃ z, v = V.str z ∧ Six z ∧ z.length = 1 := fun v hv => by
  obtain ⟨c, hc, rfl⟩ := List.mem_map.mp hv
  refine ⟨_, rfl, fun d hd => ?_, rfl⟩
  have e : (Str.ofString "abcxyz").cps.toList = sixC := by decide +kernel
  rw [e] at hc
  have : d = c := by simpa using hd
  rw [this]
  exact hc
abbrev sLName : Stmt := top 84
def lnN : List Str := ["_law_box_here", "_law_most", "_law_letters", "_law_many", "_law_turn"]
def spLName : Sp := fun vs H Q _ => ∃ (b : Addr) (m : Int), vs = [.ref b, .int m] ∧ BoxAt H b ∧ 0 < m ∧ m ≤ 6 ∧ ∀ z H', Kept b H H' → BoxAt H' b → nameB z = true → (z.length : Int) ≤ m → Q (.str z) H'
section
variable {P : Program} {w : World} {K : PySem.W.Frag} {mg : Str → Option Value} {base : Heap}
theorem scLName : FnScope lnN ["_law_box_here", "_law_most"] (defScope sLName) := ⟨rfl, rfl, rfl, by decide +kernel, rfl, by decide +kernel, by decide +kernel⟩
theorem ok_lname {f fT fK : Addr} {fd dT dK : FuncData} (F : Fun K "_law_name" "_law_name" sLName f fd) (hrange : mg "range" = none) (hlist : mg "list" = none)
    (GT : FnOk P w K mg base CX0 1 fT dT ["_law_box_here", "_law_many"] spTake) (gT : mg "_law_take" = some (.ref fT)) (kT : PySem.W.keepIn K (.ref fT) = true) (bT : Binds K dT ["_law_box_here", "_law_many"] [])
    (GK : FnOk P w K mg base CX0 2 fK dK ["_law_box_here", "_law_items"] (spPick K)) (gK : mg "_law_pick" = some (.ref fK)) (kK : PySem.W.keepIn K (.ref fK) = true) (bK : Binds K dK ["_law_box_here", "_law_items"] []) : FnOk P w K mg base CX0 3 f fd ["_law_box_here", "_law_most"] spLName := by
  refine F.ok scLName (fun vs H Q E h => ?_) (fun cdv A outer s H vs Q E hr h => ?_)
  · obtain ⟨b, m, rfl, _⟩ := h
    rfl
  · obtain ⟨b, m, rfl, hb, m0, m6, k⟩ := h
    have hr1 := hr.mono (show 1 ≤ 2 by decide)
    refine ⟨_, (pss_cons (ps_asg (pe_tup (pa_cons pe_str (pa_cons (pe_op op_add pe_int (pe_call GT hr1 (by rfl) gT kT bT .nil pass0 (pa_cons (pv 0) (pa_cons (pv 1) pa_nil)))) pa_nil))) (pg_tup rfl (pgs_cons (pg_name (i := 2) scLName.nd rfl (.inr rfl)) (pgs_cons (pg_name (i := 3) scLName.nd rfl (.inl rfl)) pgs_nil))))
      (pss_one (ps_ret (pe_bm PySem.F.plainAttrs_str PySem.F.slot_str_join PySem.F.type_str_join mt_join pe_str (pa_cons
        (pe_lc (own := [("_law_turn", 4)]) (g := gName 4) (tt := tYes) (by rfl) scLName.nd (pi_range1 (by rfl) hrange (pa_cons (pv 3) pa_nil)) (blkOk_by (N := lnN) (sc := defScope sLName) (by decide +kernel))
          (fun _ _ _ _ _ => pg_name (i := 4) scLName.nd rfl (Or.inl rfl)) (fun _ _ _ _ _ => pts_nil)
          (fun _ _ _ _ _ => pe_call GK hr (by rfl) gK kK bK .nil pass0 (pa_cons (pv 0) (pa_cons (pe_callTy (call_listS rfl) (by rfl) hlist (by decide +kernel) (pa_cons (pv 2) pa_nil)) pa_nil)))) pa_nil))))), ?_⟩
    refine ⟨_, rfl, _, rfl, b, m, rfl, hb, m0, by omega, fun r o r0 r1 ob => ?_⟩
    have b1 : BoxAt (upd H b o) b := BoxAt.box ob
    have k1 : Kept b H (upd H b o) := Kept.box
    generalize upd H b o = G1 at *
    refine ⟨1, r, rfl, rfl, (by show 2 ≤ sizeLine; decide), fun p np => ⟨p, _, rfl, SqT.of upd_same, rfl, _, _, rfl, _, _, rfl, rfl, ?_⟩⟩
    have sp := Same.new np (o := .tup [.str "abcxyz", .int (1 + r)])
    have b2 : BoxAt (upd G1 p (.tup [.str "abcxyz", .int (1 + r)])) b := BoxAt.new b1 np
    have k2 : Kept b H (upd G1 p (.tup [.str "abcxyz", .int (1 + r)])) := k1.trans (Kept.of_same sp)
    generalize upd G1 p (.tup [.str "abcxyz", .int (1 + r)]) = G2 at *
    have ls : (signs (Str.ofString "abcxyz")).length = 6 := by decide +kernel
    refine ⟨rfl, _, rfl, 1 + r, rfl, by omega, by omega, fun D nD => lc_range (lo := 0) (n := Int.toNat _) (fun n G' => ∃ zs : List Str, Kept b G2 G' ∧ BoxAt G' b ∧ D ≠ b ∧ G' D = some (.lst (zs.map V.str)) ∧ zs.length = n ∧ ∀ z ∈ zs, Six z ∧ z.length = 1)
      ⟨[], Kept.new nD, b2.new nD, b2.ne nD, upd_same, rfl, fun z h => (List.not_mem_nil h).elim⟩ ?_ ?_⟩
    · rintro n G' hn ⟨zs, k', b', nb, hD, hl, hz⟩
      refine ⟨rfl, _, rfl, _, rfl, _, rfl, by decide +kernel, fun l nl => ?_⟩
      refine ⟨b, l, _, rfl, b'.new nl, b'.ne nl, SqL.of upd_same, by rw [ls]; decide, by rw [ls]; decide, fun v o hv ho => ?_⟩
      obtain ⟨z, rfl, z1, z2⟩ := signs_six v hv
      have nlD : D ≠ l := ne_of_none hD nl
      have kb : Kept b G' (upd (upd G' l (.lst (signs (Str.ofString "abcxyz")))) b o) := (Kept.new nl).trans Kept.box
      refine ⟨_, kb _ _ nb hD, ?_, zs ++ [z], fun c u n1 e => ?_, ?_, nb, by rw [upd_same, List.map_append]; rfl, by rw [List.length_append, hl]; rfl, fun y hy => ?_⟩
      · rw [List.length_map, hl]
        exact small1000 (by omega)
      · rw [upd_ne (ne_of_none e nD)]
        exact kb _ _ n1 (k' _ _ n1 e)
      · obtain ⟨o2, e2, y2⟩ : BoxAt (upd (upd G' l (.lst (signs (Str.ofString "abcxyz")))) b o) b := BoxAt.box ho
        exact ⟨o2, by rw [upd_ne (Ne.symm nb)]; exact e2, y2⟩
      · rcases List.mem_append.mp hy with h | h
        · exact hz y h
        · rw [List.mem_singleton] at h
          subst h
          exact ⟨z1, z2⟩
    · rintro G' ⟨zs, k', b', nb, hD, hl, hz⟩
      have hj := Six.join hz
      have hsum := sum_few (n := 1) fun z hz' => Nat.le_of_eq (hz z hz').2
      have j0 : (Str.ofString "").length = 0 := by decide
      refine ⟨_, D, zs, rfl, rfl, .inl (SqL.of hD), by rw [j0]; omega, k _ _ (k2.trans k') b' ?_ ?_⟩
      · rw [TL.join_eq]
        exact hj.1.name (by rw [hj.2, hl]; omega) (by rw [hj.2, hl]; omega)
      · rw [TL.join_eq, hj.2, hl]
        omega
end
end Lay
set_option Elab.async false
set_option linter.all false
set_option maxRecDepth 100000
set_option maxHeartbeats 4000000
set_option pp.maxSteps 1500
namespace Lay
open PySem PySem.Spec PyProof.Rows L2 KwX
def kw : Key := .inr "word"
def kp : Key := .inr "parts"
def kb : Key := .inr "broken"
def km : Key := .inr "marked"
def ka : Key := .inr "ahead"
def kh : Key := .inr "behind"
def kn : Key := .inr "blanks"
def kl : Key := .inr "left"
/-- how a piece is written, as the law's dict -/
def Nd (kvs : List (Key × V)) : Prop := (kvs.map (·.1)).Nodup
theorem Nd.nil : Nd [] := List.Pairwise.nil
theorem Nd.put {kvs : List (Key × V)} {k : Key} {v : V} (h : Nd kvs) : Nd (putK kvs k v) := by
  unfold Nd putK
  split
  · rw [List.map_map]
    rw [show ((fun x : Key × V => x.1) ∘ fun kv : Key × V => if kv.1 = k then (kv.1, v) else kv) = (fun x => x.1) from funext fun kv => by
      show (if kv.1 = k then (kv.1, v) else kv).1 = kv.1
      split <;> rfl]
    exact h
  · rename_i e
    have n : valV kvs k = none := by
      have := valV_any k kvs
      cases c : valV kvs k with
      | none => rfl
      | some _ =>
        rw [c] at this
        exact absurd this e
    rw [List.map_append]
    refine List.nodup_append.mpr ⟨h, by simp, fun a ha b hb => ?_⟩
    rintro rfl
    simp only [List.map_cons, List.map_nil, List.mem_singleton] at hb
    subst hb
    rw [valV_any, n] at e
    obtain ⟨⟨k2, v2⟩, hm, rfl⟩ := List.mem_map.mp ha
    have := List.any_eq_false.mp (show (kvs.any fun kv => decide (kv.1 = k2)) = false by rw [valV_any, n]; rfl) _ hm
    simp at this
theorem Nd.merge : ∀ {more kvs : List (Key × V)}, Nd kvs → Nd (mergeK kvs more)
  | [], _, h => h
  | p :: ps, kvs, h => Nd.merge (more := ps) (Nd.put (k := p.1) (v := p.2) h)
structure LF (kvs : List (Key × V)) (lp : Addr) (d : PD) : Prop where
  nd : Nd kvs
  len : kvs.length ≤ 8
  w : valV kvs kw = some (.str d.word)
  p : valV kvs kp = some (.ref lp)
  b : valV kvs kb = some (.bl d.broken)
  m : valV kvs km = some (.bl d.marked)
  a : valV kvs ka = some (.str d.ahead)
  h : valV kvs kh = some (.str d.behind)
  n : valV kvs kn = some (.int d.blanks)
  l : valV kvs kl = some (.bl d.left)
def DictAt (G : Hp) (q lp : Addr) (d : PD) : Prop := ∃ kvs, G q = some (.dK kvs) ∧ G lp = some (.lst (d.parts.map V.str)) ∧ LF kvs lp d
theorem DictAt.same {G G' : Hp} {q lp : Addr} {d : PD} (s : Same G G') (h : DictAt G q lp d) : DictAt G' q lp d := by
  obtain ⟨kvs, h1, h2, h3⟩ := h
  exact ⟨kvs, s _ _ h1, s _ _ h2, h3⟩
def spLPiece : Sp := fun vs H Q _ => ∃ (b : Addr) (m : Int), vs = [.ref b, .int m] ∧ BoxAt H b ∧ 0 < m ∧ m ≤ 8 ∧
  ∀ q lp d H', Kept b H H' → BoxAt H' b → d.Ok → d.parts.length ≤ 8 → d.word.length ≤ 3 → (d.parts.length : Int) ≤ m → DictAt H' q lp d → H q = none → H lp = none → Q (.ref q) H'
theorem merge2 (kvs : List (Key × V)) (k1 k2 : Key) (v1 v2 : V) (j : Key) (ne : k1 ≠ k2) : valV (mergeK kvs (mergeK [] [(k1, v1), (k2, v2)])) j = if j = k2 then some v2 else if j = k1 then some v1 else valV kvs j := by
  have e : mergeK [] [(k1, v1), (k2, v2)] = [(k1, v1), (k2, v2)] := by
    show putK (putK [] k1 v1) k2 v2 = _
    have e1 : putK ([] : List (Key × V)) k1 v1 = [(k1, v1)] := rfl
    rw [e1, putK_new]
    · rfl
    · rw [valV_neg ne]
      rfl
  rw [e]
  show valV (putK (putK kvs k1 v1) k2 v2) j = _
  rw [valV_put, valV_put]
theorem len2 (kvs : List (Key × V)) (k1 k2 : Key) (v1 v2 : V) : (mergeK [] [(k1, v1), (k2, v2)]).length ≤ 2 := length_mergeK _ _
abbrev sLPiece : Stmt := top 85
def lpN : List Str := ["_law_box_here", "_law_many", "_law_found", "_law_place", "_law_turn"]
section
variable {P : Program} {w : World} {K : PySem.W.Frag} {mg : Str → Option Value} {base : Heap}
theorem scLPiece : FnScope lpN ["_law_box_here", "_law_many"] (defScope sLPiece) := ⟨rfl, rfl, rfl, by decide +kernel, rfl, by decide +kernel, by decide +kernel⟩
theorem ok_lpiece {f fT fK fN : Addr} {fd dT dK dN : FuncData} (F : Fun K "_law_piece" "_law_piece" sLPiece f fd) (hrange : mg "range" = none)
    (GT : FnOk P w K mg base CX0 1 fT dT ["_law_box_here", "_law_many"] spTake) (gT : mg "_law_take" = some (.ref fT)) (kT : PySem.W.keepIn K (.ref fT) = true) (bT : Binds K dT ["_law_box_here", "_law_many"] [])
    (GK : FnOk P w K mg base CX0 2 fK dK ["_law_box_here", "_law_items"] (spPick K)) (gK : mg "_law_pick" = some (.ref fK)) (kK : PySem.W.keepIn K (.ref fK) = true) (bK : Binds K dK ["_law_box_here", "_law_items"] [])
    (GN : FnOk P w K mg base CX0 3 fN dN ["_law_box_here", "_law_most"] spLName) (gN : mg "_law_name" = some (.ref fN)) (kN : PySem.W.keepIn K (.ref fN) = true) (bN : Binds K dN ["_law_box_here", "_law_most"] []) : FnOk P w K mg base CX0 4 f fd ["_law_box_here", "_law_many"] spLPiece := by
  refine F.ok scLPiece (fun vs H Q E h => ?_) (fun cdv A outer s H vs Q E hr h => ?_)
  · obtain ⟨b, m, rfl, _⟩ := h
    rfl
  · obtain ⟨b, m, rfl, hb, m0, m8, k⟩ := h
    have hr1 := hr.mono (show 1 ≤ 3 by decide)
    have hr2 := hr.mono (show 2 ≤ 3 by decide)
    have hu : (A.deeper (envOfC "_law_piece" (defScope sLPiece) s.heap.objs.size f cdv)).units + 1 < cLine := by have := hr.units; omega
    refine ⟨_, (C8.pss_cut (ps_set (i := 2) scLPiece.nd rfl (.inl rfl) (pe_disp (pps_cons pe_str (pe_call GN hr (by rfl) gN kN bN .nil pass0 (pa_cons (pv 0) (pa_cons pe_int pa_nil))) (pps_cons pe_str
        (pe_lc (own := [("_law_turn", 4)]) (g := gName 4) (tt := tYes) (by rfl) scLPiece.nd (pi_range1 (by rfl) hrange (pa_cons (pe_op op_add pe_int (pe_call GT hr1 (by rfl) gT kT bT .nil pass0 (pa_cons (pv 0) (pa_cons (pv 1) pa_nil)))) pa_nil)) (blkOk_by (N := lpN) (sc := defScope sLPiece) (by decide +kernel))
          (fun _ _ _ _ _ => pg_name (i := 4) scLPiece.nd rfl (Or.inl rfl)) (fun _ _ _ _ _ => pts_nil)
          (fun _ _ _ _ _ => pe_call GN hr (by rfl) gN kN bN .nil pass0 (pa_cons (pv 0) (pa_cons pe_int pa_nil)))) pps_nil)) rfl rfl (by decide) (by decide)))
      (C8.pss_cut (ps_expr (pe_dupd (pv 2) (pe_disp (pps_cons pe_str (pe_cmpR op_eq (pe_call GT hr1 (by rfl) gT kT bT .nil pass0 (pa_cons (pv 0) (pa_cons pe_int pa_nil))) pe_int (nomark _)) (pps_cons pe_str (pe_cmpR op_eq (pe_call GT hr1 (by rfl) gT kT bT .nil pass0 (pa_cons (pv 0) (pa_cons pe_int pa_nil))) pe_int (nomark _)) pps_nil)) rfl rfl (by decide) (by decide)) ⟨by rfl, by rfl, by rfl, by rfl⟩))
      (C8.pss_cut (ps_for PassesOwn.never rfl (pi_tup (pe_tup (pa_cons pe_str (pa_cons pe_str pa_nil)))) (pg_name (i := 3) scLPiece.nd rfl (.inl rfl))
        (pss_one (ps_dput hu (pv 2) (pv 3) (pe_ifExp (pt_cmpR op_eq (pe_call GT hr1 (by rfl) gT kT bT .nil pass0 (pa_cons (pv 0) (pa_cons pe_int pa_nil))) pe_int (nomark _)) (pe_call GN hr (by rfl) gN kN bN .nil pass0 (pa_cons (pv 0) (pa_cons pe_int pa_nil))) pe_str) (by rfl))))
      (pss_cons (ps_expr (pe_dupd (pv 2) (pe_disp (pps_cons pe_str (pe_call GK hr2 (by rfl) gK kK bK .nil pass0 (pa_cons (pv 0) (pa_cons (pe_lst (pa_cons pe_int (pa_cons pe_int (pa_cons pe_int (pa_cons pe_int (pa_cons pe_int pa_nil)))))) pa_nil))) (pps_cons pe_str (pe_cmpR op_eq (pe_call GT hr1 (by rfl) gT kT bT .nil pass0 (pa_cons (pv 0) (pa_cons pe_int pa_nil))) pe_int (nomark _)) pps_nil)) rfl rfl (by decide) (by decide)) ⟨by rfl, by rfl, by rfl, by rfl⟩))
      (pss_one (ps_ret (pv 2))))))), ?_⟩
    refine ⟨fun σ G => ∃ (q lp : Addr) (wd : Str) (ps : List Str) (kvs : List (Key × V)), σ = [some (.ref b), some (.int m), some (.ref q), none, none] ∧ Kept b H G ∧ BoxAt G b ∧ H q = none ∧ H lp = none ∧ G q = some (.dK kvs) ∧ G lp = some (.lst (ps.map V.str)) ∧ kvs.length ≤ 2 ∧ (nameB wd = true ∧ wd.length ≤ 3) ∧ 0 < ps.length ∧ (ps.length ≤ 8 ∧ (ps.length : Int) ≤ m) ∧ (∀ z ∈ ps, nameB z = true) ∧ Nd kvs ∧ valV kvs kw = some (.str wd) ∧ valV kvs kp = some (.ref lp), ?_, ?_⟩
    · refine fun q nq => ?_
      have qb : q ≠ b := hb.ne nq
      refine ⟨_, rfl, b, 3, rfl, hb.new nq, by decide, by decide, fun wd G1 k1 b1 gw lw => ?_⟩
      refine ⟨_, rfl, _, rfl, b, m, rfl, b1, m0, by omega, fun r o r0 r1 ob => ?_⟩
      have kB : Kept b (upd H q (.dK [])) (upd G1 b o) := k1.trans Kept.box
      have bB : BoxAt (upd G1 b o) b := BoxAt.box ob
      generalize upd G1 b o = G2 at *
      refine ⟨1, r, rfl, rfl, 1 + r, rfl, by omega, by omega, fun D nD => lc_range (lo := 0) (n := Int.toNat _) (fun n G' => ∃ zs : List Str, Kept b G2 G' ∧ BoxAt G' b ∧ D ≠ b ∧ G' D = some (.lst (zs.map V.str)) ∧ zs.length = n ∧ ∀ z ∈ zs, nameB z = true)
        ⟨[], Kept.new nD, bB.new nD, bB.ne nD, upd_same, rfl, fun z h => (List.not_mem_nil h).elim⟩ ?_ ?_⟩
      · rintro n G' hn ⟨zs, k', b', nb, hD, hl, hz⟩
        refine ⟨rfl, _, rfl, b, 6, rfl, b', by decide, by decide, fun z G3 k3 b3 gz _ => ⟨_, k3 _ _ nb hD, ?_, zs ++ [z], fun c u n1 e => ?_, ?_, nb, by rw [upd_same, List.map_append]; rfl, by rw [List.length_append, hl]; rfl, fun y hy => ?_⟩⟩
        · rw [List.length_map, hl]
          exact small1000 (by omega)
        · rw [upd_ne (ne_of_none e nD)]
          exact k3 _ _ n1 (k' _ _ n1 e)
        · obtain ⟨o2, e2, y2⟩ := b3
          exact ⟨o2, by rw [upd_ne (Ne.symm nb)]; exact e2, y2⟩
        · rcases List.mem_append.mp hy with h | h
          · exact hz y h
          · rw [List.mem_singleton] at h
            subst h
            exact gz
      · rintro G' ⟨zs, k', b', nb, hD, hl, hz⟩
        have k0 : Kept b (upd H q (.dK [])) G' := kB.trans k'
        have hq : G' q = some (.dK []) := k0 _ _ qb upd_same
        have nlp : H D = none := by
          cases e : H D with
          | none => rfl
          | some u =>
            have := kB _ _ nb (Same.new nq _ _ e)
            rw [nD] at this
            cases this
        have Dq : D ≠ q := ne_of hD hq (fun z => nomatch z)
        refine ⟨hq, [(kw, .str wd), (kp, .ref D)], rfl, (by show 2 ≤ 15; decide), q, D, wd, zs, _, rfl, fun c u n1 e => ?_, ?_, nq, nlp, upd_same, by rw [upd_ne Dq]; exact hD, len2 [] _ _ _ _, ⟨gw, by omega⟩, by omega, ⟨by omega, by omega⟩, hz, Nd.merge Nd.nil, ?_, ?_⟩
        · rw [upd_ne (ne_of_none e nq)]
          exact k0 _ _ n1 (Same.new nq _ _ e)
        · obtain ⟨o2, e2, y2⟩ := b'
          exact ⟨o2, by rw [upd_ne (Ne.symm qb)]; exact e2, y2⟩
        · have := merge2 [] kw kp (.str wd) (.ref D) kw (by decide)
          exact this
        · have := merge2 [] kw kp (.str wd) (.ref D) kp (by decide)
          exact this
    · rintro σ G ⟨q, lp, wd, ps, kvs, rfl, kG, bG, nq, nl, hq, hl, lk, ⟨gw, lw⟩, p0, ⟨p8, pm⟩, gp, vnd, vw, vp⟩
      have qb : q ≠ b := fun z => by
        rw [z] at nq
        obtain ⟨o, e, _⟩ := hb
        rw [nq] at e
        cases e
      refine ⟨fun σ G => ∃ (kvs : List (Key × V)) (bb mm : Bool), σ = [some (.ref b), some (.int m), some (.ref q), none, none] ∧ Kept b H G ∧ BoxAt G b ∧ G q = some (.dK kvs) ∧ G lp = some (.lst (ps.map V.str)) ∧ kvs.length ≤ 4 ∧ Nd kvs ∧ valV kvs kw = some (.str wd) ∧ valV kvs kp = some (.ref lp) ∧ valV kvs kb = some (.bl bb) ∧ valV kvs km = some (.bl mm), ?_, ?_⟩
      · refine ⟨_, rfl, q, rfl, .inl ⟨_, .inl hq⟩, fun u nu => ?_⟩
        have ub : u ≠ b := bG.ne nu
        have qu : q ≠ u := ne_of_none hq nu
        refine ⟨_, rfl, b, 2, rfl, bG.new nu, by decide, by decide, fun r1 o1 _ _ ob1 => ⟨rfl, _, rfl, b, 2, rfl, BoxAt.box ob1, by decide, by decide, fun r2 o2 _ _ ob2 => ⟨rfl, ?_⟩⟩⟩
        have kk : Kept b (upd G u (.dK [])) (upd (upd (upd G u (.dK [])) b o1) b o2) := Kept.box.trans Kept.box
        have bb2 : BoxAt (upd (upd (upd G u (.dK [])) b o1) b o2) b := BoxAt.box ob2
        generalize upd (upd (upd G u (.dK [])) b o1) b o2 = G3 at *
        have kG3 : Kept b G G3 := (Kept.new nu).trans kk
        have hu3 : G3 u = some (.dK []) := kk _ _ ub upd_same
        have hq3 := kG3 _ _ qb hq
        have lpq : lp ≠ q := ne_of hl hq (fun z => nomatch z)
        have lpb : lp ≠ b := fun z => by
          rw [z] at nl
          obtain ⟨o, e, _⟩ := hb
          rw [nl] at e
          cases e
        have hl3 := kG3 _ _ lpb hl
        have lpu : lp ≠ u := ne_of_none hl nu
        refine ⟨hu3, [(kb, .bl (decide (V.int r1 = V.int 0))), (km, .bl (decide (V.int r2 = V.int 0)))], rfl, (by show 2 ≤ 15; decide), u, _, _, rfl, by rw [upd_ne qu]; exact hq3, upd_same, qu, by have := len2 [] kb km (.bl (decide (V.int r1 = V.int 0))) (.bl (decide (V.int r2 = V.int 0))); omega, _, decide (V.int r1 = V.int 0), decide (V.int r2 = V.int 0), rfl, fun c w n1 e => ?_, ?_, upd_same, ?_, ?_, Nd.merge vnd, ?_, ?_, ?_, ?_⟩
        · have hc := kG _ _ n1 e
          rw [upd_ne (ne_of_none e nq), upd_ne (ne_of_none hc nu)]
          exact kG3 _ _ n1 hc
        · obtain ⟨o3, e3, y3⟩ := bb2
          exact ⟨o3, by rw [upd_ne (Ne.symm qb), upd_ne (Ne.symm ub)]; exact e3, y3⟩
        · rw [upd_ne lpq, upd_ne lpu]
          exact hl3
        · have h1 := length_mergeK (mergeK [] [(kb, V.bl (decide (V.int r1 = V.int 0))), (km, .bl (decide (V.int r2 = V.int 0)))]) kvs
          have h2 := len2 [] kb km (.bl (decide (V.int r1 = V.int 0))) (.bl (decide (V.int r2 = V.int 0)))
          omega
        · rw [merge2 _ _ _ _ _ _ (by decide), if_neg (by decide), if_neg (by decide)]
          exact vw
        · rw [merge2 _ _ _ _ _ _ (by decide), if_neg (by decide), if_neg (by decide)]
          exact vp
        · rw [merge2 _ _ _ _ _ _ (by decide), if_neg (by decide), if_pos rfl]
        · rw [merge2 _ _ _ _ _ _ (by decide), if_pos rfl]
      · rintro σ G ⟨kvs, bb, mm, rfl, kG, bG, hq, hl, lk, vnd, vw, vp, vb, vm⟩
        have lpq : lp ≠ q := ne_of hl hq (fun z => nomatch z)
        have lpb : lp ≠ b := fun z => by
          rw [z] at nl
          obtain ⟨o, e, _⟩ := hb
          rw [nl] at e
          cases e
        refine ⟨fun σ G => ∃ (x3 : Option V) (kvs : List (Key × V)) (a c : Str), σ = [some (.ref b), some (.int m), some (.ref q), x3, none] ∧ Kept b H G ∧ BoxAt G b ∧ G q = some (.dK kvs) ∧ G lp = some (.lst (ps.map V.str)) ∧ kvs.length ≤ 6 ∧ Nd kvs ∧ valV kvs kw = some (.str wd) ∧ valV kvs kp = some (.ref lp) ∧ valV kvs kb = some (.bl bb) ∧ valV kvs km = some (.bl mm) ∧
          remarkB a = true ∧ remarkB c = true ∧ valV kvs ka = some (.str a) ∧ valV kvs kh = some (.str c), ?_, ?_⟩
        · refine ⟨(by show 2 ≤ sizeLine; decide), fun T nT => ?_⟩
          have sT := Same.new nT (o := .tup [.str "ahead", .str "behind"])
          have Tb : T ≠ b := bG.ne nT
          refine ⟨T, rfl, ⟨_, SqT.of upd_same⟩, for_tup (K := K) (xs := [.str "ahead", .str "behind"]) (fun i σ G' => ∃ (x3 : Option V) (kvs : List (Key × V)), σ = [some (.ref b), some (.int m), some (.ref q), x3, none] ∧ Kept b H G' ∧ BoxAt G' b ∧ G' T = some (.tup [.str "ahead", .str "behind"]) ∧ G' q = some (.dK kvs) ∧ G' lp = some (.lst (ps.map V.str)) ∧ kvs.length ≤ 4 + i ∧ Nd kvs ∧ valV kvs kw = some (.str wd) ∧ valV kvs kp = some (.ref lp) ∧ valV kvs kb = some (.bl bb) ∧ valV kvs km = some (.bl mm) ∧
            (1 ≤ i → ∃ a, remarkB a = true ∧ valV kvs ka = some (.str a)) ∧ (2 ≤ i → ∃ c, remarkB c = true ∧ valV kvs kh = some (.str c)))
            ⟨_, kvs, rfl, kG.trans (Kept.of_same sT), bG.new nT, upd_same, sT _ _ hq, sT _ _ hl, lk, vnd, vw, vp, vb, vm, fun z => absurd z (by decide), fun z => absurd z (by decide)⟩ (fun i σ G' _ z => by
              obtain ⟨_, _, _, _, _, z, _⟩ := z
              exact SqT.of z) ?_ ?_⟩
          · rintro i x σ G' hi ⟨x3, kvs, rfl, kG, bG, hT, hq, hl, lk, vnd, vw, vp, vb, vm, va, vh⟩
            have fin : ∀ (z : Str) (Gz : Hp), remarkB z = true → Kept b G' Gz → BoxAt Gz b → ∃ a H4, V.ref q = .ref a ∧ DPut Gz a x (.str z) H4 ∧ ∃ (x3' : Option V) (kvs : List (Key × V)), [some (V.ref b), some (.int m), some (.ref q), some x, none] = [some (.ref b), some (.int m), some (.ref q), x3', none] ∧ Kept b H H4 ∧ BoxAt H4 b ∧ H4 T = some (.tup [.str "ahead", .str "behind"]) ∧ H4 q = some (.dK kvs) ∧ H4 lp = some (.lst (ps.map V.str)) ∧ kvs.length ≤ 4 + (i + 1) ∧ Nd kvs ∧ valV kvs kw = some (.str wd) ∧ valV kvs kp = some (.ref lp) ∧ valV kvs kb = some (.bl bb) ∧ valV kvs km = some (.bl mm) ∧
                (1 ≤ i + 1 → ∃ a, remarkB a = true ∧ valV kvs ka = some (.str a)) ∧ (2 ≤ i + 1 → ∃ c, remarkB c = true ∧ valV kvs kh = some (.str c)) := fun z Gz rz kz bz => by
              have hqz := kz _ _ qb hq
              have hTz := kz _ _ Tb hT
              have hlz := kz _ _ lpb hl
              have Tq : T ≠ q := ne_of hT hq (fun z => nomatch z)
              have hk : ∀ k : Key, Kept b H (upd Gz q (.dK (putK kvs k (.str z)))) ∧ BoxAt (upd Gz q (.dK (putK kvs k (.str z)))) b ∧ upd Gz q (.dK (putK kvs k (.str z))) T = some (.tup [.str "ahead", .str "behind"]) ∧ upd Gz q (.dK (putK kvs k (.str z))) lp = some (.lst (ps.map V.str)) ∧ (putK kvs k (.str z)).length ≤ 4 + (i + 1) := fun k => by
                refine ⟨fun c w n1 e => ?_, ?_, by rw [upd_ne Tq]; exact hTz, by rw [upd_ne lpq]; exact hlz, by have := length_putK kvs k (.str z); omega⟩
                · rw [upd_ne (ne_of_none e nq)]
                  exact kz _ _ n1 (kG _ _ n1 e)
                · obtain ⟨o3, e3, y3⟩ := bz
                  exact ⟨o3, by rw [upd_ne (Ne.symm qb)]; exact e3, y3⟩
              have i2 : i < 2 := (List.getElem?_eq_some_iff.mp hi).1
              have ll : kvs.length < sizeLine := small1000 (by omega)
              rcases (show i = 0 ∨ i = 1 by omega) with rfl | rfl
              · cases hi
                obtain ⟨p1, p2, p3, p4, p5⟩ := hk ka
                refine ⟨q, _, rfl, DPut.k (k := ka) hqz ll, _, _, rfl, p1, p2, p3, upd_same, p4, p5, Nd.put vnd, ?_, ?_, ?_, ?_, fun _ => ⟨z, rz, ?_⟩, fun z => absurd z (by decide)⟩
                · rw [valV_put, if_neg (by decide)]; exact vw
                · rw [valV_put, if_neg (by decide)]; exact vp
                · rw [valV_put, if_neg (by decide)]; exact vb
                · rw [valV_put, if_neg (by decide)]; exact vm
                · rw [valV_put, if_pos rfl]
              · cases hi
                obtain ⟨p1, p2, p3, p4, p5⟩ := hk kh
                obtain ⟨a, ra, ea⟩ := va (Nat.le_refl 1)
                refine ⟨q, _, rfl, DPut.k (k := kh) hqz ll, _, _, rfl, p1, p2, p3, upd_same, p4, p5, Nd.put vnd, ?_, ?_, ?_, ?_, fun _ => ⟨a, ra, ?_⟩, fun _ => ⟨z, rz, ?_⟩⟩
                · rw [valV_put, if_neg (by decide)]; exact vw
                · rw [valV_put, if_neg (by decide)]; exact vp
                · rw [valV_put, if_neg (by decide)]; exact vb
                · rw [valV_put, if_neg (by decide)]; exact vm
                · rw [valV_put, if_neg (by decide)]; exact ea
                · rw [valV_put, if_pos rfl]
            refine ⟨_, rfl, b, 3, rfl, bG, by decide, by decide, fun r o _ _ ob => ⟨rfl, _, rfl, ?_⟩⟩
            cases decide (V.int r = V.int 0) with
            | true =>
              refine iteY rfl ⟨_, rfl, b, 6, rfl, BoxAt.box ob, by decide, by decide, fun z Gz kz bz gz _ => ⟨_, rfl, _, rfl, ?_⟩⟩
              exact fin z Gz (by unfold remarkB; rw [gz, Bool.or_true]) (Kept.box.trans kz) bz
            | false =>
              refine iteN rfl ⟨_, rfl, _, rfl, ?_⟩
              exact fin "" _ (by decide +kernel) Kept.box (BoxAt.box ob)
          · rintro σ G' ⟨x3, kvs, rfl, kG, bG, hT, hq, hl, lk, vnd, vw, vp, vb, vm, va, vh⟩
            obtain ⟨a, ra, ea⟩ := va (by decide)
            obtain ⟨c, rc, ec⟩ := vh (by decide)
            exact ⟨_, kvs, a, c, rfl, kG, bG, hq, hl, lk, vnd, vw, vp, vb, vm, ra, rc, ea, ec⟩
        · rintro σ G ⟨x3, kvs, a, c, rfl, kG, bG, hq, hl, lk, vnd, vw, vp, vb, vm, ra, rc, va, vh⟩
          refine ⟨_, rfl, q, rfl, .inl ⟨_, .inl hq⟩, fun u nu => ?_⟩
          have ub : u ≠ b := bG.ne nu
          have qu : q ≠ u := ne_of_none hq nu
          have bu := bG.new nu (o := .dK [])
          have su := Same.new nu (o := .dK [])
          refine ⟨_, rfl, (by show 5 ≤ sizeLine; decide), fun l nl2 => ⟨b, l, _, rfl, bu.new nl2, bu.ne nl2, SqL.of upd_same, by decide, by decide, fun v o1 hv ob1 => ?_⟩⟩
          obtain ⟨n, rfl, n0, n3⟩ : ∃ n : Int, v = .int n ∧ 0 ≤ n ∧ n < 3 := by
            simp only [List.mem_cons, List.not_mem_nil, or_false] at hv
            rcases hv with rfl | rfl | rfl | rfl | rfl
            · exact ⟨_, rfl, by decide, by decide⟩
            · exact ⟨_, rfl, by decide, by decide⟩
            · exact ⟨_, rfl, by decide, by decide⟩
            · exact ⟨_, rfl, by decide, by decide⟩
            · exact ⟨_, rfl, by decide, by decide⟩
          refine ⟨_, rfl, b, 5, rfl, BoxAt.box ob1, by decide, by decide, fun r2 o2 _ _ ob2 => ⟨rfl, ?_⟩⟩
          have kk : Kept b (upd G u (.dK [])) (upd (upd (upd (upd G u (.dK [])) l (.lst [.int 0, .int 0, .int 0, .int 1, .int 2])) b o1) b o2) := ((Kept.new nl2).trans Kept.box).trans Kept.box
          have bb2 : BoxAt (upd (upd (upd (upd G u (.dK [])) l (.lst [.int 0, .int 0, .int 0, .int 1, .int 2])) b o1) b o2) b := BoxAt.box ob2
          generalize upd (upd (upd (upd G u (.dK [])) l (.lst [.int 0, .int 0, .int 0, .int 1, .int 2])) b o1) b o2 = G3 at *
          have kG3 : Kept b G G3 := (Kept.new nu).trans kk
          have hu3 : G3 u = some (.dK []) := kk _ _ ub upd_same
          have hq3 := kG3 _ _ qb hq
          have hl3 := kG3 _ _ lpb hl
          have lpu : lp ≠ u := ne_of_none hl nu
          refine ⟨hu3, [(kn, .int n), (kl, .bl (decide (V.int r2 = V.int 0)))], rfl, (by show 2 ≤ 15; decide), u, _, _, rfl, by rw [upd_ne qu]; exact hq3, upd_same, qu, by have := len2 [] kn kl (.int n) (.bl (decide (V.int r2 = V.int 0))); omega, _, rfl, ?_⟩
          refine k q lp ⟨wd, ps, bb, mm, a, c, n, decide (V.int r2 = V.int 0)⟩ _ (fun c w n1 e => ?_) ?_ ⟨gw, p0, by show ps.length ≤ 1000; omega, gp, ra, rc, n0, n3⟩ p8 lw pm ⟨_, upd_same, ?_, Nd.merge vnd, by have h1 := length_mergeK (mergeK [] [(kn, V.int n), (kl, .bl (decide (V.int r2 = V.int 0)))]) kvs; have h2 := len2 [] kn kl (.int n) (.bl (decide (V.int r2 = V.int 0))); omega, ?_, ?_, ?_, ?_, ?_, ?_, ?_, ?_⟩ nq nl
          · have hc := kG _ _ n1 e
            rw [upd_ne (ne_of_none e nq), upd_ne (ne_of_none hc nu)]
            exact kG3 _ _ n1 hc
          · obtain ⟨o3, e3, y3⟩ := bb2
            exact ⟨o3, by rw [upd_ne (Ne.symm qb), upd_ne (Ne.symm ub)]; exact e3, y3⟩
          · rw [upd_ne lpq, upd_ne lpu]
            exact hl3
          · rw [merge2 _ _ _ _ _ _ (by decide), if_neg (by decide), if_neg (by decide)]; exact vw
          · rw [merge2 _ _ _ _ _ _ (by decide), if_neg (by decide), if_neg (by decide)]; exact vp
          · rw [merge2 _ _ _ _ _ _ (by decide), if_neg (by decide), if_neg (by decide)]; exact vb
          · rw [merge2 _ _ _ _ _ _ (by decide), if_neg (by decide), if_neg (by decide)]; exact vm
          · rw [merge2 _ _ _ _ _ _ (by decide), if_neg (by decide), if_neg (by decide)]; exact va
          · rw [merge2 _ _ _ _ _ _ (by decide), if_neg (by decide), if_neg (by decide)]; exact vh
          · rw [merge2 _ _ _ _ _ _ (by decide), if_neg (by decide), if_pos rfl]
          · rw [merge2 _ _ _ _ _ _ (by decide), if_pos rfl]
end
end Lay
set_option Elab.async false
set_option linter.all false
set_option maxRecDepth 100000
set_option maxHeartbeats 4000000
set_option pp.maxSteps 1500
namespace Lay
open PySem PySem.Spec PyProof.Rows L2
section
variable {G : Hp} {q lp : Addr} {d : PD} (h : DictAt G q lp d)
include h
theorem dg_w : DGet G q (.str "word") (some (.str d.word)) := by
  obtain ⟨kvs, h1, _, h3⟩ := h
  exact .inl ⟨kvs, kw, .inl h1, rfl, h3.w.symm⟩
theorem dg_p : DGet G q (.str "parts") (some (.ref lp)) := by
  obtain ⟨kvs, h1, _, h3⟩ := h
  exact .inl ⟨kvs, kp, .inl h1, rfl, h3.p.symm⟩
theorem dg_b : DGet G q (.str "broken") (some (.bl d.broken)) := by
  obtain ⟨kvs, h1, _, h3⟩ := h
  exact .inl ⟨kvs, kb, .inl h1, rfl, h3.b.symm⟩
theorem dg_m : DGet G q (.str "marked") (some (.bl d.marked)) := by
  obtain ⟨kvs, h1, _, h3⟩ := h
  exact .inl ⟨kvs, km, .inl h1, rfl, h3.m.symm⟩
theorem dg_a : DGet G q (.str "ahead") (some (.str d.ahead)) := by
  obtain ⟨kvs, h1, _, h3⟩ := h
  exact .inl ⟨kvs, ka, .inl h1, rfl, h3.a.symm⟩
theorem dg_h : DGet G q (.str "behind") (some (.str d.behind)) := by
  obtain ⟨kvs, h1, _, h3⟩ := h
  exact .inl ⟨kvs, kh, .inl h1, rfl, h3.h.symm⟩
theorem dg_n : DGet G q (.str "blanks") (some (.int d.blanks)) := by
  obtain ⟨kvs, h1, _, h3⟩ := h
  exact .inl ⟨kvs, kn, .inl h1, rfl, h3.n.symm⟩
theorem dg_l : DGet G q (.str "left") (some (.bl d.left)) := by
  obtain ⟨kvs, h1, _, h3⟩ := h
  exact .inl ⟨kvs, kl, .inl h1, rfl, h3.l.symm⟩
theorem dg_lp : G lp = some (.lst (d.parts.map V.str)) := by
  obtain ⟨kvs, h1, h2, h3⟩ := h
  exact h2
end
theorem hu_of {k : Nat} {A : Around} (hr : Room k A) : A.units + 1 < cLine := by
  have := hr.units
  omega
def psPiece : List Str := ["self", "word", "parts", "broken", "marked", "ahead", "behind", "blanks", "left"]
def spLMade (K : PySem.W.Frag) (C : Addr) : Sp := fun vs H Q _ => ∃ (q lp : Addr) (d : PD), vs = [.ref q] ∧ DictAt H q lp d ∧ d.Ok ∧ d.parts.length ≤ 30 ∧ ∀ y H', Same H H' → H y = none → PieceAt K C H' y d → Q (.ref y) H'
def frontS (b : Bool) : Str := if b = true then Str.ofString "!" else Str.ofString ""
def endS (b : Bool) : Str := if b = true then Str.ofString "," else Str.ofString ""
def moreS (z : Str) : Str := if z.length = 0 then Str.ofString "" else Str.ofString "  # " ++ z
def flatS (d : PD) (mk : Bool) (rm : Str) : Str := (((((frontS d.left ++ d.word) ++ Str.ofString "(") ++ Txt.join ", " d.parts) ++ endS mk) ++ Str.ofString ")") ++ moreS rm
def spLFlat : Sp := fun vs H Q _ => ∃ (q lp : Addr) (d : PD) (mk : Bool) (rm : Str), vs = [.ref q, .bl mk, .str rm] ∧ DictAt H q lp d ∧ d.Ok ∧ d.parts.length ≤ 30 ∧ remarkB rm = true ∧ Q (.str (flatS d mk rm)) H
abbrev sLMade : Stmt := top 86
theorem str_ne {z : Str} : decide (V.str z = V.str "") = decide (z.length = 0) := by
  apply decide_eq_decide.mpr
  constructor
  · intro e
    rw [V.str.inj e]
    decide
  · intro e
    have : z.cps = #[] := Array.eq_empty_of_size_eq_zero e
    cases z
    cases this
    rfl
section
variable {P : Program} {w : World} {K : PySem.W.Frag} {mg : Str → Option Value} {base : Heap}
theorem scLMade : FnScope ["_law_piece_here", "_law_words"] ["_law_piece_here"] (defScope sLMade) := ⟨rfl, rfl, rfl, by decide +kernel, rfl, by decide +kernel, by decide +kernel⟩
theorem ok_lmade {f fI C : Addr} {fd dI : FuncData} (F : Fun K "_law_made" "_law_made" sLMade f fd) (gC : mg "Piece" = some (.ref C)) (M : Mk K C fI)
    (GI : FnOk P w K mg base CX0 3 fI dI psPiece (spPieceI C K)) (bI : Binds K dI psPiece []) : FnOk P w K mg base CX0 5 f fd ["_law_piece_here"] (spLMade K C) := by
  refine F.ok scLMade (fun vs H Q E h => ?_) (fun cdv A outer s H vs Q E hr h => ?_)
  · obtain ⟨q, lp, d, rfl, _⟩ := h
    rfl
  · obtain ⟨q, lp, d, rfl, hD, o, few, k⟩ := h
    refine ⟨_, (pss_cons (ps_set (i := 1) scLMade.nd rfl (.inl rfl) (pe_tup (pa_cons (pe_dget (hu_of hr) (pv 0) pe_str (fun _ _ => rfl)) (pa_cons (pe_dget (hu_of hr) (pv 0) pe_str (fun _ _ => rfl)) (pa_cons (pe_dget (hu_of hr) (pv 0) pe_str (fun _ _ => rfl)) (pa_cons (pe_dget (hu_of hr) (pv 0) pe_str (fun _ _ => rfl)) (pa_cons (pe_dget (hu_of hr) (pv 0) pe_str (fun _ _ => rfl)) (pa_cons (pe_dget (hu_of hr) (pv 0) pe_str (fun _ _ => rfl)) pa_nil))))))))
      (pss_one (ps_ret (pe_make M GI hr (by rfl) gC bI .nil pass0 (pa_cons (pe_ix ix_tup (pv 1) pe_int (fun _ _ => rfl)) (pa_cons (pe_ix ix_tup (pv 1) pe_int (fun _ _ => rfl)) (pa_cons (pe_ix ix_tup (pv 1) pe_int (fun _ _ => rfl)) (pa_cons (pe_ix ix_tup (pv 1) pe_int (fun _ _ => rfl)) (pa_cons (pe_ix ix_tup (pv 1) pe_int (fun _ _ => rfl)) (pa_cons (pe_ix ix_tup (pv 1) pe_int (fun _ _ => rfl))
        (pa_cons (pe_dget (hu_of hr) (pv 0) pe_str (fun _ _ => rfl)) (pa_cons (pe_dget (hu_of hr) (pv 0) pe_str (fun _ _ => rfl)) pa_nil)))))))))))), ?_⟩
    refine ⟨_, rfl, q, _, rfl, dg_w hD, _, rfl, q, _, rfl, dg_p hD, _, rfl, q, _, rfl, dg_b hD, _, rfl, q, _, rfl, dg_m hD, _, rfl, q, _, rfl, dg_a hD, _, rfl, q, _, rfl, dg_h hD, (by show 6 ≤ sizeLine; decide), fun t nt => ?_⟩
    have st := Same.new nt (o := .tup [.str d.word, .ref lp, .bl d.broken, .bl d.marked, .str d.ahead, .str d.behind])
    have hD1 := hD.same st
    have ht : upd H t (.tup [.str d.word, .ref lp, .bl d.broken, .bl d.marked, .str d.ahead, .str d.behind]) t = some (.tup [.str d.word, .ref lp, .bl d.broken, .bl d.marked, .str d.ahead, .str d.behind]) := upd_same
    generalize upd H t (.tup [.str d.word, .ref lp, .bl d.broken, .bl d.marked, .str d.ahead, .str d.behind]) = G at *
    refine ⟨_, rfl, t, _, 0, _, rfl, rfl, SqT.of ht, rfl, _, rfl, t, _, 1, _, rfl, rfl, SqT.of ht, rfl, _, rfl, t, _, 2, _, rfl, rfl, SqT.of ht, rfl, _, rfl, t, _, 3, _, rfl, rfl, SqT.of ht, rfl, _, rfl, t, _, 4, _, rfl, rfl, SqT.of ht, rfl, _, rfl, t, _, 5, _, rfl, rfl, SqT.of ht, rfl, _, rfl, q, _, rfl, dg_n hD1, _, rfl, q, _, rfl, dg_l hD1, fun x dx nx nd ne => ?_⟩
    have zz := (Same.new nd (o := .own x)).trans (Same.new (fresh_own (o := .own x) nx ne) (o := .ins C dx []))
    refine ⟨x, lp, dx, d, rfl, o, .inl (zz _ _ (dg_lp hD1)), upd_same, fun H2 t2 kp2 hx ht2 => ⟨rfl, ?_⟩⟩
    have s2 := made_same nx nd kp2
    exact k x H2 (st.trans s2) (st.free nx) ⟨dx, t2, hx, ht2⟩
end
end Lay
set_option Elab.async false
set_option linter.all false
set_option maxRecDepth 100000
set_option maxHeartbeats 4000000
set_option pp.maxSteps 900
namespace Lay
open PySem PySem.Spec PyProof.Rows L2 KwX
/-! the bare length; equal pieces -/
def bareN (d : PD) : Int := ((headS d).length : Int) + ((Txt.join ", " d.parts).length : Int) + 1
abbrev sBare : Stmt := inClass (top 22) 1
abbrev sEqPc : Stmt := inClass (top 22) 3
def spBare (K : PySem.W.Frag) (C : Addr) : Sp := fun vs H Q _ => ∃ (p : Addr) (d : PD), vs = [.ref p] ∧ PieceAt K C H p d ∧ d.Ok ∧ d.parts.length ≤ 30 ∧ Q (.int (bareN d)) H
/-- isinstance(x, Piece) -/
def IsP (K : PySem.W.Frag) (C : Addr) (H : Hp) (x : V) (b : Bool) : Prop := ∃ t, TyX K H x t ∧ PySem.W.kitOne K t (.ref C) = some b
theorem IsP.same {K : PySem.W.Frag} {C : Addr} {H H' : Hp} {x : V} {b : Bool} (s : Same H H') (h : IsP K C H x b) : IsP K C H' x b := by
  obtain ⟨t, h1, h2⟩ := h
  exact ⟨t, TyX.same s h1, h2⟩
/-- what isinstance asks of a class -/
structure ClsI (K : PySem.W.Frag) (C : Addr) : Prop where
  cl : Cls K C
  ha : PySem.W.findIn K (.ref C) "__class__" = some (some (.builtin "object.__class__"))
  hn : PySem.W.specialIn K (.builtin "object.__class__") "__get__" = some (some (.builtin "getset_descriptor.__get__"))
  htk : PySem.W.takesIn K (.builtin "object.__class__") = some true
  hm : PySem.W.mroIn K C (.type "object") = some true
theorem ClsI.at {K : PySem.W.Frag} {C a dx : Addr} {H : Hp} {fs : List (Str × V)} (c : ClsI K C) (h : H a = some (.ins C dx fs)) : TyX K H (.ref a) (.ref C) := .base (.ins h c.cl c.ha c.hn c.htk c.hm)
theorem ClsI.yes {K : PySem.W.Frag} {C a dx : Addr} {H : Hp} {fs : List (Str × V)} (c : ClsI K C) (h : H a = some (.ins C dx fs)) : IsP K C H (.ref a) true := ⟨_, c.at h, by unfold PySem.W.kitOne; rw [if_pos (by simp)]⟩
/-- a piece as data -/
def dataL (d : PD) : List PyData := [.str d.word, .tuple (d.parts.map .str), .bool d.broken, .bool d.marked, .str d.ahead, .str d.behind, .int d.blanks, .bool d.left]
def eqB (d e : PD) : Bool := PyData.eqvAll (dataL d) (dataL e)
theorem eqB_eq (d e : PD) : eqB d e = (decide (V.str d.word = .str e.word) && (PyData.eqvAll (d.parts.map .str) (e.parts.map .str) && (decide (V.bl d.broken = .bl e.broken) && (decide (V.bl d.marked = .bl e.marked) && (decide (V.str d.ahead = .str e.ahead) && (decide (V.str d.behind = .str e.behind) && (decide (V.int d.blanks = .int e.blanks) && (decide (V.bl d.left = .bl e.left))))))))) := by
  have s : ∀ a b : Str, decide (V.str a = .str b) = (a == b) := fun a b => by
    apply Bool.eq_iff_iff.mpr
    rw [decide_eq_true_iff, beq_iff_eq]
    exact ⟨fun h => V.str.inj h, fun h => by rw [h]⟩
  have bl : ∀ a b : Bool, decide (V.bl a = .bl b) = (a == b) := fun a b => by cases a <;> cases b <;> decide
  have it : ∀ a b : Int, decide (V.int a = .int b) = (a == b) := fun a b => dec_int
  unfold eqB dataL
  simp only [PyData.eqvAll, PyData.eqv, s, bl, it, Bool.and_true]
theorem eqvAll_strs : ∀ {xs ys : List Str}, PyData.eqvAll (xs.map .str) (ys.map .str) = true → xs = ys
  | [], [], _ => rfl
  | x :: xs, y :: ys, h => by
    simp only [List.map_cons, PyData.eqvAll, PyData.eqv, Bool.and_eq_true, beq_iff_eq] at h
    rw [h.1, eqvAll_strs h.2]
  | [], _ :: _, h => by simp [PyData.eqvAll] at h
  | _ :: _, [], h => by simp [PyData.eqvAll] at h
theorem eqvAll_refl : ∀ xs : List Str, PyData.eqvAll (xs.map .str) (xs.map .str) = true
  | [] => rfl
  | x :: xs => by simp [PyData.eqvAll, PyData.eqv, eqvAll_refl xs]
theorem eqB_self (d : PD) : eqB d d = true := by
  rw [eqB_eq]
  simp [eqvAll_refl]
theorem eqB_iff {d e : PD} : eqB d e = true ↔ d = e := by
  constructor
  · intro h
    rw [eqB_eq] at h
    simp only [Bool.and_eq_true, decide_eq_true_iff] at h
    obtain ⟨h1, h2, h3, h4, h5, h6, h7, h8⟩ := h
    obtain ⟨w, ps, b, m, a, bh, n, l⟩ := d
    obtain ⟨w2, ps2, b2, m2, a2, bh2, n2, l2⟩ := e
    cases h1
    cases h3
    cases h4
    cases h5
    cases h6
    cases h7
    cases h8
    have h2 : ps = ps2 := eqvAll_strs h2
    rw [h2]
  · rintro rfl
    exact eqB_self d
def spEqP (K : PySem.W.Frag) (C : Addr) : Sp := fun vs H Q _ => ∃ (p : Addr) (y : V) (d : PD), vs = [.ref p, y] ∧ PieceAt K C H p d ∧ d.Ok ∧ ((∃ q e, y = .ref q ∧ PieceAt K C H q e ∧ e.Ok ∧ Q (.bl (eqB d e)) H) ∨ (IsP K C H y false ∧ Q (.bl false) H))
theorem strs_dp {K : PySem.W.Frag} {H : Hp} : ∀ ws : List Str, DpAll K H (ws.map V.str) (ws.map PyData.str)
  | [] => .nil
  | w :: ws => .cons (.str w) (strs_dp ws)
theorem canLay_strs : ∀ ws : List Str, (∀ z ∈ ws, PyData.strOk z = true) → PyData.canLayAll0 (ws.map PyData.str) = true
  | [], _ => by simp [PyData.canLayAll0]
  | n :: r, h => by simp [PyData.canLayAll0, PyData.canLay0, h n List.mem_cons_self, canLay_strs r fun z hz => h z (List.mem_cons_of_mem _ hz)]
theorem depth_strs : ∀ ws : List Str, PyData.depthAll (ws.map PyData.str) ≤ 1
  | [] => by simp [PyData.depthAll]
  | n :: r => by
    have := depth_strs r
    simp only [List.map_cons, PyData.depthAll, PyData.depth]
    omega
theorem shaped_strs (ws : List Str) (h : ∀ z ∈ ws, PyData.strOk z = true) : PySem.SeqAt.shaped (.tuple (ws.map PyData.str)) = true := by
  have h1 := depth_strs ws
  have h2 : PyData.depth (.tuple (ws.map PyData.str)) ≤ 64 := by simp only [PyData.depth]; omega
  show (PyData.canLay0 (.tuple (ws.map PyData.str)) && decide (PyData.depth (.tuple (ws.map PyData.str)) ≤ 64)) = true
  rw [Bool.and_eq_true]
  exact ⟨by simp only [PyData.canLay0]; exact canLay_strs ws h, decide_eq_true h2⟩
theorem ascii_strOk {z : Str} (h1 : Txt.isascii z = true) : PyData.strOk z = true := by
  unfold Txt.isascii at h1
  unfold PyData.strOk
  rw [Array.all_eq_true'] at h1 ⊢
  intro c hc
  have := of_decide_eq_true (h1 c hc)
  exact decide_eq_true (by omega)
theorem nameB_ascii {z : Str} (h : nameB z = true) : Txt.isascii z = true := by
  unfold nameB at h
  exact (Bool.and_eq_true_iff.mp (Bool.and_eq_true_iff.mp h).2).1
theorem nameB_strOk {z : Str} (h : nameB z = true) : PyData.strOk z = true := ascii_strOk (nameB_ascii h)
theorem remB_ascii {z : Str} (h : remarkB z = true) : Txt.isascii z = true := by
  unfold remarkB at h
  rcases Bool.or_eq_true_iff.mp h with h | h
  · have e : z = ("" : Str) := V.str.inj (of_decide_eq_true h)
    rw [e]
    decide +kernel
  · exact nameB_ascii h
theorem eqv_tup (xs ys : List PyData) : PyData.eqv (.tuple xs) (.tuple ys) = PyData.eqvAll xs ys := by rw [PyData.eqv]
section
variable {P : Program} {w : World} {K : PySem.W.Frag} {mg : Str → Option Value} {base : Heap}
theorem scBare : FnScope ["self"] ["self"] (defScope sBare) := ⟨rfl, rfl, rfl, by decide +kernel, rfl, by decide +kernel, by decide +kernel⟩
theorem ok_bare {f C fH : Addr} {fd dH : FuncData} (F : Fun K "bare" "Piece.bare" sBare f fd) (B : Bt mg) (Z : PieceC K C) (GH : FnOk P w K mg base CX0 1 fH dH ["piece"] (spText K C headS)) (gH : mg "head_of" = some (.ref fH)) (kH : PySem.W.keepIn K (.ref fH) = true) (bH : Binds K dH ["piece"] []) :
    FnOk P w K mg base CX0 2 f fd ["self"] (spBare K C) := by
  refine F.ok scBare (fun vs H Q E h => ?_) (fun cdv A outer s H vs Q E hr h => ?_)
  · obtain ⟨p, d, rfl, _⟩ := h
    rfl
  · obtain ⟨p, d, rfl, hP, o, few, k⟩ := h
    refine ⟨_, (pss_one (ps_ret (pe_op op_add (pe_op op_add (pe_callB call_len_str (by rfl) B.len PySem.boot_len (pa_cons (pe_call GH hr (by rfl) gH kH bH .nil pass0 (pa_cons (pv 0) pa_nil)) pa_nil)) (pe_callB call_len_str (by rfl) B.len PySem.boot_len (pa_cons (pe_bm PySem.F.plainAttrs_str PySem.F.slot_str_join PySem.F.type_str_join mt_join pe_str (pa_cons (pe_fld (pv 0) rfl) pa_nil)) pa_nil)))
      (pe_callB call_len_str (by rfl) B.len PySem.boot_len (pa_cons pe_str pa_nil))))), ?_⟩
    obtain ⟨dx, t, hp, ht⟩ := id hP
    have hl := headS_len o
    have j1 : (Str.ofString ", ").length = 2 := by decide
    have lj : (Txt.join ", " d.parts).length ≤ 300 := by
      have h1 := join_le ", " d.parts
      have h2 := sum_few (zs := d.parts) (n := 6) fun z hz => nameB_len (o.parts z hz)
      rw [j1] at h1
      omega
    have sm : (d.parts.map (·.length)).sum + d.parts.length * (Str.ofString ", ").length ≤ 16777216 := by
      have h2 := sum_few (zs := d.parts) (n := 6) fun z hz => nameB_len (o.parts z hz)
      rw [j1]
      omega
    refine ⟨_, rfl, p, d, rfl, hP, o, few, _, rfl, KwX.fitsN (by omega), ?_⟩
    refine ⟨rfl, _, rfl, p, C, dx, _, _, rfl, hp, Z.cl, Z.parts, rfl, _, t, d.parts, rfl, rfl, .inr (SqT.of ht), sm, _, rfl, KwX.fitsN (by omega), _, _, rfl, rfl, ?_⟩
    exact ⟨_, rfl, by decide, _, _, rfl, rfl, k⟩
theorem scEqP : FnScope ["self", "other"] ["self", "other"] (defScope sEqPc) := ⟨rfl, rfl, rfl, by decide +kernel, rfl, by decide +kernel, by decide +kernel⟩
theorem ok_eqP {f C : Addr} {fd : FuncData} (F : Fun K "__eq__" "Piece.__eq__" sEqPc f fd) (B : Bt mg) (c : ClsI K C) (Z : PieceC K C) (gC : mg "Piece" = some (.ref C)) : FnOk P w K mg base CX0 1 f fd ["self", "other"] (spEqP K C) := by
  refine F.ok scEqP (fun vs H Q E h => ?_) (fun cdv A outer s H vs Q E hr h => ?_)
  · obtain ⟨p, y, d, rfl, _⟩ := h
    rfl
  · obtain ⟨p, y, d, rfl, ⟨dx, t, hp, ht⟩, o, h⟩ := h
    refine ⟨_, pss_one (ps_ret (pe_and (pe_callB (call_isiK (K := K) rfl) (by rfl) B.isinstance (by decide +kernel) (pa_cons (pv 1) (pa_cons (pe_glob (v := .ref C) (by rfl) gC rfl) pa_nil)))
      (pe_and (pe_cmpR op_eq (pe_fld (pv 0) rfl) (pe_fld (pv 1) rfl) (nomark _))
      (pe_and (pe_cmpR (op_eqD hr.units) (pe_fld (pv 0) rfl) (pe_fld (pv 1) rfl) (nomark _))
      (pe_and (pe_cmpR op_eq (pe_fld (pv 0) rfl) (pe_fld (pv 1) rfl) (nomark _))
      (pe_and (pe_cmpR op_eq (pe_fld (pv 0) rfl) (pe_fld (pv 1) rfl) (nomark _))
      (pe_and (pe_cmpR op_eq (pe_fld (pv 0) rfl) (pe_fld (pv 1) rfl) (nomark _))
      (pe_and (pe_cmpR op_eq (pe_fld (pv 0) rfl) (pe_fld (pv 1) rfl) (nomark _))
      (pe_and (pe_cmpR op_eq (pe_fld (pv 0) rfl) (pe_fld (pv 1) rfl) (nomark _))
      (pe_one (pe_cmpR op_eq (pe_fld (pv 0) rfl) (pe_fld (pv 1) rfl) (nomark _)))))))))))), ?_⟩
    rcases h with ⟨q, e, rfl, ⟨dx2, t2, hq, ht2⟩, o2, k⟩ | ⟨⟨u, ty, eu⟩, k⟩
    · rw [eqB_eq] at k
      have cut : ∀ {c r : Bool} {R : Prop}, (c = true → Q (.bl r) H → R) → (c = false → Q (.bl false) H → R) → Q (.bl (c && r)) H → R := fun {c r R} h1 h2 k => by
        cases c with
        | true => exact h1 rfl k
        | false => exact h2 rfl k
      have sh : PySem.SeqAt.shaped (.tuple (d.parts.map PyData.str)) = true := shaped_strs _ fun z hz => nameB_strOk (o.parts z hz)
      have sh2 : PySem.SeqAt.shaped (.tuple (e.parts.map PyData.str)) = true := shaped_strs _ fun z hz => nameB_strOk (o2.parts z hz)
      refine ⟨_, rfl, _, _, _, _, true, rfl, .own _, c.at hq, (by unfold PySem.W.kitOne; rw [if_pos (by simp)]), _, rfl, iteY rfl ?_⟩
      refine ⟨_, rfl, p, C, dx, _, _, rfl, hp, Z.cl, Z.word, rfl, _, rfl, q, C, dx2, _, _, rfl, hq, Z.cl, Z.word, rfl, rfl, _, rfl, ?_⟩
      refine cut (fun h k => iteY h ?_) (fun h k => iteN h k) k
      refine ⟨_, rfl, p, C, dx, _, _, rfl, hp, Z.cl, Z.parts, rfl, _, rfl, q, C, dx2, _, _, rfl, hq, Z.cl, Z.parts, rfl, .tuple (d.parts.map .str), .tuple (e.parts.map .str), .tup (SqT.of ht) (strs_dp _), .tup (SqT.of ht2) (strs_dp _), sh, sh2, _, rfl, ?_⟩
      rw [eqv_tup]
      refine cut (fun h k => iteY h ?_) (fun h k => iteN h k) k
      refine ⟨_, rfl, p, C, dx, _, _, rfl, hp, Z.cl, Z.broken, rfl, _, rfl, q, C, dx2, _, _, rfl, hq, Z.cl, Z.broken, rfl, rfl, _, rfl, ?_⟩
      refine cut (fun h k => iteY h ?_) (fun h k => iteN h k) k
      refine ⟨_, rfl, p, C, dx, _, _, rfl, hp, Z.cl, Z.marked, rfl, _, rfl, q, C, dx2, _, _, rfl, hq, Z.cl, Z.marked, rfl, rfl, _, rfl, ?_⟩
      refine cut (fun h k => iteY h ?_) (fun h k => iteN h k) k
      refine ⟨_, rfl, p, C, dx, _, _, rfl, hp, Z.cl, Z.ahead, rfl, _, rfl, q, C, dx2, _, _, rfl, hq, Z.cl, Z.ahead, rfl, rfl, _, rfl, ?_⟩
      refine cut (fun h k => iteY h ?_) (fun h k => iteN h k) k
      refine ⟨_, rfl, p, C, dx, _, _, rfl, hp, Z.cl, Z.behind, rfl, _, rfl, q, C, dx2, _, _, rfl, hq, Z.cl, Z.behind, rfl, rfl, _, rfl, ?_⟩
      refine cut (fun h k => iteY h ?_) (fun h k => iteN h k) k
      refine ⟨_, rfl, p, C, dx, _, _, rfl, hp, Z.cl, Z.blanks, rfl, _, rfl, q, C, dx2, _, _, rfl, hq, Z.cl, Z.blanks, rfl, rfl, _, rfl, ?_⟩
      refine cut (fun h k => iteY h ?_) (fun h k => iteN h k) k
      exact ⟨_, rfl, p, C, dx, _, _, rfl, hp, Z.cl, Z.left, rfl, _, rfl, q, C, dx2, _, _, rfl, hq, Z.cl, Z.left, rfl, rfl, k⟩
    · exact ⟨_, rfl, _, _, _, _, false, rfl, .own _, ty, eu, _, rfl, iteN rfl k⟩
end
end Lay
set_option Elab.async false
set_option linter.all false
set_option maxRecDepth 100000
set_option maxHeartbeats 4000000
/-! str(x), x == y, x != y, x + y by what an own class defines. -/
namespace Lay
open PySem PySem.Spec PyProof.Rows L2
section
variable {X : Cx} {CX : CXT} {C f : Addr} {n : Nat} {fd : FuncData} {ps : List Str} {sp : Sp}
/-- a def called beneath, with its values -/
theorem run_sub {A : Around} {pins : List (Addr × Obj)} {σ : L2.St} {H : Hp} {s : Shared} {Q : VK} {us : List Value} {vs : List V} {Post : Value → Shared → Prop} (F : FnOk X.prog X.w X.K X.mg X.base CX n f fd ps sp) (hr : Sub X n A) (hb : Binds X.K fd ps []) (hx : Passes CX X E0)
    (I : Inv X pins σ H s) (r : Vals vs us) (h : sp vs H Q E0) (post : ∀ v u H' s', Inv X pins σ H' s' → RelV v u → Q v H' → Post u s') : wpAny (model X.prog X.w) A (call (.ref f) us) Post X.xe s := by
  have hl : us.length = ps.length := by rw [← r.length]; exact F.len _ _ _ _ h
  have b := hb s us I.kIn (by rw [List.append_nil]; exact hl)
  rw [List.append_nil] at b
  have e := I.env0
  have e0 : Env0 X.prog X.w X.K X.mg X.base A X.stack s H := ⟨by rw [hr.fr]; exact e.frames, e.mod, e.bs, e.bsz, e.funs, e.frf, e.hok, e.bare⟩
  refine wpAny_call (codeAny_mono (F.run A X.stack s H ⟨us, []⟩ us vs Q E0 hr.room e0 b r h) fun r s' hq => ?_)
  cases r with
  | error er => exact hx pins σ H s er s' I hq
  | ok fl =>
    cases fl with
    | ret u =>
      obtain ⟨v, H', I', rv, q⟩ := I.after hq
      exact post v u H' s' I' rv q
    | next => exact False.elim hq
    | brk => exact False.elim hq
    | cont => exact False.elim hq
theorem call_strOwn (F : FnOk X.prog X.w X.K X.mg X.base CX n f fd ps sp) (hs : PySem.W.findIn X.K (.ref C) "__str__" = some (some (.ref f))) (hf : PySem.W.isFn X.K (.ref f) = true) (hr : Room (n + 2) X.A) (hb : Binds X.K fd ps []) (hx : Passes CX X E0) :
    CallR X (.type "str") (fun xs H Q => ∃ (a dx : Addr) (fs : List (Str × V)), xs = [.ref a] ∧ H a = some (.ins C dx fs) ∧ sp [.ref a] H (fun v H' => ∃ z, v = .str z ∧ Q (.str z) H') E0) := by
  intro pins s σ H xs us Q I r h
  obtain ⟨a, dx, fs, rfl, ha, q⟩ := h
  obtain ⟨u, rfl, ru⟩ := vals1 r
  cases ru
  obtain ⟨mA, J, _⟩ := ins_get I.hok ha
  obtain ⟨od, J, _⟩ := J.look
  have sb : Sub X n X.A.in1.in1 := ⟨hr.in1.in1, rfl⟩
  refine PySem.W.kso_call sb.room.units0 I.kIn J hs hf (run_sub (vs := [V.ref a]) F sb hb hx I (.cons rfl .nil) q fun v u H' s' I' rv hq => ?_)
  obtain ⟨z, rfl, hq⟩ := hq
  obtain ⟨t, rfl⟩ := rv
  exact ⟨.str z, H', I', ⟨t, rfl⟩, hq⟩
/-- x == y, two instances of the class -/
theorem op_eqOwn (F : FnOk X.prog X.w X.K X.mg X.base CX n f fd ps sp) (hs : PySem.W.findIn X.K (.ref C) "__eq__" = some (some (.ref f))) (hf : PySem.W.isFn X.K (.ref f) = true) (hr : Room n X.A) (hb : Binds X.K fd ps []) (hx : Passes CX X E0) :
    OpR X (compareOp .Eq) (fun x y H Q => ∃ (a b dx dy : Addr) (fs gs : List (Str × V)), x = .ref a ∧ y = .ref b ∧ H a = some (.ins C dx fs) ∧ H b = some (.ins C dy gs) ∧ sp [.ref a, .ref b] H (fun v H' => ∃ z, v = .bl z ∧ Q (.bl z) H') E0) := by
  intro pins s σ H x y v u Q I rx ry h
  obtain ⟨a, b, dx, dy, fs, gs, rfl, rfl, ha, hb2, q⟩ := h
  cases rx
  cases ry
  obtain ⟨mA, J, _⟩ := ins_get I.hok ha
  obtain ⟨mB, J', _⟩ := ins_get I.hok hb2
  obtain ⟨od, J, _⟩ := J.look
  obtain ⟨od', J', _⟩ := J'.look
  obtain ⟨m, hF⟩ := I.fr
  have sb : Sub X n X.A := ⟨hr, rfl⟩
  show wpAny (model X.prog X.w) X.A (richCompare .Eq (.ref a) (.ref b)) (EP X pins σ Q) X.xe s
  refine PySem.W.cmp_K (op := .Eq) (tb := .ref C) sb.room.units0 hF I.ok.mod.kin J J'.type (by simp [PySem.W.notFirst]) hs hf (run_sub (vs := [V.ref a, V.ref b]) F sb hb hx I (.cons rfl (.cons rfl .nil)) q fun v u H' s' I' rv hq => ?_)
  obtain ⟨z, rfl, hq⟩ := hq
  cases rv
  exact ⟨.bl z, H', I', rfl, hq⟩
/-- x + y, two instances of the class, by its __add__ -/
theorem op_addOwn (F : FnOk X.prog X.w X.K X.mg X.base CX n f fd ps sp) (hs : PySem.W.findIn X.K (.ref C) "__add__" = some (some (.ref f))) (hc : PySem.W.selfFirst X.K C = true) (hf : PySem.W.isFn X.K (.ref f) = true) (hr : Room n X.A) (hb : Binds X.K fd ps []) (hx : Passes CX X E0) :
    OpR X (binaryOp .Add) (fun x y H Q => ∃ (a b dx dy : Addr) (fs gs : List (Str × V)), x = .ref a ∧ y = .ref b ∧ H a = some (.ins C dx fs) ∧ H b = some (.ins C dy gs) ∧ sp [.ref a, .ref b] H (fun v H' => ∃ c, v = .ref c ∧ Q (.ref c) H') E0) := by
  intro pins s σ H x y v u Q I rx ry h
  obtain ⟨a, b, dx, dy, fs, gs, rfl, rfl, ha, hb2, q⟩ := h
  cases rx
  cases ry
  obtain ⟨mA, J, _⟩ := ins_get I.hok ha
  obtain ⟨mB, J', _⟩ := ins_get I.hok hb2
  obtain ⟨od, J, _⟩ := J.look
  obtain ⟨od', J', _⟩ := J'.look
  obtain ⟨m, hF⟩ := I.fr
  have sb : Sub X n X.A := ⟨hr, rfl⟩
  refine PySem.W.binop_K (op := .Add) hF I.ok.mod.kin J J'.type hc hs hf (run_sub (vs := [V.ref a, V.ref b]) F sb hb hx I (.cons rfl (.cons rfl .nil)) q fun v u H' s' I' rv hq => ?_)
  obtain ⟨c, rfl, hq⟩ := hq
  cases rv
  exact ⟨.ref c, H', I', rfl, hq⟩
end
section
variable {prog : Program} {w : World} {A : Around} {E : Value → Shared → Prop} {s : Shared} {K : PySem.W.Frag} {x C f : Addr} {ox : Obj} {od : Option Obj} {b : Value}
theorem check_slot_K {M : Model} {id owner n : String} {rest : List Value} {Q : Unit → Shared → Prop} (hk : builtinKind id = some .slot) (hs : splitId id = some (owner, n))
    (ha : argsOk id ⟨.ref x :: rest, []⟩) (X : K.In s.heap) (I : PySem.W.InstAt s.heap x ox C od) (hm : PySem.W.mroIn K C (.type owner) = some true) (hq : Q () s) :
    wpAny M A (checkBuiltinCall id ⟨.ref x :: rest, []⟩) Q E s := by
  simp only [checkBuiltinCall, hk, hs]
  refine wpAny_bind ?_
  · unfold isInstance
    refine wpAny_bind (I.type.here ((PySem.W.looks_mroIn X hm).here ?_))
    rw [if_neg (by decide : ¬ (!true) = true)]
    cases hsig : Manifest.signature? id with
    | none => exact wpAny_pure hq
    | some sig =>
      simp only [argsOk, hsig] at ha
      have h2 : Bind.checkArgs id sig ⟨.ref x :: rest, []⟩ = pure () := ha
      show wpAny M A (Bind.checkArgs id sig ⟨.ref x :: rest, []⟩) Q E _
      rw [h2]
      exact wpAny_pure hq
theorem ne_entry {Q : PySem.Fin → Shared → Prop} (hu : A.units < cLine) (X : K.In s.heap) (I : PySem.W.InstAt s.heap x ox C od) (heq : PySem.W.findIn K (.ref C) "__eq__" = some (some (.ref f))) (hf : PySem.W.isFn K (.ref f) = true)
    (h : wpAny (model prog w) A (call (.ref f) [.ref x, b]) (fun v s' => ∃ z, v = .bool z ∧ Q (.done (.ret (.bool (!z)))) s') E s) : wpAny (model prog w) A (Builtin.«object.__ne__» ⟨[.ref x, b], []⟩) Q E s := by
  unfold Builtin.«object.__ne__»
  repeat (first | with_reducible refine wpAny_cRoomFor hu ?_ | (with_reducible refine PySem.W.ifBound_K X I heq hf (wpAny_mono h ?_ fun _ _ e => e)) | wp_step)
  rintro v s' ⟨z, rfl, q⟩
  repeat (first | wp_step)
  exact q
theorem ifBound_B {M : Model} {id : String} {name : Str} {args : List Value} {Q : Option Value → Shared → Prop} (S : ∀ v, bindSpecial (.builtin id) v = pure (.builtin id, [v])) (X : K.In s.heap) (I : PySem.W.InstAt s.heap x ox C od) (hs : PySem.W.findIn K (.ref C) name = some (some (.builtin id)))
    (h : wpAny M A (call (.builtin id) (.ref x :: args)) (fun v => Q (some v)) E s) : wpAny M A (callSpecialIfBound? (.ref x) name args) Q E s := by
  simp only [callSpecialIfBound?, bindSpecialIfBound?]
  refine wpAny_holding (wpAny_bind (wpAny_bind (wpAny_bind (I.type.here ((PySem.W.looks_findIn X hs).here ?_)))))
  simp only [S]
  refine wpAny_bind (wpAny_askSetting (wpAny_ite ?_))
  have fin : wpAny M A (call (.builtin id) ([.ref x] ++ args) >>= fun v => pure (some v)) Q E s := wpAny_bind (wpAny_mono h (fun v s' h' => wpAny_pure h') fun _ _ h' => h')
  split
  · exact wpAny_bind (wpAny_pure (wpAny_pure (by exact fin)))
  · exact wpAny_tryCatch (wpAny_bind (wpAny_pure (wpAny_pure (by exact fin))))
theorem ne_own {Q : Value → Shared → Prop} (hu : A.units + 1 < cLine) (X : K.In s.heap) (I : PySem.W.InstAt s.heap x ox C od) (hb : PySem.W.Looks (model prog w) s.heap (typeOf b) (.ref C)) (hne : PySem.W.findIn K (.ref C) "__ne__" = some (some (.builtin "object.__ne__")))
    (heq : PySem.W.findIn K (.ref C) "__eq__" = some (some (.ref f))) (hf : PySem.W.isFn K (.ref f) = true) (hm : PySem.W.mroIn K C (.type "object") = some true)
    (h : wpAny (model prog w) A.in1 (call (.ref f) [.ref x, b]) (fun v s' => ∃ z, v = .bool z ∧ Q (.bool (!z)) s') E s) : wpAny (model prog w) A (richCompare .NotEq (.ref x) b) Q E s := by
  have one : wpAny (model prog w) A (tryCompare (.ref x) "__ne__" b) (fun r s' => ∃ v, r = some v ∧ Q v s') E s := by
    unfold tryCompare
    refine wpAny_bind (ifBound_B F.cmp_object.ne.bind X I hne (wpAny_call (codeAny_call_builtin F.cmp_object.ne.plain F.cmpEntry_ne (check_slot_K F.cmpKind_ne F.cmpSplit_ne (F.cmpArgs_ne _ _) X I hm (ne_entry (A := A.in1) hu X I heq hf ?_)))))
    refine wpAny_mono h (fun v s' hv => ?_) fun _ _ e => e
    obtain ⟨z, rfl, q⟩ := hv
    exact ⟨z, rfl, wpAny_pure ⟨_, rfl, q⟩⟩
  unfold richCompare
  simp only [oneThing_ref]
  refine wpAny_holding (wpAny_bind (wpAny_cRoomFor (Nat.lt_of_succ_lt hu) ?_))
  refine wpAny_bind (I.type.here (wpAny_bind (hb.here ?_)))
  rw [if_neg (by simp)]
  refine wpAny_bind (wpAny_pure ?_)
  simp only [Bool.false_eq_true, if_false]
  refine wpAny_bind (wpAny_mono one (fun r s' z => ?_) fun _ _ e => e)
  obtain ⟨v, rfl, hq⟩ := z
  exact wpAny_pure hq
end
section
variable {X : Cx} {CX : CXT} {C f : Addr} {n : Nat} {fd : FuncData} {ps : List Str} {sp : Sp}
/-- x != y, two instances of the class, by its __eq__ -/
theorem op_neOwn (F : FnOk X.prog X.w X.K X.mg X.base CX n f fd ps sp) (hs : PySem.W.findIn X.K (.ref C) "__eq__" = some (some (.ref f))) (hne : PySem.W.findIn X.K (.ref C) "__ne__" = some (some (.builtin "object.__ne__"))) (hm : PySem.W.mroIn X.K C (.type "object") = some true)
    (hf : PySem.W.isFn X.K (.ref f) = true) (hr : Room (n + 1) X.A) (hb : Binds X.K fd ps []) (hx : Passes CX X E0) :
    OpR X (compareOp .NotEq) (fun x y H Q => ∃ (a b dx dy : Addr) (fs gs : List (Str × V)), x = .ref a ∧ y = .ref b ∧ H a = some (.ins C dx fs) ∧ H b = some (.ins C dy gs) ∧ sp [.ref a, .ref b] H (fun v H' => ∃ z, v = .bl z ∧ Q (.bl (!z)) H') E0) := by
  intro pins s σ H x y v u Q I rx ry h
  obtain ⟨a, b, dx, dy, fs, gs, rfl, rfl, ha, hb2, q⟩ := h
  cases rx
  cases ry
  obtain ⟨mA, J, _⟩ := ins_get I.hok ha
  obtain ⟨mB, J', _⟩ := ins_get I.hok hb2
  obtain ⟨od, J, _⟩ := J.look
  obtain ⟨od', J', _⟩ := J'.look
  have sb : Sub X n X.A.in1 := ⟨hr.in1, rfl⟩
  show wpAny (model X.prog X.w) X.A (richCompare .NotEq (.ref a) (.ref b)) (EP X pins σ Q) X.xe s
  refine ne_own sb.room.units0 I.kIn J J'.type hne hs hf hm (run_sub (vs := [V.ref a, V.ref b]) F sb hb hx I (.cons rfl (.cons rfl .nil)) q fun v u H' s' I' rv hq => ?_)
  obtain ⟨z, rfl, hq⟩ := hq
  cases rv
  exact ⟨z, rfl, .bl (!z), H', I', rfl, hq⟩
/-- len(x) by its __len__ -/
theorem call_lenOwn (F : FnOk X.prog X.w X.K X.mg X.base CX n f fd ps sp) (hs : PySem.W.findIn X.K (.ref C) "__len__" = some (some (.ref f))) (hf : PySem.W.isFn X.K (.ref f) = true) (hr : Room (n + 1) X.A) (hb : Binds X.K fd ps []) (hx : Passes CX X E0) :
    CallR X (.builtin "len") (fun xs H Q => ∃ (a dx : Addr) (fs : List (Str × V)), xs = [.ref a] ∧ H a = some (.ins C dx fs) ∧ sp [.ref a] H (fun v H' => ∃ k : Int, v = .int k ∧ 0 ≤ k ∧ k < 2 ^ 63 ∧ Q (.int k) H') E0) := by
  intro pins s σ H xs us Q I r h
  obtain ⟨a, dx, fs, rfl, ha, q⟩ := h
  obtain ⟨u, rfl, ru⟩ := vals1 r
  cases ru
  obtain ⟨mA, J, _⟩ := ins_get I.hok ha
  obtain ⟨od, J, _⟩ := J.look
  obtain ⟨m, hF⟩ := I.fr
  have sb : Sub X n X.A.in1 := ⟨hr.in1, rfl⟩
  refine PySem.W.len_K hF I.ok.mod.kin J hs hf (run_sub (vs := [V.ref a]) F sb hb hx I (.cons rfl .nil) q fun v u H' s' I' rv hq => ?_)
  obtain ⟨k, rfl, k0, k1, hq⟩ := hq
  obtain ⟨t, rfl⟩ := rv
  exact ⟨⟨k0, k1⟩, .int k, H', I'.tok _, ⟨_, rfl⟩, hq⟩
end
end Lay
set_option Elab.async false
set_option linter.all false
set_option maxRecDepth 100000
set_option maxHeartbeats 4000000
/-! x += y by __add__; sequences of the same objects compared. -/
namespace Lay
open PySem PySem.Spec PyProof.Rows L2
theorem refs_eq : ∀ {xs : List V} {as bs : List Value}, (∀ v ∈ xs, ∃ p, v = V.ref p) → Vals xs as → Vals xs bs → as = bs
  | [], _, _, _, ra, rb => by
    cases ra
    cases rb
    rfl
  | x :: xs, _, _, h, ra, rb => by
    obtain ⟨p, rfl⟩ := h x List.mem_cons_self
    cases ra with
    | cons r1 ra =>
      cases rb with
      | cons r2 rb =>
        cases r1
        cases r2
        rw [refs_eq (fun v hv => h v (List.mem_cons_of_mem _ hv)) ra rb]
section
variable {X : Cx}
theorem op_neSameT (hu : X.A.units + 64 < cLine) : OpR X (compareOp .NotEq) (fun x y H Q => ∃ a b xs, x = .ref a ∧ y = .ref b ∧ SqT X.K H a xs ∧ SqT X.K H b xs ∧ (∀ v ∈ xs, ∃ p, v = V.ref p) ∧ Q (.bl false) H) := by
  intro pins s σ H x y v u Q I rx ry h
  obtain ⟨a, b, xs, rfl, rfl, ha, hb, hr, q⟩ := h
  cases rx
  cases ry
  obtain ⟨its, r, p1, _⟩ := I.tuple ha
  obtain ⟨its2, r2, p2, _⟩ := I.tuple hb
  obtain rfl := refs_eq hr r r2
  refine SeqAt.RcNeAt.tuples (A := X.A) (e := fun _ => true) p1 p2 (by omega) (fun j h1 h2 => SeqAt.EqAt.same _) X.prog X.w X.xe (EP X pins σ Q) ?_
  have : (!((List.range (min its.toArray.size its.toArray.size)).all (fun _ => true) && its.toArray.size == its.toArray.size)) = false := by simp
  rw [this]
  exact ⟨.bl false, H, I, rfl, q⟩
theorem op_eqSameT (hu : X.A.units + 64 < cLine) : OpR X (compareOp .Eq) (fun x y H Q => ∃ a b xs, x = .ref a ∧ y = .ref b ∧ SqT X.K H a xs ∧ SqT X.K H b xs ∧ (∀ v ∈ xs, ∃ p, v = V.ref p) ∧ Q (.bl true) H) := by
  intro pins s σ H x y v u Q I rx ry h
  obtain ⟨a, b, xs, rfl, rfl, ha, hb, hr, q⟩ := h
  cases rx
  cases ry
  obtain ⟨its, r, p1, _⟩ := I.tuple ha
  obtain ⟨its2, r2, p2, _⟩ := I.tuple hb
  obtain rfl := refs_eq hr r r2
  refine SeqAt.RcAt.tuples (A := X.A) (e := fun _ => true) p1 p2 (by omega) (fun j h1 h2 => SeqAt.EqAt.same _) X.prog X.w X.xe (EP X pins σ Q) ?_
  have : ((List.range (min its.toArray.size its.toArray.size)).all (fun _ => true) && its.toArray.size == its.toArray.size) = true := by simp
  rw [this]
  exact ⟨.bl true, H, I, rfl, q⟩
theorem op_neSameL (hu : X.A.units + 64 < cLine) : OpR X (compareOp .NotEq) (fun x y H Q => ∃ a b xs, x = .ref a ∧ y = .ref b ∧ SqL X.K H a xs ∧ SqL X.K H b xs ∧ (∀ v ∈ xs, ∃ p, v = V.ref p) ∧ Q (.bl false) H) := by
  intro pins s σ H x y v u Q I rx ry h
  obtain ⟨a, b, xs, rfl, rfl, ha, hb, hr, q⟩ := h
  cases rx
  cases ry
  obtain ⟨its, r, p1, _⟩ := I.list ha
  obtain ⟨its2, r2, p2, _⟩ := I.list hb
  obtain rfl := refs_eq hr r r2
  refine SeqAt.RcNeAt.lists (A := X.A) (e := fun _ => true) p1.isList p2.isList rfl (by omega) (fun j h1 h2 => SeqAt.EqAt.same _) X.prog X.w X.xe (EP X pins σ Q) ?_
  have : (!((List.range its.toArray.size).all (fun _ => true))) = false := by simp
  rw [this]
  exact ⟨.bl false, H, I, rfl, q⟩
end
section
variable {prog : Program} {w : World} {A : Around} {E : Value → Shared → Prop} {s : Shared} {K : PySem.W.Frag} {x C L f : Addr} {h₀ : Heap} {m : Str → Option Value} {ox : Obj} {od : Option Obj}
theorem fillsI_K {M : Model} {h : Heap} {cd : ClassData} {nm : String} {b : Bool} (X : K.In h) (hc : PySem.W.clsIn K C = some cd) (hm : cd.mro = [.ref C, .type "object"]) (h1 : PySem.W.findIn K (.ref C) (PySem.dunderI nm) = some none)
    (h2 : PySem.W.findIn K (.type "object") (PySem.dunderI nm) = some none) : PySem.W.Looks M h (fillsInplaceSlot (.ref C) nm b) false := by
  intro A Q E s k q
  unfold fillsInplaceSlot
  refine wpAny_bind ((PySem.W.looks_clsIn X hc).andThen (f := fun cd => pure cd.mro) .now A _ E s k ?_)
  rw [hm, List.anyM_cons]
  refine wpAny_bind (wpAny_bind (PySem.W.looks_findIn X h1 A _ E s k ?_))
  refine wpAny_pure ?_
  rw [if_neg Bool.false_ne_true, List.anyM_cons]
  refine wpAny_bind (wpAny_bind (PySem.W.looks_findIn X h2 A _ E s k ?_))
  refine wpAny_pure ?_
  rw [if_neg Bool.false_ne_true]
  exact wpAny_pure q
theorem iop_K {op : Operator} {b : Value} {cd : ClassData} {Q : Value → Shared → Prop} (F : PyProof.Rows.Fr h₀ L s.heap m) (X₀ : K.In h₀) (I : PySem.W.InstAt s.heap x ox C od) (hb : PySem.W.Looks (model prog w) s.heap (typeOf b) (.ref C)) (hcd : PySem.W.clsIn K C = some cd) (hm : cd.mro = [.ref C, .type "object"])
    (h1 : PySem.W.findIn K (.ref C) (PySem.dunderI op.info.2) = some none) (h2 : PySem.W.findIn K (.type "object") (PySem.dunderI op.info.2) = some none)
    (hs : PySem.W.findIn K (.ref C) (PySem.dunder op.info.2) = some (some (.ref f))) (hf : PySem.W.isFn K (.ref f) = true)
    (h : wpAny (model prog w) A (call (.ref f) [.ref x, b]) (PySem.W.CmpBack Q) E s) : wpAny (model prog w) A (inplaceOp op (.ref x) b) Q E s := by
  have X := X₀.keeps F.keep
  unfold inplaceOp
  refine wpAny_holding (wpAny_bind (I.type.here (wpAny_bind ((fillsI_K X hcd hm h1 h2).here ?_))))
  simp only [Bool.false_eq_true, if_false]
  refine wpAny_bind ?_
  unfold binaryOp1
  refine wpAny_bind (I.type.here (wpAny_bind (hb.here (wpAny_bind ((PySem.W.fills_K X hcd hm hs).here ?_)))))
  simp only [beq_self_eq_true, if_true]
  refine wpAny_bind (wpAny_pure ?_)
  simp only [Bool.and_false, Bool.false_eq_true, if_false, Bool.false_and]
  refine wpAny_bind (wpAny_pure ?_)
  simp only [Bool.false_eq_true, if_false]
  refine wpAny_bind (m := tryMethod (.ref x) _ b) ?_
  unfold tryMethod
  refine wpAny_bind (PySem.W.special_fn X I hs (beq_iff_eq.mp hf) (wpAny_mono h (fun v s' hv => ?_) fun _ _ e => e))
  cases v <;> first | exact hv.elim | exact wpAny_pure (wpAny_pure (wpAny_pure hv))
end
section
variable {X : Cx} {CX : CXT} {C f : Addr} {n : Nat} {fd : FuncData} {ps : List Str} {sp : Sp}
/-- x += y, two instances of the class, by its __add__ -/
theorem ip_addOwn {cd : ClassData} (F : FnOk X.prog X.w X.K X.mg X.base CX n f fd ps sp) (hs : PySem.W.findIn X.K (.ref C) "__add__" = some (some (.ref f))) (hcd : PySem.W.clsIn X.K C = some cd) (hm : cd.mro = [.ref C, .type "object"]) (h1 : PySem.W.findIn X.K (.ref C) "__iadd__" = some none)
    (h2 : PySem.W.findIn X.K (.type "object") "__iadd__" = some none) (hf : PySem.W.isFn X.K (.ref f) = true) (hr : Room n X.A) (hb : Binds X.K fd ps []) (hx : Passes CX X E0) :
    PIp X .Add (fun x y H Q => ∃ (a b dx dy : Addr) (fs gs : List (Str × V)), x = .ref a ∧ y = .ref b ∧ H a = some (.ins C dx fs) ∧ H b = some (.ins C dy gs) ∧ sp [.ref a, .ref b] H (fun v H' => ∃ c, v = .ref c ∧ Q (.ref c) H') E0) := by
  intro pins s σ H x y v u Q I rx ry h
  obtain ⟨a, b, dx, dy, fs, gs, rfl, rfl, ha, hb2, q⟩ := h
  cases rx
  cases ry
  obtain ⟨mA, J, _⟩ := ins_get I.hok ha
  obtain ⟨mB, J', _⟩ := ins_get I.hok hb2
  obtain ⟨od, J, _⟩ := J.look
  obtain ⟨od', J', _⟩ := J'.look
  obtain ⟨m, hF⟩ := I.fr
  have sb : Sub X n X.A := ⟨hr, rfl⟩
  refine iop_K (op := .Add) hF I.ok.mod.kin J J'.type hcd hm h1 h2 hs hf (run_sub (vs := [V.ref a, V.ref b]) F sb hb hx I (.cons rfl (.cons rfl .nil)) q fun v u H' s' I' rv hq => ?_)
  obtain ⟨c, rfl, hq⟩ := hq
  cases rv
  exact ⟨.ref c, H', I', rfl, hq⟩
end
end Lay
set_option Elab.async false
set_option linter.all false
set_option maxRecDepth 100000
set_option maxHeartbeats 4000000
set_option pp.maxSteps 1000
namespace Lay
open PySem PySem.Spec PyProof.Rows L2
abbrev sTail : Stmt := top 19
abbrev sBody : Stmt := top 20
abbrev sRowsOf : Stmt := top 21
section
variable {P : Program} {w : World} {K : PySem.W.Frag} {mg : Str → Option Value} {base : Heap}
theorem scTail : FnScope ["piece"] ["piece"] (defScope sTail) := ⟨rfl, rfl, rfl, by decide +kernel, rfl, by decide +kernel, by decide +kernel⟩
theorem ok_tail {f C : Addr} {fd : FuncData} (F : Fun K "tail_of" "tail_of" sTail f fd) (Z : PieceC K C) : FnOk P w K mg base CX0 1 f fd ["piece"] (spText K C tailS) := by
  refine F.ok scTail (fun vs H Q E h => ?_) (fun cdv A outer s H vs Q E hr h => ?_)
  · obtain ⟨p, d, rfl, _⟩ := h
    rfl
  · obtain ⟨p, d, rfl, ⟨dx, t, hp, ht⟩, o, few, k⟩ := h
    refine ⟨_, pss_one (ps_ret (pe_ifExp (pt_truth (pe_fld (pv 0) rfl) (by intro _; rfl)) (pe_joined (.cons pe_str (.cons (pe_fmt (pe_fld (pv 0) rfl)) .nil))) pe_str)), ?_⟩
    have h1 := remarkB_len o.behind
    have h3 : (Str.ofString ")  # ").length = 5 := by decide
    have h4 : Str.empty.length = 0 := by decide
    refine ⟨_, rfl, p, C, dx, _, _, rfl, hp, Z.cl, Z.behind, rfl, _, ⟨fitsN (by omega), rfl⟩, ?_⟩
    by_cases q : d.behind.length = 0
    · refine iteN (by rw [q]; rfl) ?_
      have e : tailS d = Str.ofString ")" := by
        unfold tailS
        rw [if_pos q]
      rw [e] at k
      exact k
    · refine iteY (by simp; omega) ?_
      have e : tailS d = (Str.empty ++ Str.ofString ")  # ") ++ d.behind := by
        unfold tailS
        rw [if_neg q]
      rw [e] at k
      exact ⟨_, rfl, fitsN (by rw [Str.length_append]; omega), _, rfl, p, C, dx, _, _, rfl, hp, Z.cl, Z.behind, rfl, .inl ⟨_, rfl, fitsN (by omega), _, rfl, fitsN (by rw [Str.length_append, Str.length_append]; omega), k⟩⟩
end
end Lay
set_option Elab.async false
set_option linter.all false
set_option maxRecDepth 100000
set_option maxHeartbeats 4000000
set_option pp.maxSteps 1000
namespace Lay
open PySem PySem.Spec PyProof.Rows L2
def tJoin (ts : List TE) : TE := fun σ H Q => tJs ts Str.empty σ H fun out H1 => Q (.str out) H1
theorem pe_joinedN {X : Cx} {v1 v2 : Expr} {rest : List Expr} {ts : List TE} {pos : Pos} (h : PJ X (v1 :: v2 :: rest) ts) : PE X (.JoinedStr (v1 :: v2 :: rest) pos) (tJoin ts) := pe_joined h
theorem cut_last (xs : List V) : cutV xs none (some (-1)) = xs.dropLast := by
  unfold cutV
  have e : HT.sIx xs.length xs.length (some (-1)) = xs.length - 1 := by
    show (if (-1 : Int) < 0 then ((-1 : Int) + (xs.length : Int)).toNat else min (-1 : Int).toNat xs.length) = _
    rw [if_pos (by decide)]
    omega
  rw [HT.sIx_none, e, List.drop_zero, Nat.sub_zero, List.dropLast_eq_take]
theorem at_last {zs : List Str} (h : 0 < zs.length) : atI (zs.map V.str) (-1) = some (.str (zs.getLastD Str.empty)) := by
  have e : ixN (zs.map V.str).length (-1) = some (zs.length - 1) := by
    unfold ixN
    rw [List.length_map, if_neg (by decide), if_pos (by omega)]
    congr 1
    omega
  unfold atI
  rw [e]
  show (zs.map V.str)[zs.length - 1]? = _
  rw [List.getElem?_map, List.getLastD_eq_getLast?, List.getLast?_eq_getElem?]
  have hl : zs.length - 1 < zs.length := by omega
  rw [List.getElem?_eq_getElem hl]
  rfl
theorem rowsOf_len {d : PD} (o : d.Ok) (l : d.parts.length ≤ 30) : (bodyS d).length ≤ 40 := by
  unfold bodyS
  split
  · rw [List.length_cons, List.length_append, List.length_map, List.length_dropLast]
    show _ + 2 + 1 ≤ 40
    omega
  · show 1 ≤ 40
    decide
section
variable {P : Program} {w : World} {K : PySem.W.Frag} {mg : Str → Option Value} {base : Heap}
theorem scBody : FnScope ["piece", "comma", "upper", "last", "part"] ["piece"] (defScope sBody) := ⟨rfl, rfl, rfl, by decide +kernel, rfl, by decide +kernel, by decide +kernel⟩
theorem ok_body {f fH fT C : Addr} {fd dH dT : FuncData} (F : Fun K "body_rows" "body_rows" sBody f fd) (Z : PieceC K C)
    (GH : FnOk P w K mg base CX0 1 fH dH ["piece"] (spText K C headS)) (gH : mg "head_of" = some (.ref fH)) (kH : PySem.W.keepIn K (.ref fH) = true) (bH : Binds K dH ["piece"] [])
    (GT : FnOk P w K mg base CX0 1 fT dT ["piece"] (spText K C tailS)) (gT : mg "tail_of" = some (.ref fT)) (kT : PySem.W.keepIn K (.ref fT) = true) (bT : Binds K dT ["piece"] []) : FnOk P w K mg base CX0 2 f fd ["piece"] (spRowsOf K C bodyS) := by
  refine F.ok scBody (fun vs H Q E h => ?_) (fun cdv A outer s H vs Q E hr h => ?_)
  · obtain ⟨p, d, rfl, _⟩ := h
    rfl
  · obtain ⟨p, d, rfl, hP, o, few, k⟩ := h
    refine ⟨_, (C8.pss_cut (ps_set (i := 1) scBody.nd rfl (.inl rfl) (pe_ifExp (pt_val (pe_fld (pv 0) rfl)) pe_str pe_str))
      (pss_cons (ps_if (pt_not (pt_val (pe_fld (pv 0) rfl)))
        (pss_one (ps_ret (pe_lst (pa_cons (pe_op op_add_str (pe_op op_add_str (pe_op op_add_str (pe_call GH hr (by rfl) gH kH bH .nil pass0 (pa_cons (pv 0) pa_nil)) (pe_bm PySem.F.plainAttrs_str PySem.F.slot_str_join PySem.F.type_str_join mt_join pe_str (pa_cons (pe_fld (pv 0) rfl) pa_nil))) (pv 1)) (pe_call GT hr (by rfl) gT kT bT .nil pass0 (pa_cons (pv 0) pa_nil))) pa_nil))))
        pss_nil)
      (pss_cons (ps_setLc (i := 2) (own := [("part", 4)]) (g := gName 4) (tt := tYes) rfl scBody.nd rfl rfl (sw_true rfl rfl rfl (by decide +kernel)) (pi_tup (pe_slice sl_tupS (pe_fld (pv 0) rfl) po_none (po_some (pe_un un_neg pe_int)))) (blkOk_by (N := ["piece", "comma", "upper", "last", "part"]) (sc := defScope sBody) (by decide +kernel))
          (fun _ _ _ _ _ => pg_name (i := 4) scBody.nd rfl (Or.inl rfl)) (fun _ _ _ _ _ => pts_nil) (fun _ _ _ _ _ => pe_joinedN (.cons pe_str (.cons (pe_fmt (pv 4)) (.cons pe_str .nil)))))
      (pss_cons (ps_set (i := 3) scBody.nd rfl (.inl rfl) (pe_joined (.cons pe_str (.cons (pe_fmt (pe_ix ix_tup (pe_fld (pv 0) rfl) (pe_un un_neg pe_int) (fun _ _ => rfl))) (.cons (pe_fmt (pv 1)) .nil)))))
      (pss_one (ps_ret (pe_lst (pa_cons (pe_call GH hr (by rfl) gH kH bH .nil pass0 (pa_cons (pv 0) pa_nil)) (StX.pa_star (pv 2) (pa_cons (pv 3) (pa_cons (pe_call GT hr (by rfl) gT kT bT .nil pass0 (pa_cons (pv 0) pa_nil)) pa_nil))))))))))), ?_⟩
    obtain ⟨dx, t, hp, ht⟩ := id hP
    refine ⟨fun σ G => σ = [some (.ref p), some (.str (commaS d)), none, none, none] ∧ G = H, ?_, ?_⟩
    · refine ⟨_, rfl, p, C, dx, _, _, rfl, hp, Z.cl, Z.marked, rfl, d.marked, rfl, ?_⟩
      by_cases q : d.marked = true
      · refine iteY q ⟨?_, rfl⟩
        unfold commaS
        rw [if_pos q]
        rfl
      · refine iteN (by simpa using q) ⟨?_, rfl⟩
        unfold commaS
        rw [if_neg q]
        rfl
    · rintro σ G ⟨rfl, rfl⟩
      refine ⟨_, rfl, p, C, dx, _, _, rfl, hp, Z.cl, Z.broken, rfl, d.broken, rfl, ?_⟩
      have hH := headS_len o
      have hT := tailS_len o
      have hC := commaS_len (d := d)
      have j1 : (Str.ofString ", ").length = 2 := by decide
      have j2 : (Str.ofString "  ").length = 2 := by decide
      have j3 : (Str.ofString ",").length = 1 := by decide
      have j4 : Str.empty.length = 0 := by decide
      have hsum := sum_few (n := 6) fun z hz => nameB_len (o.parts z hz)
      have hjoin := join_le ", " d.parts
      rw [j1] at hjoin
      by_cases q : d.broken = true
      · refine iteN (by rw [q]; rfl) ?_
        have eb : bodyS d = headS d :: ((d.parts.dropLast.map itemS) ++ [lastS d (d.parts.getLastD Str.empty), tailS d]) := by
          unfold bodyS
          rw [if_pos q]
        rw [eb] at k
        refine ⟨_, rfl, p, C, dx, _, _, rfl, hp, Z.cl, Z.parts, rfl, 1, rfl, -1, rfl, t, _, rfl, (SqT.of ht), fun u G1 s1 hu => ?_⟩
        rw [cut_last, ← List.map_dropLast] at hu
        have ld : d.parts.dropLast.length ≤ 30 := by rw [List.length_dropLast]; omega
        refine ⟨u, rfl, ⟨_, hu⟩, fun D nD => lc_tup (K := K) (a := u) (xs := d.parts.dropLast.map V.str) (fun i G' => Same G1 G' ∧ G' D = some (.lst ((d.parts.dropLast.take i).map fun z => V.str (itemS z))))
          ⟨Same.new nD, upd_same⟩ (fun i G' _ q => SqT.same q.1 hu) ?_ ?_⟩
        · rintro i x G' hi ⟨sG, hD⟩
          obtain ⟨z, hz, rfl⟩ : ∃ z, d.parts.dropLast[i]? = some z ∧ V.str z = x := by
            rw [List.getElem?_map] at hi
            cases e : d.parts.dropLast[i]? with
            | none => rw [e] at hi; cases hi
            | some y => rw [e] at hi; exact ⟨y, rfl, Option.some.inj hi⟩
          have lz := nameB_len (o.parts z (List.dropLast_subset _ (List.mem_of_getElem? hz)))
          refine ⟨rfl, _, rfl, fitsN (by rw [Str.length_append]; omega), _, rfl, .inl ⟨_, rfl, fitsN (by omega), _, rfl, fitsN (by rw [Str.length_append, Str.length_append]; omega), _, rfl, fitsN (by rw [Str.length_append, Str.length_append, Str.length_append]; omega), _, hD, ?_, fun c w e => ?_, ?_⟩⟩
          · rw [List.length_map, List.length_take]
            exact Nat.lt_of_le_of_lt (Nat.min_le_right _ _) (Nat.lt_of_le_of_lt ld (by rw [sizeLine_eq]; decide))
          · rw [upd_ne (ne_of_none e nD)]
            exact sG _ _ e
          · rw [upd_same, List.take_succ, hz, List.map_append]
            rfl
        · rintro G2 ⟨s2, hD⟩
          rw [List.length_map, List.take_length] at hD
          have s12 := s1.trans s2
          have hp2 := s12 _ _ hp
          have ht2 := SqT.same (K := K) s12 (SqT.of ht)
          have hP2 := hP.same s12
          have lz : (d.parts.getLastD Str.empty).length ≤ 6 := by
            obtain ⟨a, ha⟩ : ∃ a, d.parts.getLast? = some a := by
              cases e : d.parts with
              | nil => have := o.some; rw [e] at this; exact absurd this (by decide)
              | cons x xs => exact ⟨_, List.getLast?_cons⟩
            rw [List.getLastD_eq_getLast?, ha]
            exact nameB_len (o.parts a (List.mem_of_getLast? ha))
          refine ⟨_, rfl, fitsN (by rw [Str.length_append]; omega), _, rfl, p, C, dx, _, _, rfl, hp2, Z.cl, Z.parts, rfl, 1, rfl, t, _, -1, _, rfl, rfl, ht2, at_last o.some, .inl ⟨_, rfl, fitsN (by omega), _, rfl, fitsN (by rw [Str.length_append, Str.length_append]; omega), ?_⟩⟩
          refine ⟨_, rfl, .inl ⟨_, rfl, fitsN (by omega), _, rfl, fitsN (by rw [Str.length_append, Str.length_append, Str.length_append]; omega), _, rfl, p, d, rfl, hP2, o, few, _, rfl, D, _, rfl, .inr (SqL.of hD), _, rfl, _, rfl, p, d, rfl, hP2, o, few, ?_, fun l nl => ?_⟩⟩
          · refine fitsN ?_
            rw [List.length_cons, List.length_append, List.length_map]
            show _ + 2 + 1 ≤ 1000000
            omega
          · refine k l _ (s12.trans (Same.new nl)) (s12.free nl) ?_
            rw [upd_same]
            simp [lastS]
            rfl
      · refine iteY (by simpa using q) ?_
        have eb : bodyS d = [((headS d ++ Txt.join ", " d.parts) ++ commaS d) ++ tailS d] := by
          unfold bodyS
          rw [if_neg q]
        rw [eb] at k
        refine ⟨_, rfl, p, d, rfl, hP, o, few, rfl, _, rfl, p, C, dx, _, _, rfl, hp, Z.cl, Z.parts, rfl, _, t, d.parts, rfl, rfl, .inr (SqT.of ht), by rw [j1]; omega, _, _, rfl, rfl, fitsN (by omega), _, rfl, _, _, rfl, rfl, fitsN (by rw [Str.length_append]; omega), _, rfl, p, d, rfl, hP, o, few, _, _, rfl, rfl, fitsN (by rw [Str.length_append, Str.length_append]; omega), (by show 1 ≤ sizeLine; decide), fun l nl => ?_⟩
        exact k l _ (Same.new nl) nl upd_same
end
end Lay
set_option Elab.async false
set_option linter.all false
set_option maxRecDepth 100000
set_option maxHeartbeats 4000000
set_option pp.maxSteps 1000
namespace Lay
open PySem PySem.Spec PyProof.Rows L2
theorem flat_one {α : Type} (x : α) : ∀ n : Nat, (List.replicate n [x]).flatten = List.replicate n x
  | 0 => rfl
  | n + 1 => by
    show [x] ++ (List.replicate n [x]).flatten = _
    rw [flat_one x n]
    rfl
theorem rowsS_len {d : PD} (o : d.Ok) (l : d.parts.length ≤ 30) : (rowsS d).length ≤ 43 := by
  have h1 := rowsOf_len o l
  have h2 := o.b3
  have h3 : (remarkS d).length ≤ 1 := by
    unfold remarkS
    split
    · exact Nat.zero_le _
    · exact Nat.le_refl _
  unfold rowsS
  rw [List.length_append, List.length_append, List.length_replicate]
  omega
section
variable {P : Program} {w : World} {K : PySem.W.Frag} {mg : Str → Option Value} {base : Heap}
theorem scRowsOf : FnScope ["piece", "blank", "remark"] ["piece"] (defScope sRowsOf) := ⟨rfl, rfl, rfl, by decide +kernel, rfl, by decide +kernel, by decide +kernel⟩
theorem ok_rowsOf {f fB C : Addr} {fd dB : FuncData} (F : Fun K "rows_of" "rows_of" sRowsOf f fd) (Z : PieceC K C)
    (GB : FnOk P w K mg base CX0 2 fB dB ["piece"] (spRowsOf K C bodyS)) (gB : mg "body_rows" = some (.ref fB)) (kB : PySem.W.keepIn K (.ref fB) = true) (bB : Binds K dB ["piece"] []) : FnOk P w K mg base CX0 3 f fd ["piece"] (spRowsOf K C rowsS) := by
  refine F.ok scRowsOf (fun vs H Q E h => ?_) (fun cdv A outer s H vs Q E hr h => ?_)
  · obtain ⟨p, d, rfl, _⟩ := h
    rfl
  · obtain ⟨p, d, rfl, hP, o, few, k⟩ := h
    refine ⟨_, (pss_cons (ps_set (i := 1) scRowsOf.nd rfl (.inl rfl) (pe_op op_rep (pe_lst (pa_cons pe_str pa_nil)) (pe_fld (pv 0) rfl)))
      (C8.pss_cut (ps_set (i := 2) scRowsOf.nd rfl (.inl rfl) (pe_ifExp (pt_truth (pe_fld (pv 0) rfl) (by intro _; rfl)) (pe_lst (pa_cons (pe_joined (.cons pe_str (.cons (pe_fmt (pe_fld (pv 0) rfl)) .nil))) pa_nil)) (pe_lst pa_nil)))
      (pss_one (ps_ret (pe_lst (StX.pa_star (pv 1) (StX.pa_star (pv 2) (StX.pa_star (pe_call GB hr (by rfl) gB kB bB .nil pass0 (pa_cons (pv 0) pa_nil)) pa_nil)))))))), ?_⟩
    obtain ⟨dx, t, hp, ht⟩ := id hP
    have j2 : (Str.ofString "# ").length = 2 := by decide
    have j4 : Str.empty.length = 0 := by decide
    have la := remarkB_len o.ahead
    have b0 := o.b0
    have b3 := o.b3
    refine ⟨(by show 1 ≤ sizeLine; decide), fun l0 n0 => ?_⟩
    have s0 := Same.new n0 (o := .lst [.str ""])
    refine ⟨_, rfl, p, C, dx, _, _, rfl, s0 _ _ hp, Z.cl, Z.blanks, rfl, l0, d.blanks, _, rfl, rfl, upd_same, by omega, by omega, fitsN (by show 1 * d.blanks.toNat ≤ 1000000; omega), fun l1 n1 => ?_⟩
    rw [flat_one]
    have s1 := Same.new n1 (o := .lst (List.replicate d.blanks.toNat (V.str "")))
    have h1 : upd (upd H l0 (.lst [.str ""])) l1 (.lst (List.replicate d.blanks.toNat (V.str ""))) l1 = some (.lst (List.replicate d.blanks.toNat (V.str ""))) := upd_same
    have s01 := s0.trans s1
    generalize upd (upd H l0 (.lst [.str ""])) l1 (.lst (List.replicate d.blanks.toNat (V.str ""))) = G at *
    refine ⟨fun σ G' => ∃ l2, σ = [some (.ref p), some (.ref l1), some (.ref l2)] ∧ Same G G' ∧ G' l2 = some (.lst ((remarkS d).map V.str)), ?_, ?_⟩
    · refine ⟨_, rfl, p, C, dx, _, _, rfl, s01 _ _ hp, Z.cl, Z.ahead, rfl, _, ⟨fitsN (by omega), rfl⟩, ?_⟩
      by_cases q : d.ahead.length = 0
      · refine iteN (by rw [q]; rfl) ⟨Nat.zero_le _, fun l2 n2 => ⟨l2, rfl, Same.new n2, ?_⟩⟩
        unfold remarkS
        rw [if_pos q]
        exact upd_same
      · refine iteY (by simp; omega) ?_
        refine ⟨_, rfl, fitsN (by rw [Str.length_append]; omega), _, rfl, p, C, dx, _, _, rfl, s01 _ _ hp, Z.cl, Z.ahead, rfl, .inl ⟨_, rfl, fitsN (by omega), _, rfl, fitsN (by rw [Str.length_append, Str.length_append]; omega), ⟨(by show 1 ≤ sizeLine; decide), fun l2 n2 => ⟨l2, rfl, Same.new n2, ?_⟩⟩⟩⟩
        unfold remarkS
        rw [if_neg q]
        exact upd_same
    · rintro σ G' ⟨l2, rfl, s2, h2⟩
      have s02 := s01.trans s2
      refine ⟨_, rfl, l1, _, rfl, .inr (SqL.of (s2 _ _ h1)), _, rfl, l2, _, rfl, .inr (SqL.of h2), _, rfl, p, d, rfl, hP.same s02, o, few, fun l3 G3 s3 n3 h3 => ⟨l3, _, rfl, .inr (SqL.of h3), ?_, fun l4 n4 => ?_⟩⟩
      · have hh := rowsS_len o few
        unfold rowsS at hh
        refine fitsN ?_
        rw [List.append_nil, List.length_append, List.length_append, List.length_replicate, List.length_map, List.length_map]
        rw [List.length_append, List.length_append, List.length_replicate] at hh
        omega
      · refine k l4 _ ((s02.trans s3).trans (Same.new n4)) ((s02.trans s3).free n4) ?_
        rw [upd_same]
        unfold rowsS
        rw [List.map_append, List.map_append, List.map_replicate, List.append_nil]
end
end Lay
set_option Elab.async false
set_option linter.all false
set_option maxRecDepth 100000
set_option maxHeartbeats 4000000
/-! enumerate over a tuple. -/
namespace Lay
open PySem PySem.Spec PyProof.Rows L2
open AutoSeq1 (wpAny_loadPart')
abbrev tupIt (t : Addr) : Obj := { cls := .type "tuple_iterator", data := .fields #[.ref t, .int 0 0] }
abbrev enumOf (it : Addr) : Obj := { cls := .type "enumerate", data := .fields #[.none, .bool false, .ref it, rawInt 0, .none, .none] }
theorem ent_new (t : Addr) (items : Array Value) : Meets (Builtin.«enumerate.__new__» ⟨[.type "enumerate", .ref t], []⟩)
    (fun _ R s => s.heap.IsTuple t items ∧ R (.ok (.ret (.ref (s.heap.push (tupIt t)).objs.size))) { s with heap := (s.heap.push (tupIt t)).push (enumOf s.heap.objs.size) }) :=
  .of_wp fun prog w A R s h => by
    obtain ⟨hp, g, d, tk, os⟩ := s
    obtain ⟨ht, h⟩ := h
    have hsub := sub_enumerate
    have hT : Heap.IsTuple (Shared.heap ⟨hp, g, d, tk, os⟩) t items := ht
    obtain ⟨o, ho, _⟩ := id ht
    wp_walk using wpAny_loadPart' ho
    refine wpAny_stack_any fun st => wpAny_pure ?_
    split
    · rename_i c _ _ _ _ _
      cases (c == Value.type "enumerate") <;> (wp_walk using wpAny_loadPart' ho, wpAny_pyIter_tuple hT; exact ⟨_, rfl, h⟩)
    · wp_walk using wpAny_loadPart' ho, wpAny_pyIter_tuple hT
      exact ⟨_, rfl, h⟩
theorem ent_call {prog : Program} {w : World} {A : Around} {E : Value → Shared → Prop} {s : Shared} {t : Addr} {items : Array Value} {Q : Value → Shared → Prop} (hT : s.heap.IsTuple t items)
    (h : ∀ h', IsEnum h' (s.heap.objs.size + 1) s.heap.objs.size 0 .none → h'.IsTupleIter s.heap.objs.size t 0 → (∀ b o, s.heap.get? b = some o → h'.get? b = some o) → Q (.ref (s.heap.objs.size + 1)) { s with heap := h' }) :
    wpAny (model prog w) A (call (.type "enumerate") [.ref t]) Q E s := by
  refine callType_new F.called_enumerate (by decide) (F.typeCall_enumerate_1 _) (F.newCall_enumerate_1 _) (fun obj => F.args_object_init_2 obj _) F.entry_enumerate_new (ent_new t items) ⟨hT, ?_⟩
  have hz : (s.heap.push (tupIt t)).objs.size = s.heap.objs.size + 1 := Heap.size_push ..
  show _ ∧ _
  rw [hz]
  have he : IsEnum ((s.heap.push (tupIt t)).push (enumOf s.heap.objs.size)) (s.heap.objs.size + 1) s.heap.objs.size 0 .none := by
    have y := Heap.get?_push_size (s.heap.push (tupIt t)) (o := enumOf s.heap.objs.size) rfl
    rw [hz] at y
    exact y
  exact ⟨⟨_, he, rfl⟩, h _ he ⟨_, Heap.get?_push_of_some _ (Heap.get?_push_size _ rfl), rfl, rfl⟩ fun b o x => Heap.get?_push_of_some _ (Heap.get?_push_of_some _ x)⟩
/-- the tuple at a, each item in a new pair -/
def IteT (K : PySem.W.Frag) (a : Addr) : It :=
  ⟨fun i H => ∃ (xs : List V) (x : V), SqT K H a xs ∧ xs[i]? = some x, fun i H v H' => ∃ T x, v = .ref T ∧ H T = none ∧ H' = upd H T (.tup [.int (i : Nat), x]) ∧ ∀ xs, SqT K H a xs → xs[i]? = some x, fun i H => ∃ xs : List V, SqT K H a xs ∧ xs.length = i⟩
theorem turn_enumT {P : Program} {w : World} {K : PySem.W.Frag} {elts : List Expr} {kk : Nat} {tpos : Pos} (a e it : Addr) :
    Turn P w K (.Tuple elts kk tpos) (IteT K a) [e, it] e (fun i h => (∃ old, IsEnum h e it ((i : Nat) : Int) old) ∧ h.IsTupleIter it a i ∧ e ≠ it) where
  mem := by simp
  obj := fun i h st b hb => by
    obtain ⟨⟨old, he⟩, ⟨o, ho, _, hd⟩, _⟩ := st
    rcases List.mem_cons.mp hb with z | hb
    · rw [z]
      exact ⟨_, he, fun v q => nomatch q⟩
    · rw [List.mem_singleton.mp hb]
      exact ⟨o, ho, fun v q => by
        rw [hd] at q
        cases q⟩
  keep := fun i h h' st k => by
    obtain ⟨⟨old, he⟩, hi, hne⟩ := st
    exact ⟨⟨old, k e (by simp) _ he⟩, hi.at fun o q => k it (by simp) o q, hne⟩
  item := by
    intro X hP hw hK hc i pins s σ H E I hf st hg
    subst hP hw hK
    obtain ⟨⟨old, he⟩, hit, hne⟩ := st
    obtain ⟨xs, x, hq, hx⟩ := hg
    obtain ⟨its, rv, p, hz⟩ := I.tuple hq
    obtain ⟨u, hu, ru⟩ := rv.get hx
    have eL : e < s.heap.objs.size := Heap.lt_size he
    have itL : it < s.heap.objs.size := by
      obtain ⟨_, q, _⟩ := hit
      exact Heap.lt_size q
    have p' : s.heap.IsTuple a its.toArray := p
    have ta : a ≠ it := fun z => by
      obtain ⟨o1, q1, c1, _⟩ := hit
      obtain ⟨o2, q2, c2, _⟩ := p'
      rw [← z, q2] at q1
      cases q1
      rw [c2] at c1
      exact absurd c1 (by decide)
    have te : a ≠ e := fun z => by
      obtain ⟨o2, q2, c2, _⟩ := p'
      rw [z, he] at q2
      cases q2
      have c3 : Value.type "enumerate" = Value.type "tuple" := c2
      exact absurd c3 (by decide)
    have hlt : i < its.toArray.size := by
      have := (List.getElem?_eq_some_iff.mp hu).1
      simpa using this
    refine wpAny_pyNext_enum_itemD (Draws.tuple (prog := X.prog) (w := X.w) (A := X.A.in1) (I.ok.hd hc) it a ta its.toArray) he ⟨hit, p'⟩ hlt hne (by simp [hne, Ne.symm te]) fun y h' tk hy ho hst hT hsz hk => ?_
    obtain rfl : y = u := by
      have q : its[i]? = some y := by simpa using hy
      rw [hu] at q
      exact (Option.some.inj q).symm
    refine ⟨_, rfl, wpAny_letOwnedTupleGo_enum (s := { s with heap := h', toks := tk + 1 }) ho fun h'' he' sb => ?_⟩
    have hT2 : h''.get? s.heap.objs.size = some { cls := .type "tuple", data := .seq #[.int i tk, y] } := (sb.2 _ (Nat.ne_of_gt eL)).trans hT
    have new : ObjOk X.prog X.w (upd H s.heap.objs.size (.tup [.int (i : Nat), x])) h'' s.heap.objs.size (.tup [.int (i : Nat), x]) :=
      ⟨by show 2 ≤ sizeLine; decide, [.int i tk, y], .cons ⟨_, rfl⟩ (.cons ru .nil), ⟨_, hT2, rfl, _, rfl⟩⟩
    have J : Inv X pins σ (upd H s.heap.objs.size (.tup [.int (i : Nat), x])) { s with heap := h'', toks := tk + 1 } :=
      I.turnedNew (ch := [e, it]) (fun b ob hb q => (sb.2 b (fun z => hb (by simp [z]))).trans (hk b ob (fun z => hb (by simp [z])) (fun z => hb (by simp [z])) q)) hf (Nat.le_refl _) new
    refine ⟨.ref s.heap.objs.size, _, J, rfl, ⟨_, x, rfl, I.hok.fresh (Nat.le_refl _), rfl, fun ys hy => by rw [I.tuple_inj hy hq]; exact hx⟩, ⟨⟨y, ?_⟩, hst.1.at fun o q => (sb.2 it (Ne.symm hne)).trans q, hne⟩, fun b hb => ?_⟩
    · have e1 : ((i + 1 : Nat) : Int) = (i : Int) + 1 := by omega
      rw [e1]
      exact he'
    · have bL : b < s.heap.objs.size := by
        rcases List.mem_cons.mp hb with z | hb
        · rw [z]
          exact eL
        · rw [List.mem_singleton.mp hb]
          exact itL
      rw [upd_ne (Nat.ne_of_lt bL)]
      exact (hf b hb).1
  done := by
    intro X hP hw hK hc i pins s σ H E I hf st hg
    subst hP hw hK
    obtain ⟨⟨old, he⟩, hit, hne⟩ := st
    obtain ⟨xs, hq, hx⟩ := hg
    obtain ⟨its, rv, p, hz⟩ := I.tuple hq
    obtain ⟨f0, f1, f2, f3, f4, f5⟩ := hf it (by simp)
    have p' : s.heap.IsTuple a its.toArray := p
    have ta : a ≠ it := fun z => by
      obtain ⟨o1, q1, c1, _⟩ := hit
      obtain ⟨o2, q2, c2, _⟩ := p'
      rw [← z, q2] at q1
      cases q1
      rw [c2] at c1
      exact absurd c1 (by decide)
    have hn : i = its.toArray.size := by
      have := rv.length
      simp
      omega
    exact wpAny_pyNext_enum_endD (Draws.tuple (prog := X.prog) (w := X.w) (A := X.A.in1) (I.ok.hd hc) it a ta its.toArray) he (by rw [← hn]; exact ⟨hit, p'⟩) fun h' eb => ⟨rfl, I.turned (t' := s.toks) (fun b o hb q => eb b o hb q) f0 f1 f3 f4 f5⟩
  self := fun A i s Q E st h => by
    obtain ⟨⟨_, he⟩, _⟩ := st
    exact wpAny_pyIter_enum he h
/-- what enumerate goes over: a list, or a tuple -/
def iEnum2 (K : PySem.W.Frag) (ta : TA) : TI := fun σ H R => ta σ H fun vs H1 => ∃ (a : Addr) (xs : List V), vs = [.ref a] ∧ ((SqL K H1 a xs ∧ R (Ite K a) H1) ∨ (SqT K H1 a xs ∧ R (IteT K a) H1))
theorem pi_enum2 {X : Cx} {e : Expr} {ta : TA} {p pos tpos : Pos} {elts : List Expr} {kk : Nat} (hg : Gl X "enumerate") (hm : X.mg "enumerate" = none) (ha : PA X [e] ta) (hs : starEach [e] X.env = [(false, eval e X.env)] := by rfl) :
    PI X (.Tuple elts kk tpos) (.Call (.Name "enumerate" p) [e] [] pos) (iEnum2 X.K ta) := by
  refine ⟨fun pins s σ H R I h => ?_⟩
  refine Call_ (ld_blt I hg hm boot_enumerate (PyProof.Rows.callWith_type1 (thn (ha.run pos pins s σ H _ I h) fun us s1 ⟨vs, H1, I1, r1, q1⟩ => ?_) hs rfl))
  obtain ⟨a, xs, ex, q⟩ := q1
  subst ex
  obtain ⟨u, rfl, ru⟩ := vals1 r1
  cases ru
  have young : ∀ b, b ∈ [s1.heap.objs.size + 1, s1.heap.objs.size] → FpOk X pins H1 b := fun b hb => by
    have hle : s1.heap.objs.size ≤ b := by
      rcases List.mem_cons.mp hb with z | hb
      · rw [z]
        exact Nat.le_add_right _ _
      · rw [List.mem_singleton.mp hb]
        exact Nat.le_refl _
    exact I1.fpOk hle (I1.hok.fresh hle)
  rcases q with ⟨hq, q⟩ | ⟨hq, q⟩
  · obtain ⟨its, rv, p', hz⟩ := I1.list hq
    refine call_enumerate_list p'.isList fun h' he hit hsz hk => wpAny_pyIter_enum he ?_
    have I2 : Inv X pins σ H1 { s1 with heap := h' } := I1.kept (t' := s1.toks) hk
    exact ⟨s1.heap.objs.size + 1, [s1.heap.objs.size + 1, s1.heap.objs.size], _, _, H1, rfl, I2, turn_enum a (s1.heap.objs.size + 1) s1.heap.objs.size, ⟨⟨.none, he⟩, hit, Nat.succ_ne_self _⟩, young, q⟩
  · obtain ⟨its, rv, p', hz⟩ := I1.tuple hq
    refine ent_call (show s1.heap.IsTuple a its.toArray from p') fun h' he hit hk => wpAny_pyIter_enum he ?_
    have I2 : Inv X pins σ H1 { s1 with heap := h' } := I1.kept (t' := s1.toks) hk
    exact ⟨s1.heap.objs.size + 1, [s1.heap.objs.size + 1, s1.heap.objs.size], _, _, H1, rfl, I2, turn_enumT a (s1.heap.objs.size + 1) s1.heap.objs.size, ⟨⟨.none, he⟩, hit, Nat.succ_ne_self _⟩, young, q⟩
theorem walk_enumT {K : PySem.W.Frag} {a : Addr} {xs : List V} : Walk (IteT K a) xs.length (fun H => SqT K H a xs) (YPair (fun i => some (.int (i : Nat))) (fun i => xs[i]?)) := by
  refine ⟨fun i _ hi q => ⟨xs, xs[i], q, by simp [hi]⟩, fun _ q => ⟨xs, q, rfl⟩, fun i H v H' _ q y => ?_⟩
  obtain ⟨T, x, h1, h2, h3, h4⟩ := y
  exact ⟨T, .int (i : Nat), x, h1, h2, h3, rfl, h4 xs q⟩
end Lay
set_option Elab.async false
set_option linter.all false
set_option maxRecDepth 100000
set_option maxHeartbeats 4000000
set_option pp.maxSteps 1000
namespace Lay
open PySem L2
theorem small1000 {n : Nat} (h : n < 1000) : n < sizeLine := Nat.lt_of_lt_of_le h (fitsN (by decide))
abbrev sCheck : Stmt := top 24
theorem scCheck : FnScope ["value", "at", "one"] ["value"] (defScope sCheck) := ⟨rfl, rfl, rfl, by decide +kernel, rfl, by decide +kernel, by decide +kernel⟩
structure ProgC (K : PySem.W.Frag) (CP : Addr) : Prop where
  cl : Cls K CP
  pieces : NoAttr K CP "pieces"
abbrev sProgI : Stmt := inClass (top 35) 0
theorem scProgI : FnScope ["self", "pieces"] ["self", "pieces"] (defScope sProgI) := ⟨rfl, rfl, rfl, by decide +kernel, rfl, by decide +kernel, by decide +kernel⟩
theorem SqL.same {K : PySem.W.Frag} {H H' : Hp} {a : Addr} {xs : List V} (e : Same H H') (h : SqL K H a xs) : SqL K H' a xs := by
  rcases h with (h | ⟨o, h⟩) | h
  · exact .inl (.inl (e _ _ h))
  · exact .inl (.inr ⟨o, e _ _ h⟩)
  · exact .inr h
/-- a tuple that is tracked, or a written one -/
def TupG (K : PySem.W.Frag) (H : Hp) (a : Addr) (xs : List V) : Prop := H a = some (.tup xs) ∨ ∃ (o : Obj) (its : Array Value) (n : Nat), K.lookup a = some o ∧ o.cls = .type "tuple" ∧ o.data = .seq its n ∧ its.size ≤ sizeLine ∧ Vals xs its.toList
theorem TupG.sqT {K : PySem.W.Frag} {H : Hp} {a : Addr} {xs : List V} (h : TupG K H a xs) : SqT K H a xs := by
  rcases h with h | h
  · exact SqT.of h
  · exact .inr h
theorem TupG.same {K : PySem.W.Frag} {H H' : Hp} {a : Addr} {xs : List V} (s : Same H H') (h : TupG K H a xs) : TupG K H' a xs := h.imp (s _ _) id
theorem TupG.put_ins {K : PySem.W.Frag} {H : Hp} {a p C dx : Addr} {fs : List (Str × V)} {o : HO} {xs : List V} (h : TupG K H a xs) (hp : H p = some (.ins C dx fs)) : TupG K (upd H p o) a xs := by
  rcases h with h | h
  · exact .inl (by rw [upd_ne (ne_of h hp (fun z => nomatch z))]; exact h)
  · exact .inr h
theorem TupG.seq {K : PySem.W.Frag} {H : Hp} {a : Addr} {xs : List V} (h : TupG K H a xs) : IsSeq K H (.ref a) true := by
  rcases h with h | ⟨o, its, n, h1, h2, _⟩
  · exact SqX.seq (.inr h)
  · exact ⟨_, .kTuple h1 h2, kitAny_lt (b := false) (c := true) (kit_ty (by decide +kernel)) (kit_ty (by decide +kernel))⟩
/-- a list, or any tuple (the written ones, too) -/
def SqG (K : PySem.W.Frag) (H : Hp) (a : Addr) (xs : List V) : Prop := H a = some (.lst xs) ∨ TupG K H a xs
theorem SqG.same {K : PySem.W.Frag} {H H' : Hp} {a : Addr} {xs : List V} (s : Same H H') (h : SqG K H a xs) : SqG K H' a xs := h.imp (s _ _) fun q => q.same s
theorem SqG.seq {K : PySem.W.Frag} {H : Hp} {a : Addr} {xs : List V} (h : SqG K H a xs) : IsSeq K H (.ref a) true := by
  rcases h with h | h
  · exact SqX.seq (.inl h)
  · exact h.seq
theorem SqG.of {K : PySem.W.Frag} {H : Hp} {a : Addr} {xs : List V} (h : SqX K H a xs) : SqG K H a xs := h.imp id .inl
section
variable {X : Cx}
theorem call_tupleG : CallR X (.type "tuple") (fun xs H Q => ∃ a ys, xs = [.ref a] ∧ SqG X.K H a ys ∧ ∀ l H', Same H H' → TupG X.K H' l ys → Q (.ref l) H') := by
  intro pins s σ H xs us Q I r h
  obtain ⟨a, ys, rfl, hs, q⟩ := h
  refine call_tuple_of pins s σ H _ us Q I r ⟨a, ys, rfl, ?_⟩
  rcases hs with hs | hs
  · exact .inl ⟨SqL.of hs, fun l nl => q l _ (Same.new nl) (.inl upd_same)⟩
  · exact .inr ⟨hs.sqT, q a H (Same.refl H) hs⟩
end
theorem kit_same {K : PySem.W.Frag} {C : Addr} : PySem.W.kitOne K (.ref C) (.ref C) = some true := by
  unfold PySem.W.kitOne
  rw [if_pos (by simp)]
section
variable {X : Cx}
theorem op_catG : OpR X (binaryOp .Add) (fun x y H Q => ∃ a b xs ys, x = .ref a ∧ y = .ref b ∧ TupG X.K H a xs ∧ TupG X.K H b ys ∧ xs.length + ys.length ≤ 1000 ∧ ∀ p H', Same H H' → TupG X.K H' p (xs ++ ys) → Q (.ref p) H') := by
  intro pins s σ H x y v u Q I rx ry h
  obtain ⟨a, b, xs, ys, rfl, rfl, ha, hb, hl, q⟩ := h
  refine op_catA pins s σ H _ _ v u Q I rx ry ⟨a, b, xs, ys, rfl, rfl, ha.sqT, hb.sqT, fits hl, fun e => ?_, fun _ e => ?_, fun _ _ p np => q p _ (Same.new np) (.inl upd_same)⟩
  · subst e
    exact q b H (Same.refl H) hb
  · subst e
    exact q a H (Same.refl H) (by rw [List.append_nil]; exact ha)
end

/-- pieces, one by one -/
def PcsAt (K : PySem.W.Frag) (C : Addr) (H : Hp) (xs : List V) (ds : List PD) : Prop := xs.length = ds.length ∧ (∀ d ∈ ds, d.Ok ∧ d.parts.length ≤ 30) ∧ ∀ (i : Nat) (x : V) (d : PD), xs[i]? = some x → ds[i]? = some d → ∃ p, x = .ref p ∧ PieceAt K C H p d
theorem PcsAt.same {K : PySem.W.Frag} {C : Addr} {H H' : Hp} {xs : List V} {ds : List PD} (s : Same H H') (h : PcsAt K C H xs ds) : PcsAt K C H' xs ds :=
  ⟨h.1, h.2.1, fun i x d hx hd => by
    obtain ⟨p, e, hp⟩ := h.2.2 i x d hx hd
    exact ⟨p, e, hp.same s⟩⟩
theorem PieceAt.isP {K : PySem.W.Frag} {C p : Addr} {H : Hp} {d : PD} (c : ClsI K C) (h : PieceAt K C H p d) : IsP K C H (.ref p) true := by
  obtain ⟨dx, t, h1, h2⟩ := h
  exact ⟨_, c.at h1, kit_same⟩
theorem PcsAt.isP {K : PySem.W.Frag} {C : Addr} {H : Hp} {xs : List V} {ds : List PD} (c : ClsI K C) (h : PcsAt K C H xs ds) : ∀ v ∈ xs, IsP K C H v true := fun v hv => by
  obtain ⟨i, hi, e⟩ := List.mem_iff_getElem.mp hv
  obtain ⟨p, rfl, hp⟩ := h.2.2 i v (ds[i]'(by rw [← h.1]; exact hi)) (by rw [List.getElem?_eq_getElem hi, e]) (List.getElem?_eq_getElem _)
  exact hp.isP c
theorem PcsAt.append {K : PySem.W.Frag} {C : Addr} {H : Hp} {xs ys : List V} {ds es : List PD} (h : PcsAt K C H xs ds) (k : PcsAt K C H ys es) : PcsAt K C H (xs ++ ys) (ds ++ es) := by
  refine ⟨by rw [List.length_append, List.length_append, h.1, k.1], fun d hd => (List.mem_append.mp hd).elim (h.2.1 d) (k.2.1 d), fun i x d hx hd => ?_⟩
  rcases Nat.lt_or_ge i xs.length with l | l
  · rw [List.getElem?_append_left l] at hx
    rw [List.getElem?_append_left (by rw [← h.1]; exact l)] at hd
    exact h.2.2 i x d hx hd
  · rw [List.getElem?_append_right l] at hx
    rw [List.getElem?_append_right (by rw [← h.1]; exact l), ← h.1] at hd
    exact k.2.2 _ x d hx hd
theorem PcsAt.nil {K : PySem.W.Frag} {C : Addr} {H : Hp} : PcsAt K C H [] [] := ⟨rfl, fun d h => (List.not_mem_nil h).elim, fun i x d h _ => by cases h⟩
def progF (t : Addr) : List (Str × V) := putF "pieces" (.ref t) []
/-- at p a program with the tuple t of pieces -/
def ProgT (K : PySem.W.Frag) (C CP : Addr) (H : Hp) (p t : Addr) (xs : List V) (ds : List PD) : Prop := ∃ dx, H p = some (.ins CP dx (progF t)) ∧ TupG K H t xs ∧ PcsAt K C H xs ds ∧ ds.length ≤ 100
theorem ProgT.same {K : PySem.W.Frag} {C CP : Addr} {H H' : Hp} {p t : Addr} {xs : List V} {ds : List PD} (s : Same H H') (h : ProgT K C CP H p t xs ds) : ProgT K C CP H' p t xs ds := by
  obtain ⟨dx, h1, h2, h3, h4⟩ := h
  exact ⟨dx, s _ _ h1, h2.same s, h3.same s, h4⟩
def spCheckG (K : PySem.W.Frag) (C : Addr) : Sp := fun vs H Q _ => ∃ a xs, vs = [.ref a] ∧ SqG K H a xs ∧ xs.length ≤ 1000 ∧ (∀ v ∈ xs, IsP K C H v true) ∧ ∀ H', Same H H' → Q .non H'
def spProgG (K : PySem.W.Frag) (C CP : Addr) : Sp := fun vs H Q _ => ∃ (p dx a : Addr) (xs : List V), vs = [.ref p, .ref a] ∧ H p = some (.ins CP dx []) ∧ SqG K H a xs ∧ xs.length ≤ 1000 ∧ (∀ v ∈ xs, IsP K C H v true) ∧
  ∀ H' t, TupG K H' t xs → Kept p H H' → H' p = some (.ins CP dx (progF t)) → Q .non H'
section
variable {P : Program} {w : World} {K : PySem.W.Frag} {mg : Str → Option Value} {base : Heap}
theorem ok_checkG {f fS C : Addr} {fd fdS : FuncData} (F : Fun K "check_pieces" "check_pieces" sCheck f fd) (T : TxtK mg) (GS : FnOk P w K mg base CX0 1 fS fdS ["value"] (spSeq K)) (gS : mg "is_sequence" = some (.ref fS)) (kS : PySem.W.keepIn K (.ref fS) = true) (bS : Binds K fdS ["value"] [])
    (gP : mg "Piece" = some (.ref C)) : FnOk P w K mg base CX0 2 f fd ["value"] (spCheckG K C) := by
  refine F.ok scCheck (fun vs H Q E h => ?_) (fun cdv A outer s H vs Q E hr h => ?_)
  · obtain ⟨a, xs, rfl, _⟩ := h
    rfl
  · obtain ⟨a, xs, rfl, hx, hl, hi, k⟩ := h
    refine ⟨_, (pss_cons (ps_if (pt_not (pt_val (pe_call GS hr (by rfl) gS kS bS .nil pass0 (pa_cons (pv 0) pa_nil)))) pss_never pss_nil)
    (pss_one (ps_for PassesOwn.never rfl (pi_enum2 (by rfl) T.enumerate (pa_cons (pv 0) pa_nil)) (pg_tup rfl (pgs_cons (pg_name (i := 1) scCheck.nd rfl (.inl rfl)) (pgs_cons (pg_name (i := 2) scCheck.nd rfl (.inl rfl)) pgs_nil)))
      (pss_one (ps_if (pt_not (pt_val (pe_callB call_isi (by rfl) T.isinstance (by decide +kernel) (pa_cons (pv 2) (pa_cons (pe_glob (v := .ref C) (by rfl) gP rfl) pa_nil))))) pss_never pss_nil))))), ?_⟩
    refine ⟨_, rfl, _, true, rfl, hx.seq, fun H1 s1 => ⟨_, rfl, ?_⟩⟩
    rcases hx with hx | hx
    · refine ⟨_, rfl, a, xs, rfl, .inl ⟨SqL.of (s1 _ _ hx), for_it walk_enum (fun i σ G => (∃ x1 x2, σ = [some (.ref a), x1, x2]) ∧ Same H G) ⟨⟨_, _, rfl⟩, s1⟩ (fun i σ G _ q => SqL.of (q.2 _ _ hx)) ?_ ?_⟩⟩
      · rintro i x σ G G' hi' ⟨⟨x1, x2, rfl⟩, sG⟩ ⟨T0, u, v, rfl, hT, rfl, e1, e2⟩
        cases e1
        have e2 : xs[i]? = some v := e2
        have sT := Same.new hT (o := .tup [.int (i : Nat), v])
        obtain ⟨t, ty, et⟩ := ((hi v (List.mem_of_getElem? e2)).same sG).same sT
        exact ⟨T0, _, rfl, SqT.of upd_same, rfl, _, _, rfl, _, _, rfl, rfl, _, rfl, _, _, _, _, _, rfl, .own _, ty, et, _, rfl, ⟨_, _, rfl⟩, sG.trans sT⟩
      · rintro σ G ⟨_, sG⟩
        exact k G sG
    · refine ⟨_, rfl, a, xs, rfl, .inr ⟨(hx.same s1).sqT, for_it walk_enumT (fun i σ G => (∃ x1 x2, σ = [some (.ref a), x1, x2]) ∧ Same H G) ⟨⟨_, _, rfl⟩, s1⟩ (fun i σ G _ q => (hx.same q.2).sqT) ?_ ?_⟩⟩
      · rintro i x σ G G' hi' ⟨⟨x1, x2, rfl⟩, sG⟩ ⟨T0, u, v, rfl, hT, rfl, e1, e2⟩
        cases e1
        have e2 : xs[i]? = some v := e2
        have sT := Same.new hT (o := .tup [.int (i : Nat), v])
        obtain ⟨t, ty, et⟩ := ((hi v (List.mem_of_getElem? e2)).same sG).same sT
        exact ⟨T0, _, rfl, SqT.of upd_same, rfl, _, _, rfl, _, _, rfl, rfl, _, rfl, _, _, _, _, _, rfl, .own _, ty, et, _, rfl, ⟨_, _, rfl⟩, sG.trans sT⟩
      · rintro σ G ⟨_, sG⟩
        exact k G sG
theorem ok_progG {f fC C CP : Addr} {fd fdC : FuncData} {dvs : List V} (F : FunD K "__init__" "Program.__init__" (defArgs sProgI) (defBody sProgI) (defScope sProgI) dvs [] f fd) (T : TxtK mg) (Z : ProgC K CP)
    (GC : FnOk P w K mg base CX0 2 fC fdC ["value"] (spCheckG K C)) (gC : mg "check_pieces" = some (.ref fC)) (kC : PySem.W.keepIn K (.ref fC) = true) (bC : Binds K fdC ["value"] []) : FnOk P w K mg base CX0 3 f fd ["self", "pieces"] (spProgG K C CP) := by
  refine F.ok scProgI (fun vs H Q E h => ?_) (fun cdv A outer s H vs Q E hr h => ?_)
  · obtain ⟨p, dx, a, xs, rfl, _⟩ := h
    rfl
  · obtain ⟨p, dx, a, xs, rfl, hp, hx, hl, hi, k⟩ := h
    refine ⟨_, (pss_cons (ps_expr (pe_call GC hr (by rfl) gC kC bC .nil pass0 (pa_cons (pv 1) pa_nil)))
      (pss_one (ps_fld (pv 0) (pe_callTy call_tupleG (by rfl) T.tuple (by decide +kernel) (pa_cons (pv 1) pa_nil)) rfl))), ?_⟩
    refine ⟨_, rfl, a, xs, rfl, hx, hl, hi, fun H1 s1 => ⟨_, rfl, a, xs, rfl, hx.same s1, fun l H2 s2 hl2 => ⟨_, rfl, p, CP, dx, _, rfl, s2 _ _ (s1 _ _ hp), Z.cl, Z.pieces, (by show 0 < 1000; decide), ?_⟩⟩⟩
    exact k _ l (hl2.put_ins (s2 _ _ (s1 _ _ hp))) ((Kept.of_same (s1.trans s2)).trans Kept.box) upd_same
end
end Lay
set_option Elab.async false
set_option linter.all false
set_option maxRecDepth 100000
set_option maxHeartbeats 4000000
set_option pp.maxSteps 1000
namespace Lay
open PySem PySem.Spec PyProof.Rows L2
theorem pi_listK {X : Cx} {K : PySem.W.Frag} {tg l : Expr} {tl : TE} (hK : X.K = K) (hl : PE X l tl) : PI X tg l (iList K tl) := by
  subst hK
  exact pi_list hl
theorem it_tup {K : PySem.W.Frag} {a : Addr} {xs : List V} {H0 : Hp} {Qd : Hp → Prop} {B : V → Hp → (Hp → Prop) → Prop} (Pv : Nat → Hp → Prop) (h0 : Pv 0 H0) (hl : ∀ i H, i ≤ xs.length → Pv i H → SqT K H a xs)
    (hs : ∀ i x H, xs[i]? = some x → Pv i H → B x H (Pv (i + 1))) (hd : ∀ H, Pv xs.length H → Qd H) :
    ∃ W : Nat → Nat → Hp → Prop, (∃ m, W 0 m H0) ∧ ∀ i m H, W i m H →
      ((Itt K a).stop i H ∧ Qd H) ∨ ((Itt K a).go i H ∧ ∃ Nx : Hp → Prop, (∀ H', Nx H' → ∃ m', m' < m ∧ W (i + 1) m' H') ∧ ∀ x H', (Itt K a).yld i H x H' → B x H' Nx) := by
  refine ⟨fun i m H => m = xs.length - i ∧ i ≤ xs.length ∧ Pv i H, ⟨xs.length, by simp, Nat.zero_le _, h0⟩, ?_⟩
  rintro i m H ⟨rfl, hi, p⟩
  have q := hl i H hi p
  by_cases hlt : i < xs.length
  · refine .inr ⟨⟨xs, xs[i], q, by simp [hlt]⟩, Pv (i + 1), fun H' p' => ⟨xs.length - (i + 1), by omega, rfl, hlt, p'⟩, fun x H' y => ?_⟩
    obtain ⟨e, y⟩ := y
    subst e
    exact hs i x H' (y xs q) p
  · have e : i = xs.length := by omega
    subst e
    exact .inl ⟨⟨xs, q, Nat.le_refl _⟩, hd H p⟩
theorem it_lst {K : PySem.W.Frag} {a : Addr} {xs : List V} {H0 : Hp} {Qd : Hp → Prop} {B : V → Hp → (Hp → Prop) → Prop} (Pv : Nat → Hp → Prop) (h0 : Pv 0 H0) (hl : ∀ i H, i ≤ xs.length → Pv i H → SqL K H a xs)
    (hs : ∀ i x H, xs[i]? = some x → Pv i H → B x H (Pv (i + 1))) (hd : ∀ H, Pv xs.length H → Qd H) :
    ∃ W : Nat → Nat → Hp → Prop, (∃ m, W 0 m H0) ∧ ∀ i m H, W i m H →
      ((Itl K a).stop i H ∧ Qd H) ∨ ((Itl K a).go i H ∧ ∃ Nx : Hp → Prop, (∀ H', Nx H' → ∃ m', m' < m ∧ W (i + 1) m' H') ∧ ∀ x H', (Itl K a).yld i H x H' → B x H' Nx) := by
  refine ⟨fun i m H => m = xs.length - i ∧ i ≤ xs.length ∧ Pv i H, ⟨xs.length, by simp, Nat.zero_le _, h0⟩, ?_⟩
  rintro i m H ⟨rfl, hi, p⟩
  have q := hl i H hi p
  by_cases hlt : i < xs.length
  · refine .inr ⟨⟨xs, xs[i], q, by simp [hlt]⟩, Pv (i + 1), fun H' p' => ⟨xs.length - (i + 1), by omega, rfl, hlt, p'⟩, fun x H' y => ?_⟩
    obtain ⟨e, y⟩ := y
    subst e
    exact hs i x H' (y xs q) p
  · have e : i = xs.length := by omega
    subst e
    exact .inl ⟨⟨xs, q, Nat.le_refl _⟩, hd H p⟩
def progRows (ds : List PD) : List Str := (ds.map rowsS).flatten
def progText (ds : List PD) : Str := Txt.join "\n" (progRows ds)
theorem progRows_take {ds : List PD} {i : Nat} {d : PD} (h : ds[i]? = some d) : progRows (ds.take (i + 1)) = progRows (ds.take i) ++ rowsS d := by
  unfold progRows
  rw [List.take_succ, h, List.map_append, List.flatten_append]
  simp
theorem progRows_len : ∀ {ds : List PD}, (∀ d ∈ ds, d.Ok ∧ d.parts.length ≤ 30) → (progRows ds).length ≤ 43 * ds.length
  | [], _ => Nat.zero_le _
  | d :: ds, h => by
    have h1 := rowsS_len (h d List.mem_cons_self).1 (h d List.mem_cons_self).2
    have h2 := progRows_len (ds := ds) fun e he => h e (List.mem_cons_of_mem _ he)
    unfold progRows at h2 ⊢
    rw [List.map_cons, List.flatten_cons, List.length_append, List.length_cons]
    omega
theorem bodyS_few {d : PD} (o : d.Ok) (l : d.parts.length ≤ 30) : ∀ z ∈ bodyS d, z.length ≤ 300 := by
  have hH := headS_len o
  have hT := tailS_len o
  have hC := commaS_len (d := d)
  have j1 : (Str.ofString ", ").length = 2 := by decide
  have j2 : (Str.ofString "  ").length = 2 := by decide
  have j3 : (Str.ofString ",").length = 1 := by decide
  have j4 : Str.empty.length = 0 := by decide
  have hsum := sum_few (n := 6) fun z hz => nameB_len (o.parts z hz)
  have hjoin := join_le ", " d.parts
  rw [j1] at hjoin
  intro z hz
  unfold bodyS at hz
  split at hz
  · simp only [List.mem_cons, List.mem_append, List.mem_map, List.not_mem_nil, or_false] at hz
    rcases hz with rfl | ⟨y, hy, rfl⟩ | rfl | rfl
    · omega
    · have := nameB_len (o.parts y (List.dropLast_subset _ hy))
      unfold itemS
      rw [Str.length_append, Str.length_append, Str.length_append]
      omega
    · have lz : (d.parts.getLastD Str.empty).length ≤ 6 := by
        obtain ⟨a, ha⟩ : ∃ a, d.parts.getLast? = some a := by
          cases e : d.parts with
          | nil => have := o.some; rw [e] at this; exact absurd this (by decide)
          | cons x xs => exact ⟨_, List.getLast?_cons⟩
        rw [List.getLastD_eq_getLast?, ha]
        exact nameB_len (o.parts a (List.mem_of_getLast? ha))
      unfold lastS
      rw [Str.length_append, Str.length_append, Str.length_append]
      omega
    · omega
  · rw [List.mem_singleton] at hz
    subst hz
    rw [Str.length_append, Str.length_append, Str.length_append]
    omega
theorem rowsS_few {d : PD} (o : d.Ok) (l : d.parts.length ≤ 30) : ∀ z ∈ rowsS d, z.length ≤ 300 := by
  intro z hz
  unfold rowsS at hz
  rcases List.mem_append.mp hz with h | h
  · rw [(List.mem_replicate.mp h).2]
    decide
  · rcases List.mem_append.mp h with h | h
    · unfold remarkS at h
      split at h
      · exact (List.not_mem_nil h).elim
      · rw [List.mem_singleton] at h
        subst h
        have j2 : (Str.ofString "# ").length = 2 := by decide
        have j4 : Str.empty.length = 0 := by decide
        have la := remarkB_len o.ahead
        rw [Str.length_append, Str.length_append]
        omega
    · exact bodyS_few o l z h
theorem progRows_few {ds : List PD} (h : ∀ d ∈ ds, d.Ok ∧ d.parts.length ≤ 30) : ∀ z ∈ progRows ds, z.length ≤ 300 := by
  intro z hz
  obtain ⟨l, hl, hz⟩ := List.mem_flatten.mp hz
  obtain ⟨d, hd, rfl⟩ := List.mem_map.mp hl
  exact rowsS_few (h d hd).1 (h d hd).2 z hz
abbrev sStrP : Stmt := inClass (top 35) 7
def spStrP (K : PySem.W.Frag) (C CP : Addr) : Sp := fun vs H Q _ => ∃ (p t : Addr) (xs : List V) (ds : List PD), vs = [.ref p] ∧ ProgT K C CP H p t xs ds ∧ ∀ H', Same H H' → Q (.str (progText ds)) H'
section
variable {P : Program} {w : World} {K : PySem.W.Frag} {mg : Str → Option Value} {base : Heap}
theorem scStrP : FnScope ["self", "piece", "row"] ["self"] (defScope sStrP) := ⟨rfl, rfl, rfl, by decide +kernel, rfl, by decide +kernel, by decide +kernel⟩
theorem ok_strP {f fR C CP : Addr} {fd dR : FuncData} (F : Fun K "__str__" "Program.__str__" sStrP f fd) (Z : ProgC K CP)
    (GR : FnOk P w K mg base CX0 3 fR dR ["piece"] (spRowsOf K C rowsS)) (gR : mg "rows_of" = some (.ref fR)) (kR : PySem.W.keepIn K (.ref fR) = true) (bR : Binds K dR ["piece"] []) : FnOk P w K mg base CX0 4 f fd ["self"] (spStrP K C CP) := by
  refine F.ok scStrP (fun vs H Q E h => ?_) (fun cdv A outer s H vs Q E hr h => ?_)
  · obtain ⟨p, t, xs, ds, rfl, _⟩ := h
    rfl
  · obtain ⟨p, t, xs, ds, rfl, hT, k⟩ := h
    refine ⟨_, pss_one (ps_ret (pe_bm PySem.F.plainAttrs_str PySem.F.slot_str_join PySem.F.type_str_join mt_join pe_str (pa_cons
      (pe_lc2 (own := [("piece", 1), ("row", 2)]) (vs1 := [2]) (g := gName 1) (tt := tYes) (g1 := gName 2) (tt1 := tYes) (by rfl) scStrP.nd (pi_tup (pe_fld (pv 0) rfl)) (blkOk_by (N := ["self", "piece", "row"]) (sc := defScope sStrP) (by decide +kernel)) (by decide)
        (fun _ _ _ _ _ => pg_name (i := 1) scStrP.nd rfl (Or.inl rfl)) (fun _ _ _ _ _ => pts_nil)
        (fun _ _ _ _ _ => pi_listK (K := K) rfl (pe_call GR hr (by rfl) gR kR bR .nil pass0 (pa_cons (pv 1) pa_nil)))
        (fun _ _ _ _ _ => pg_name (i := 2) scStrP.nd rfl (Or.inl rfl)) (fun _ _ _ _ _ => pts_nil)
        (fun _ _ _ _ _ => pv 2)) pa_nil))), ?_⟩
    obtain ⟨dx, hp, ht, hps, hl⟩ := id hT
    refine ⟨rfl, _, rfl, p, CP, dx, _, _, rfl, hp, Z.cl, Z.pieces, rfl, t, rfl, ⟨_, ht.sqT⟩, fun D nD => it_tup (K := K) (a := t) (xs := xs) (fun i G => Same H G ∧ G D = some (.lst ((progRows (ds.take i)).map V.str))) ⟨Same.new nD, upd_same⟩ (fun i G _ q => SqT.same q.1 ht.sqT) ?_ ?_⟩
    · rintro i x G hi ⟨sG, hD⟩
      have li := (List.getElem?_eq_some_iff.mp hi).1
      obtain ⟨d, ed⟩ : ∃ d, ds[i]? = some d := ⟨_, List.getElem?_eq_getElem (by rw [← hps.1]; exact li)⟩
      obtain ⟨q, rfl, hq⟩ := (hps.same sG).2.2 i x _ hi ed
      obtain ⟨o, few⟩ := hps.2.1 d (List.mem_of_getElem? ed)
      have hlen := progRows_len (ds := ds.take i) fun e he => hps.2.1 e (List.mem_of_mem_take he)
      have hlen2 := rowsS_len o few
      rw [List.length_take] at hlen
      refine ⟨rfl, _, rfl, q, d, rfl, hq, o, few, fun l G2 s2 n2 hl2 => ⟨l, rfl, ⟨_, SqL.of hl2⟩, it_lst (K := K) (a := l) (xs := (rowsS d).map V.str) (fun j G' => Same H G' ∧ G' l = some (.lst ((rowsS d).map V.str)) ∧ G' D = some (.lst ((progRows (ds.take i) ++ (rowsS d).take j).map V.str)))
        ⟨sG.trans s2, hl2, by rw [List.take_zero, List.append_nil]; exact s2 _ _ hD⟩ (fun j G' _ z => SqL.of z.2.1) ?_ ?_⟩⟩
      · rintro j y G' hj ⟨sG', hl', hD'⟩
        obtain ⟨z, hz, rfl⟩ : ∃ z, (rowsS d)[j]? = some z ∧ V.str z = y := by
          rw [List.getElem?_map] at hj
          cases e : (rowsS d)[j]? with
          | none => rw [e] at hj; cases hj
          | some y => rw [e] at hj; exact ⟨y, rfl, Option.some.inj hj⟩
        have nlD : l ≠ D := Ne.symm (ne_of_none hD n2)
        refine ⟨rfl, _, rfl, _, hD', ?_, fun c u e => ?_, by rw [upd_ne nlD]; exact hl', ?_⟩
        · rw [List.length_map, List.length_append, List.length_take]
          refine Nat.lt_of_lt_of_le (m := 1000000) ?_ (fitsN (Nat.le_refl _))
          omega
        · rw [upd_ne (ne_of_none e nD)]
          exact sG' _ _ e
        · rw [upd_same, List.take_succ, hz, List.map_append, List.map_append, List.map_append, List.append_assoc]
          rfl
      · rintro G' ⟨sG', hl', hD'⟩
        rw [List.length_map, List.take_length] at hD'
        exact ⟨sG', by rw [hD', progRows_take ed]⟩
    · rintro G ⟨sG, hD⟩
      rw [hps.1, List.take_length] at hD
      have hlen := progRows_len (ds := ds) hps.2.1
      have hsum := sum_few (n := 300) (progRows_few hps.2.1)
      have j : (Str.ofString "\n").length = 1 := by decide
      exact ⟨_, D, progRows ds, rfl, rfl, .inl (SqL.of hD), by rw [j]; omega, k G sG⟩
end
end Lay
set_option Elab.async false
set_option linter.all false
set_option maxRecDepth 100000
set_option maxHeartbeats 4000000
namespace Lay
open PySem PySem.Spec PyProof.Rows L2
section
variable {X : Cx}
theorem pe_mono {e : Expr} {t t' : TE} (h : PE X e t) (m : ∀ σ H Q, t' σ H Q → t σ H Q) : PE X e t' := ⟨fun pins s σ H Q I q => h.run pins s σ H Q I (m σ H Q q)⟩
end
/-- a reading with a weaker wish -/
def clo (t : TE) : TE := fun σ H Q => ∃ R : VK, t σ H R ∧ ∀ v H1, R v H1 → Q v H1
def cloA (t : TA) : TA := fun σ H Q => ∃ R : List V → Hp → Prop, t σ H R ∧ ∀ v H1, R v H1 → Q v H1
section
variable {X : Cx} {e : Expr} {es : List Expr} {ta : TE} {t : TA}
theorem pe_clo (he : PE X e ta) : PE X e (clo ta) := ⟨fun pins s σ H Q I h => by
  obtain ⟨R, hR, m⟩ := h
  refine thn (he.run pins s σ H R I hR) fun v s' hv => ?_
  obtain ⟨x, H', I', r, q⟩ := hv
  exact ⟨x, H', I', r, m _ _ q⟩⟩
theorem pa_clo (ha : PA X es t) : PA X es (cloA t) := ⟨fun pos pins s σ H Q I h => by
  obtain ⟨R, hR, m⟩ := h
  refine thn (ha.run pos pins s σ H R I hR) fun v s' hv => ?_
  obtain ⟨x, H', I', r, q⟩ := hv
  exact ⟨x, H', I', r, m _ _ q⟩⟩
end
section
variable {X : Cx} {CT : Addr}
theorem pe_fldX {e : Expr} {ta : TE} {f : Str} {pos : Pos} (he : PE X e ta) (c : Cls X.K CT) (nf : NoAttr X.K CT f) (hb : attributeBase e f X.env (eval e X.env) = eval e X.env := by rfl) :
    PE X (.Attribute e f pos) (fun σ H Q => ta σ H fun x H1 => ∃ p dx fs v, x = .ref p ∧ H1 p = some (.ins CT dx fs) ∧ fs.lookup f = some v ∧ Q v H1) := by
  refine pe_mono (pe_fld (pe_clo he) hb) fun σ H Q h => ⟨_, h, fun v H1 q => ?_⟩
  obtain ⟨p, dx, fs, y, rfl, hp, hl, q⟩ := q
  exact ⟨p, CT, dx, fs, y, rfl, hp, c, nf, hl, q⟩
end
end Lay
set_option Elab.async false
set_option linter.all false
set_option maxRecDepth 100000
set_option maxHeartbeats 4000000
set_option pp.maxSteps 1000
namespace Lay
open PySem PySem.Spec PyProof.Rows L2
abbrev sLenP : Stmt := inClass (top 35) 2
abbrev sGetP : Stmt := inClass (top 35) 3
abbrev sAddP : Stmt := inClass (top 35) 5
def spLenP (K : PySem.W.Frag) (C CP : Addr) : Sp := fun vs H Q _ => ∃ (p t : Addr) (xs : List V) (ds : List PD), vs = [.ref p] ∧ ProgT K C CP H p t xs ds ∧ Q (.int ds.length) H
def spGetG (K : PySem.W.Frag) (C CP : Addr) : Sp := fun vs H Q _ => ∃ (p t : Addr) (i : Nat) (xs : List V) (ds : List PD) (v : V), vs = [.ref p, .int i] ∧ ProgT K C CP H p t xs ds ∧ xs[i]? = some v ∧ Q v H
def spAddP (K : PySem.W.Frag) (C CP : Addr) : Sp := fun vs H Q _ => ∃ (p q t1 t2 : Addr) (xs ys : List V) (ds es : List PD), vs = [.ref p, .ref q] ∧ ProgT K C CP H p t1 xs ds ∧ ProgT K C CP H q t2 ys es ∧ ds.length + es.length ≤ 100 ∧ ∀ c u H', Same H H' → H c = none → ProgT K C CP H' c u (xs ++ ys) (ds ++ es) → Q (.ref c) H'
abbrev sEqP : Stmt := inClass (top 35) 6
def spEqPg (K : PySem.W.Frag) (C CP : Addr) : Sp := fun vs H Q _ => ∃ (p q t1 t2 : Addr) (xs ys : List V) (ds es : List PD), vs = [.ref p, .ref q] ∧ ProgT K C CP H p t1 xs ds ∧ ProgT K C CP H q t2 ys es ∧ ∀ H', Same H H' → Q (.bl (decide (V.str (progText ds) = V.str (progText es)))) H'
section
variable {P : Program} {w : World} {K : PySem.W.Frag} {mg : Str → Option Value} {base : Heap}
theorem scLenP : FnScope ["self"] ["self"] (defScope sLenP) := ⟨rfl, rfl, rfl, by decide +kernel, rfl, by decide +kernel, by decide +kernel⟩
theorem ok_lenP {f C CP : Addr} {fd : FuncData} (F : Fun K "__len__" "Program.__len__" sLenP f fd) (hlen : mg "len" = none) (Z : ProgC K CP) : FnOk P w K mg base CX0 1 f fd ["self"] (spLenP K C CP) := by
  refine F.ok scLenP (fun vs H Q E h => ?_) (fun cdv A outer s H vs Q E hr h => ?_)
  · obtain ⟨p, t, xs, ds, rfl, _⟩ := h
    rfl
  · obtain ⟨p, t, xs, ds, rfl, ⟨dx, hp, ht, hps, hl⟩, k⟩ := h
    refine ⟨_, pss_one (ps_ret (pe_callB call_len_seq (by rfl) hlen PySem.boot_len (pa_cons (pe_fld (pv 0) rfl) pa_nil))), ?_⟩
    refine ⟨_, rfl, p, CP, dx, _, _, rfl, hp, Z.cl, Z.pieces, rfl, t, xs, rfl, .inr ht.sqT, ?_⟩
    rw [hps.1]
    exact k
theorem scGetP : FnScope ["self", "at"] ["self", "at"] (defScope sGetP) := ⟨rfl, rfl, rfl, by decide +kernel, rfl, by decide +kernel, by decide +kernel⟩
theorem ok_getG {f fN C CP : Addr} {fd fdN : FuncData} (F : Fun K "__getitem__" "Program.__getitem__" sGetP f fd) (hlen : mg "len" = none) (Z : ProgC K CP)
    (GN : FnOk P w K mg base CX0 2 fN fdN ["value", "many"] (spNum K)) (gN : mg "is_number" = some (.ref fN)) (kN : PySem.W.keepIn K (.ref fN) = true) (bN : Binds K fdN ["value", "many"] []) : FnOk P w K mg base CX0 3 f fd ["self", "at"] (spGetG K C CP) := by
  refine F.ok scGetP (fun vs H Q E h => ?_) (fun cdv A outer s H vs Q E hr h => ?_)
  · obtain ⟨p, t, i, xs, ds, v, rfl, _⟩ := h
    rfl
  · obtain ⟨p, t, i, xs, ds, v, rfl, ⟨dx, hp, ht, hps, hl⟩, hi, k⟩ := h
    refine ⟨_, (pss_cons (ps_if (pt_not (pt_val (pe_call GN hr (by rfl) gN kN bN .nil pass0 (pa_cons (pv 1) (pa_cons (pe_callB call_len_seq (by rfl) hlen PySem.boot_len (pa_cons (pe_fld (pv 0) rfl) pa_nil)) pa_nil))))) pss_never pss_nil)
      (pss_one (ps_ret (pe_ix ix_tup (pe_fld (pv 0) rfl) (pv 1) (fun _ _ => rfl))))), ?_⟩
    have li := (List.getElem?_eq_some_iff.mp hi).1
    refine ⟨_, rfl, _, rfl, p, CP, dx, _, _, rfl, hp, Z.cl, Z.pieces, rfl, t, xs, rfl, .inr ht.sqT, _, _, rfl, .inl ⟨_, rfl, _, rfl, iteN (by simp [li]) ?_⟩⟩
    exact ⟨_, rfl, p, CP, dx, _, _, rfl, hp, Z.cl, Z.pieces, rfl, _, rfl, t, xs, _, v, rfl, rfl, ht.sqT, atI_nat hi, k⟩
theorem scAddP : FnScope ["self", "other"] ["self", "other"] (defScope sAddP) := ⟨rfl, rfl, rfl, by decide +kernel, rfl, by decide +kernel, by decide +kernel⟩
theorem ok_addP {f fP C CP : Addr} {fd fdP : FuncData} (F : Fun K "__add__" "Program.__add__" sAddP f fd) (T : TxtK mg) (c0 : ClsI K C) (c : ClsI K CP) (Z : ProgC K CP) (gT : mg "Program" = some (.ref CP)) (M : Mk K CP fP)
    (GP : FnOk P w K mg base CX0 3 fP fdP ["self", "pieces"] (spProgG K C CP)) (bP : Binds K fdP ["self", "pieces"] []) : FnOk P w K mg base CX0 5 f fd ["self", "other"] (spAddP K C CP) := by
  refine F.ok scAddP (fun vs H Q E h => ?_) (fun cdv A outer s H vs Q E hr h => ?_)
  · obtain ⟨p, q, t1, t2, xs, ys, ds, es, rfl, _⟩ := h
    rfl
  · obtain ⟨p, q, t1, t2, xs, ys, ds, es, rfl, hp, hq, hl, k⟩ := h
    refine ⟨_, (pss_cons (ps_if (pt_not (pt_val (pe_callB call_isi (by rfl) T.isinstance (by decide +kernel) (pa_cons (pv 1) (pa_cons (pe_glob (v := .ref CP) (by rfl) gT rfl) pa_nil))))) pss_never pss_nil)
      (pss_one (ps_ret (pe_make M GP hr (by rfl) gT bP .nil pass0 (pa_cons (pe_op op_catG (pe_fld (pv 0) rfl) (pe_fld (pv 1) rfl)) pa_nil))))), ?_⟩
    obtain ⟨dx2, hq2, ht2, hr2, hl2⟩ := id hq
    obtain ⟨dx1, hp1, ht1, hr1, hl1⟩ := id hp
    refine ⟨_, rfl, _, _, _, _, true, rfl, .own _, c.at hq2, kit_same, _, rfl, iteN rfl ?_⟩
    refine ⟨_, rfl, p, CP, dx1, _, _, rfl, hp1, Z.cl, Z.pieces, rfl, _, rfl, q, CP, dx2, _, _, rfl, hq2, Z.cl, Z.pieces, rfl, t1, t2, xs, ys, rfl, rfl, ht1, ht2, by rw [hr1.1, hr2.1]; omega, fun u H1 s1 hu => fun x dx nx nd ne => ?_⟩
    have zz := (Same.new nd (o := .own x)).trans (Same.new (fresh_own (o := .own x) nx ne) (o := .ins CP dx []))
    have rr := ((hr1.append hr2).same s1)
    refine ⟨x, dx, u, xs ++ ys, rfl, upd_same, .inr (hu.same zz), by rw [List.length_append, hr1.1, hr2.1]; omega, (rr.same zz).isP c0, fun H2 t ht kp hx => ⟨rfl, ?_⟩⟩
    have s2 := made_same nx nd kp
    exact k x t H2 (s1.trans s2) (s1.free nx) ⟨dx, hx, ht, rr.same s2, by rw [List.length_append]; exact hl⟩
theorem fnok_or {CX : CXT} {k : Nat} {f : Addr} {fd : FuncData} {ps : List Str} {s1 s2 : Sp} (F : FnOk P w K mg base CX k f fd ps s1) (G : FnOk P w K mg base CX k f fd ps s2) : FnOk P w K mg base CX k f fd ps (fun vs H Q E => s1 vs H Q E ∨ s2 vs H Q E) :=
  ⟨fun vs H Q E h => h.elim (F.len vs H Q E) (G.len vs H Q E), fun A outer s H args us vs Q E hr e b r h => h.elim (F.run A outer s H args us vs Q E hr e b r) (G.run A outer s H args us vs Q E hr e b r)⟩
theorem fnr_pos {CX : CXT} {k : Nat} {f : Addr} {fd : FuncData} {ps : List Str} {sp : Sp} (F : FnOk P w K mg base CX k f fd ps sp) (hb : ∀ (s : Shared) (us : List Value), us.length = ps.length → BindsTo s fd ⟨us, []⟩ (ps.zip us)) : FnR P w K mg base CX k f sp :=
  fun A outer s H us vs Q E hr e0 r h => F.run A outer s H _ us vs Q E hr e0 (hb s us (by rw [← r.length]; exact F.len _ _ _ _ h)) r h
theorem scEqPg : FnScope ["self", "other"] ["self", "other"] (defScope sEqP) := ⟨rfl, rfl, rfl, by decide +kernel, rfl, by decide +kernel, by decide +kernel⟩
theorem ok_eqPg {f fS C CP : Addr} {fd fdS : FuncData} (F : Fun K "__eq__" "Program.__eq__" sEqP f fd) (T : TxtK mg) (hstr : mg "str" = none) (c : ClsI K CP) (gT : mg "Program" = some (.ref CP))
    (GS : FnOk P w K mg base CX0 4 fS fdS ["self"] (spStrP K C CP)) (hs : PySem.W.findIn K (.ref CP) "__str__" = some (some (.ref fS))) (hf : PySem.W.isFn K (.ref fS) = true) (bS : Binds K fdS ["self"] []) : FnOk P w K mg base CX0 7 f fd ["self", "other"] (spEqPg K C CP) := by
  refine F.ok scEqPg (fun vs H Q E h => ?_) (fun cdv A outer s H vs Q E hr h => ?_)
  · obtain ⟨p, q, t1, t2, xs, ys, ds, es, rfl, _⟩ := h
    rfl
  · obtain ⟨p, q, t1, t2, xs, ys, ds, es, rfl, hp, hq, k⟩ := h
    refine ⟨_, pss_one (ps_ret (pe_and (pe_callB call_isi (by rfl) T.isinstance (by decide +kernel) (pa_cons (pv 1) (pa_cons (pe_glob (v := .ref CP) (by rfl) gT rfl) pa_nil)))
      (pe_one (pe_cmpR op_eq (pe_callTy (call_strOwn GS hs hf hr bS pass0) (by rfl) hstr (by decide +kernel) (pa_cons (pv 0) pa_nil)) (pe_callTy (call_strOwn GS hs hf hr bS pass0) (by rfl) hstr (by decide +kernel) (pa_cons (pv 1) pa_nil)) (nomark _))))), ?_⟩
    obtain ⟨dx2, hq2, _⟩ := id hq
    obtain ⟨dx1, hp1, _⟩ := id hp
    refine ⟨_, rfl, _, _, _, _, true, rfl, .own _, c.at hq2, kit_same, _, rfl, iteY rfl ?_⟩
    refine ⟨_, rfl, p, dx1, _, rfl, hp1, p, t1, xs, ds, rfl, hp, fun H1 s1 => ⟨_, rfl, _, rfl, q, dx2, _, rfl, s1 _ _ hq2, q, t2, ys, es, rfl, hq.same s1, fun H2 s2 => ⟨_, rfl, rfl, k H2 (s1.trans s2)⟩⟩⟩
end
end Lay
set_option Elab.async false
set_option linter.all false
set_option maxRecDepth 100000
set_option maxHeartbeats 4000000
set_option pp.maxSteps 1500
namespace Lay
open PySem PySem.Spec PyProof.Rows L2
section
variable {X : Cx} {CX : CXT} {C f : Addr} {n : Nat} {fd : FuncData} {ps : List Str} {sp : Sp} {E : L2.St → XK}
theorem run_subS {A : Around} {pins : List (Addr × Obj)} {σ : L2.St} {H : Hp} {s : Shared} {Q : VK} {us : List Value} {vs : List V} (F : FnOk X.prog X.w X.K X.mg X.base CX n f fd ps sp) (hr : Sub X n A) (hb : Binds X.K fd ps []) (hx : PassesAt CX X σ (E σ))
    (I : Inv X pins σ H s) (r : Vals vs us) (h : sp vs H Q (E σ)) : wpAny (model X.prog X.w) A (call (.ref f) us) (EP X pins σ Q) X.xe s := by
  have hl : us.length = ps.length := by rw [← r.length]; exact F.len _ _ _ _ h
  have b := hb s us I.kIn (by rw [List.append_nil]; exact hl)
  rw [List.append_nil] at b
  have e := I.env0
  have e0 : Env0 X.prog X.w X.K X.mg X.base A X.stack s H := ⟨by rw [hr.fr]; exact e.frames, e.mod, e.bs, e.bsz, e.funs, e.frf, e.hok, e.bare⟩
  refine wpAny_call (codeAny_mono (F.run A X.stack s H ⟨us, []⟩ us vs Q (E σ) hr.room e0 b r h) fun r s' hq => ?_)
  cases r with
  | error er => exact hx pins H s er s' I hq
  | ok fl =>
    cases fl with
    | ret u => exact I.after hq
    | next => exact False.elim hq
    | brk => exact False.elim hq
    | cont => exact False.elim hq
def tIxO (C : Addr) (sp : Sp) (E : L2.St → XK) (ta tb : TE) : TE := fun σ H Q => ta σ H fun x H1 => tb σ H1 fun y H2 => ∃ a dx fs, x = .ref a ∧ H2 a = some (.ins C dx fs) ∧ sp [.ref a, y] H2 Q (E σ)
/-- a[b] by its __getitem__ -/
theorem pe_ixO {a b : Expr} {ta tb : TE} {pos : Pos} (F : FnOk X.prog X.w X.K X.mg X.base CX n f fd ps sp) (hs : PySem.W.findIn X.K (.ref C) "__getitem__" = some (some (.ref f))) (hfi : PySem.W.fnIn X.K f = true) (hf : PySem.W.isFn X.K (.ref f) = true) (hr : Room (n + 1) X.A) (hb : Binds X.K fd ps [])
    (hx : ∀ σ, PassesAt CX X σ (E σ)) (ha : PE X a ta) (hbx : PE X b tb) (hsl : ∀ x i, subscripted b true (.ref x) i = runValue (.builtin "lifetime.subscript" ⟨[.ref x, i], []⟩) := by intros; with_unfolding_all rfl) : PE X (.Subscript a b pos) (tIxO C sp E ta tb) := by
  refine ⟨fun pins s σ H Q I h => ?_⟩
  refine Subscript_ (binT ha hbx I (R := fun x y H2 => ∃ a dx fs, x = .ref a ∧ H2 a = some (.ins C dx fs) ∧ sp [.ref a, y] H2 Q (E σ)) h fun v u s2 x y H2 I2 rx ry q => ?_)
  obtain ⟨p, dx, fs, rfl, hp, q⟩ := q
  cases rx
  obtain ⟨mA, J, _⟩ := ins_get I2.hok hp
  obtain ⟨od, J, _⟩ := J.look
  obtain ⟨m, hF⟩ := I2.fr
  exact PySem.W.sub_K hF I2.ok.mod.kin J hs hfi hf (run_subS (vs := [V.ref p, y]) F ⟨hr.in1, rfl⟩ hb (hx σ) I2 (.cons rfl (.cons ry .nil)) q) (hsl _ _)
theorem passE0 {σ : L2.St} : PassesAt CX0 X σ ((fun _ => E0) σ) := fun _ _ _ _ _ _ h => h.elim
end
end Lay
set_option Elab.async false
set_option linter.all false
set_option maxRecDepth 100000
set_option maxHeartbeats 4000000
set_option pp.maxSteps 1000
namespace Lay
open PySem PySem.Spec PyProof.Rows L2 KwX
/-! programs, by what pieces they are of -/
def PP (K : PySem.W.Frag) (C CP : Addr) (H : Hp) (p : Addr) (ds : List PD) : Prop := ∃ t xs, ProgT K C CP H p t xs ds
theorem PP.same {K : PySem.W.Frag} {C CP p : Addr} {H H' : Hp} {ds : List PD} (s : Same H H') (h : PP K C CP H p ds) : PP K C CP H' p ds := by
  obtain ⟨t, xs, h⟩ := h
  exact ⟨t, xs, h.same s⟩
def mk1 : List Str := ["marked"]
def flip (d : PD) (m : Bool) : PD := ⟨d.word, d.parts, d.broken, m, d.ahead, d.behind, d.blanks, d.left⟩
theorem flip_ok {d : PD} {m : Bool} (o : d.Ok) : (flip d m).Ok := ⟨o.word, o.some, o.few, o.parts, o.ahead, o.behind, o.b0, o.b3⟩
def spButN (K : PySem.W.Frag) (C : Addr) (ks : List Str) : List V → List V → Hp → VK → XK → Prop := fun vs zs H Q E => vs.length = slf.length ∧ zs.length = ks.length ∧ ∀ d, H d = none → spButG K C ks (vs ++ [V.ref d]) (upd H d (.dK (kvK ks zs))) Q E
/-- what is had of the classes -/
structure Pg (P : Program) (w : World) (K : PySem.W.Frag) (mg : Str → Option Value) (base : Heap) (C CP : Addr) : Prop where
  Z : PieceC K C
  c : ClsI K C
  cp : ClsI K CP
  ZP : ProgC K CP
  gP : mg "Program" = some (.ref CP)
  eq : ∃ f fd, FnOk P w K mg base CX0 1 f fd ["self", "other"] (spEqP K C) ∧ PySem.W.findIn K (.ref C) "__eq__" = some (some (.ref f)) ∧ PySem.W.isFn K (.ref f) = true ∧ Binds K fd ["self", "other"] []
  ne : PySem.W.findIn K (.ref C) "__ne__" = some (some (.builtin "object.__ne__"))
  but : ∃ f, Meth K C "but" f ∧ FnRK P w K mg base CX0 5 f mk1 (spButN K C mk1)
  made : ∃ f fd, Mk K CP f ∧ FnOk P w K mg base CX0 3 f fd ["self", "pieces"] (spProgG K C CP) ∧ Binds K fd ["self", "pieces"] [] ∧ ∃ e ds, Vals [V.ref e] ds ∧ Binds K fd ["self", "pieces"] ds ∧ ∀ H, TupG K H e []
  str : ∃ f fd, FnOk P w K mg base CX0 4 f fd ["self"] (spStrP K C CP) ∧ PySem.W.findIn K (.ref CP) "__str__" = some (some (.ref f)) ∧ PySem.W.isFn K (.ref f) = true ∧ Binds K fd ["self"] []
  len : ∃ f fd, FnOk P w K mg base CX0 1 f fd ["self"] (spLenP K C CP) ∧ PySem.W.findIn K (.ref CP) "__len__" = some (some (.ref f)) ∧ PySem.W.isFn K (.ref f) = true ∧ Binds K fd ["self"] []
  eqP : ∃ f fd, FnOk P w K mg base CX0 7 f fd ["self", "other"] (spEqPg K C CP) ∧ PySem.W.findIn K (.ref CP) "__eq__" = some (some (.ref f)) ∧ PySem.W.isFn K (.ref f) = true ∧ Binds K fd ["self", "other"] []
  neP : PySem.W.findIn K (.ref CP) "__ne__" = some (some (.builtin "object.__ne__"))
  get : ∃ f fd, FnOk P w K mg base CX0 3 f fd ["self", "at"] (spGetG K C CP) ∧ PySem.W.findIn K (.ref CP) "__getitem__" = some (some (.ref f)) ∧ PySem.W.fnIn K f = true ∧ PySem.W.isFn K (.ref f) = true ∧ Binds K fd ["self", "at"] []
  add : ∃ f fd, FnOk P w K mg base CX0 5 f fd ["self", "other"] (spAddP K C CP) ∧ PySem.W.findIn K (.ref CP) "__add__" = some (some (.ref f)) ∧ PySem.W.isFn K (.ref f) = true ∧ Binds K fd ["self", "other"] []
  sf : PySem.W.selfFirst K CP = true
def rNePg (K : PySem.W.Frag) (C CP : Addr) : R2 := fun x y H Q => ∃ p q ds es, x = .ref p ∧ y = .ref q ∧ PP K C CP H p ds ∧ PP K C CP H q es ∧ ∀ H', Same H H' → Q (.bl (!decide (V.str (progText ds) = V.str (progText es)))) H'
def rEqPg (K : PySem.W.Frag) (C CP : Addr) : R2 := fun x y H Q => ∃ p q ds es, x = .ref p ∧ y = .ref q ∧ PP K C CP H p ds ∧ PP K C CP H q es ∧ ∀ H', Same H H' → Q (.bl (decide (V.str (progText ds) = V.str (progText es)))) H'
def rNePc (K : PySem.W.Frag) (C : Addr) : R2 := fun x y H Q => ∃ p q d e, x = .ref p ∧ y = .ref q ∧ PieceAt K C H p d ∧ PieceAt K C H q e ∧ d.Ok ∧ e.Ok ∧ Q (.bl (!eqB d e)) H
def rAddPg (K : PySem.W.Frag) (C CP : Addr) : R2 := fun x y H Q => ∃ p q ds es, x = .ref p ∧ y = .ref q ∧ PP K C CP H p ds ∧ PP K C CP H q es ∧ ds.length + es.length ≤ 100 ∧ ∀ c H', Same H H' → H c = none → PP K C CP H' c (ds ++ es) → Q (.ref c) H'
def rStrPg (K : PySem.W.Frag) (C CP : Addr) : List V → Hp → VK → Prop := fun xs H Q => ∃ p ds, xs = [.ref p] ∧ PP K C CP H p ds ∧ ∀ H', Same H H' → Q (.str (progText ds)) H'
def rLenPg (K : PySem.W.Frag) (C CP : Addr) : List V → Hp → VK → Prop := fun xs H Q => ∃ p ds, xs = [.ref p] ∧ PP K C CP H p ds ∧ Q (.int ds.length) H
def tGetPg (K : PySem.W.Frag) (C CP : Addr) (ta tb : TE) : TE := fun σ H Q => ta σ H fun x H1 => clo tb σ H1 fun y H2 => ∃ (p : Addr) (i : Nat) (ds : List PD) (d : PD), x = .ref p ∧ y = .int i ∧ PP K C CP H2 p ds ∧ ds[i]? = some d ∧ ∀ z, PieceAt K C H2 z d → Q (.ref z) H2
def tPcs (K : PySem.W.Frag) (C CP : Addr) (ta : TE) : TE := fun σ H Q => ta σ H fun x H1 => ∃ p ds, x = .ref p ∧ PP K C CP H1 p ds ∧ ∀ t xs, TupG K H1 t xs → PcsAt K C H1 xs ds → Q (.ref t) H1
def tMark (K : PySem.W.Frag) (C : Addr) (ta : TE) : TE := fun σ H Q => ta σ H fun x H1 => ∃ p d, x = .ref p ∧ PieceAt K C H1 p d ∧ Q (.bl d.marked) H1
def tBut (K : PySem.W.Frag) (C : Addr) (ta tb : TE) : TE := fun σ H Q => ta σ H fun x H1 => ∃ p d, x = .ref p ∧ PieceAt K C H1 p d ∧ clo tb σ H1 fun y H2 => ∃ m, y = .bl m ∧ PieceAt K C H2 p d ∧ d.Ok ∧ ∀ z H3, Same H2 H3 → H2 z = none → PieceAt K C H3 z (flip d m) → Q (.ref z) H3
def tMkPg (K : PySem.W.Frag) (C CP : Addr) (t : TA) : TE := fun σ H Q => t σ H fun vs H1 => ∃ a xs ds, vs = [.ref a] ∧ SqG K H1 a xs ∧ PcsAt K C H1 xs ds ∧ ds.length ≤ 100 ∧ ∀ c H', Same H1 H' → H1 c = none → PP K C CP H' c ds → Q (.ref c) H'
def tMkPg0 (K : PySem.W.Frag) (C CP : Addr) : TE := fun _ H Q => ∀ c H', Same H H' → H c = none → PP K C CP H' c [] → Q (.ref c) H'
section
variable {X : Cx} {C CP : Addr} {K : PySem.W.Frag} (hK : X.K = K) (T : Pg X.prog X.w K X.mg X.base C CP)
include hK T
theorem op_nePc (hr : Room 2 X.A) : OpR X (compareOp .NotEq) (rNePc K C) := by
  subst hK
  obtain ⟨f, fd, ok, hs, fn, b⟩ := T.eq
  intro pins s σ H x y v u Q I rx ry h
  obtain ⟨p, q, d, e, rfl, rfl, hp, hq, o1, o2, k⟩ := h
  obtain ⟨dx, t, h1, _⟩ := id hp
  obtain ⟨dy, t2, h2, _⟩ := id hq
  exact op_neOwn ok hs T.ne T.c.hm fn hr b pass0 pins s σ H _ _ v u Q I rx ry ⟨p, q, dx, dy, _, _, rfl, rfl, h1, h2, p, _, d, rfl, hp, o1, .inl ⟨q, e, rfl, hq, o2, _, rfl, k⟩⟩
theorem op_nePg (hr : Room 8 X.A) : OpR X (compareOp .NotEq) (rNePg K C CP) := by
  subst hK
  obtain ⟨f, fd, ok, hs, fn, b⟩ := T.eqP
  intro pins s σ H x y v u Q I rx ry h
  obtain ⟨p, q, ds, es, rfl, rfl, ⟨t1, xs, hp⟩, ⟨t2, ys, hq⟩, k⟩ := h
  obtain ⟨d1, h1, _⟩ := id hp
  obtain ⟨d2, h2, _⟩ := id hq
  exact op_neOwn ok hs T.neP T.cp.hm fn hr b pass0 pins s σ H _ _ v u Q I rx ry ⟨p, q, d1, d2, _, _, rfl, rfl, h1, h2, p, q, t1, t2, xs, ys, ds, es, rfl, hp, hq, fun H' s' => ⟨_, rfl, k H' s'⟩⟩
theorem op_eqPg (hr : Room 7 X.A) : OpR X (compareOp .Eq) (rEqPg K C CP) := by
  subst hK
  obtain ⟨f, fd, ok, hs, fn, b⟩ := T.eqP
  intro pins s σ H x y v u Q I rx ry h
  obtain ⟨p, q, ds, es, rfl, rfl, ⟨t1, xs, hp⟩, ⟨t2, ys, hq⟩, k⟩ := h
  obtain ⟨d1, h1, _⟩ := id hp
  obtain ⟨d2, h2, _⟩ := id hq
  exact op_eqOwn ok hs fn hr b pass0 pins s σ H _ _ v u Q I rx ry ⟨p, q, d1, d2, _, _, rfl, rfl, h1, h2, p, q, t1, t2, xs, ys, ds, es, rfl, hp, hq, fun H' s' => ⟨_, rfl, k H' s'⟩⟩
theorem call_strPg (hr : Room 6 X.A) : CallR X (.type "str") (rStrPg K C CP) := by
  subst hK
  obtain ⟨f, fd, ok, hs, fn, b⟩ := T.str
  intro pins s σ H xs us Q I r h
  obtain ⟨p, ds, rfl, ⟨t, zs, hp⟩, k⟩ := h
  obtain ⟨d1, h1, _⟩ := id hp
  exact call_strOwn ok hs fn hr b pass0 pins s σ H _ us Q I r ⟨p, d1, _, rfl, h1, p, t, zs, ds, rfl, hp, fun H' s' => ⟨_, rfl, k H' s'⟩⟩
theorem call_lenPg (hr : Room 2 X.A) : CallR X (.builtin "len") (rLenPg K C CP) := by
  subst hK
  obtain ⟨f, fd, ok, hs, fn, b⟩ := T.len
  intro pins s σ H xs us Q I r h
  obtain ⟨p, ds, rfl, ⟨t, zs, hp⟩, k⟩ := h
  obtain ⟨d1, h1, _, _, hl⟩ := id hp
  exact call_lenOwn ok hs fn hr b pass0 pins s σ H _ us Q I r ⟨p, d1, _, rfl, h1, p, t, zs, ds, rfl, hp, ds.length, rfl, by omega, by omega, k⟩
theorem op_addPg (hr : Room 5 X.A) : OpR X (binaryOp .Add) (rAddPg K C CP) := by
  subst hK
  obtain ⟨f, fd, ok, hs, fn, b⟩ := T.add
  intro pins s σ H x y v u Q I rx ry h
  obtain ⟨p, q, ds, es, rfl, rfl, ⟨t1, xs, hp⟩, ⟨t2, ys, hq⟩, hl, k⟩ := h
  obtain ⟨d1, h1, _⟩ := id hp
  obtain ⟨d2, h2, _⟩ := id hq
  exact op_addOwn ok hs T.sf fn hr b pass0 pins s σ H _ _ v u Q I rx ry ⟨p, q, d1, d2, _, _, rfl, rfl, h1, h2, p, q, t1, t2, xs, ys, ds, es, rfl, hp, hq, hl, fun c u H' s' n' h' => ⟨c, rfl, k c H' s' n' ⟨u, _, h'⟩⟩⟩
theorem pe_getPg (hr : Room 4 X.A) {a b : Expr} {ta tb : TE} {pos : Pos} (ha : PE X a ta) (hbx : PE X b tb) (hsl : ∀ x i, subscripted b true (.ref x) i = runValue (.builtin "lifetime.subscript" ⟨[.ref x, i], []⟩) := by intros; with_unfolding_all rfl) :
    PE X (.Subscript a b pos) (tGetPg K C CP ta tb) := by
  subst hK
  obtain ⟨f, fd, F, hs, hfi, hf, hb⟩ := T.get
  refine pe_mono (pe_ixO (C := CP) (E := fun _ => E0) F hs hfi hf hr hb (fun σ => passE0) (pe_clo ha) (pe_clo hbx) hsl) fun σ H Q h => ⟨_, h, fun x H1 q => ?_⟩
  obtain ⟨R, h1, h2⟩ := q
  refine ⟨R, h1, fun y H2 hy => ?_⟩
  obtain ⟨p, i, ds, d, rfl, rfl, ⟨t, xs, hT⟩, hv, k⟩ := h2 y H2 hy
  obtain ⟨dx, hp, _, hps, _⟩ := id hT
  obtain ⟨v, ev⟩ : ∃ v, xs[i]? = some v := ⟨_, List.getElem?_eq_getElem (by rw [hps.1]; exact (List.getElem?_eq_some_iff.mp hv).1)⟩
  obtain ⟨z, rfl, hz⟩ := hps.2.2 i v d ev hv
  exact ⟨p, dx, _, rfl, hp, p, t, i, xs, ds, _, rfl, hT, ev, k z hz⟩
theorem pe_pcs {e : Expr} {ta : TE} {pos : Pos} (he : PE X e ta) (hb : attributeBase e "pieces" X.env (eval e X.env) = eval e X.env := by rfl) : PE X (.Attribute e "pieces" pos) (tPcs K C CP ta) := by
  subst hK
  refine pe_mono (pe_fldX (CT := CP) (pe_clo he) T.ZP.cl T.ZP.pieces hb) fun σ H Q h => ⟨_, h, fun v H1 q => ?_⟩
  obtain ⟨p, ds, rfl, ⟨t, xs, dx, hp, ht, hps, _⟩, q⟩ := q
  exact ⟨p, dx, _, _, rfl, hp, rfl, q t xs ht hps⟩
theorem pe_mark {e : Expr} {ta : TE} {pos : Pos} (he : PE X e ta) (hb : attributeBase e "marked" X.env (eval e X.env) = eval e X.env := by rfl) : PE X (.Attribute e "marked" pos) (tMark K C ta) := by
  subst hK
  refine pe_mono (pe_fldX (CT := C) (pe_clo he) T.Z.cl T.Z.marked hb) fun σ H Q h => ⟨_, h, fun v H1 q => ?_⟩
  obtain ⟨p, d, rfl, ⟨dx, t, hp, ht⟩, q⟩ := q
  exact ⟨p, dx, _, _, rfl, hp, rfl, q⟩
theorem pe_but (hr : Room 5 X.A) {o e : Expr} {ta tb : TE} {pos apos kpos : Pos} {pl : Sem Bool} (ho : PE X o ta) (he : PE X e tb)
    (hall : (backToKw pos (keywordEach [⟨some "marked", e, kpos⟩] X.env)).all (·.1.isSome) = true := by rfl) (hks : (backToKw pos (keywordEach [⟨some "marked", e, kpos⟩] X.env)).filterMap (·.1) = mk1 := by rfl)
    (hpl : ((backTo pos (starEach [] X.env)).any (·.1) || (backToKw pos (keywordEach [⟨some "marked", e, kpos⟩] X.env)).any (·.1.isNone)) = false := by rfl)
    (ht : eval (.Call (.Attribute o "but" apos) [] [⟨some "marked", e, kpos⟩] pos) X.env = (do
      let ov ← eval o X.env
      standAt apos.atName
      let (f, first) ← holding [ov] (getMethod ov "but" pl)
      callWith pos f first (backTo pos (starEach [] X.env)) (backToKw pos (keywordEach [⟨some "marked", e, kpos⟩] X.env))) := by rfl) :
    PE X (.Call (.Attribute o "but" apos) [] [⟨some "marked", e, kpos⟩] pos) (tBut K C ta tb) := by
  subst hK
  obtain ⟨f, hm, F⟩ := T.but
  refine pe_mono (pe_methKw (E := E0) (pe_clo ho) T.Z.cl hm F hr pass0 (pk_cons (pe_clo he) pk_nil) hall hks hpl ht) fun σ H Q h => ⟨_, h, fun x H1 q => ?_⟩
  obtain ⟨p, d, rfl, ⟨dx, t, hp, htt⟩, R, h1, h2⟩ := q
  refine ⟨p, dx, _, rfl, hp, rfl, R, h1, fun y H2 hy => ?_⟩
  obtain ⟨m, rfl, ⟨dx2, t2, hp2, ht2⟩, o, k⟩ := h2 y H2 hy
  refine ⟨rfl, rfl, fun u nu => ?_⟩
  have s1 := Same.new nu (o := .dK (kvK mk1 [.bl m]))
  exact ⟨p, u, t2, dx2, t2, d, flip d m, _, rfl, s1 _ _ hp2, upd_same, by decide, rfl, rfl, flip_ok o, .inr (s1 _ _ ht2), fun z H' s2 n2 h2 => k z H' (s1.trans s2) (s1.free n2) h2⟩
theorem pe_mkPg {e : Expr} {t : TA} {x : Str} {p pos : Pos} (hx : x = "Program") (hr : Room 4 X.A) (hg : Gl X x) (ha : PA X [e] t) (he : starEach [e] X.env = (false, eval e X.env) :: starEach [] X.env := by rfl) (hpl : (backTo pos (starEach [] X.env)).any (·.1) = false := by rfl) :
    PE X (.Call (.Name x p) [e] [] pos) (tMkPg K C CP t) := by
  subst hK
  subst hx
  obtain ⟨f, fd, M, ok, b, _⟩ := T.made
  refine pe_mono (pe_make M ok hr hg T.gP b .nil pass0 (pa_clo ha) (by decide) he hpl) fun σ H Q h => ⟨_, h, fun vs H1 q => ?_⟩
  obtain ⟨a, xs, ds, rfl, hs, hR, hl, k⟩ := q
  intro y dx nx nd ne
  have zz := (Same.new nd (o := .own y)).trans (Same.new (fresh_own (o := .own y) nx ne) (o := .ins CP dx []))
  refine ⟨y, dx, a, xs, rfl, upd_same, hs.same zz, by rw [hR.1]; omega, (hR.same zz).isP T.c, fun H2 u hu kp hx => ⟨rfl, ?_⟩⟩
  have s2 := made_same nx nd kp
  exact k y H2 s2 nx ⟨u, xs, dx, hx, hu, hR.same s2, hl⟩
theorem pe_mkPg0 {x : Str} {p pos : Pos} (hx : x = "Program") (hr : Room 4 X.A) (hg : Gl X x) : PE X (.Call (.Name x p) [] [] pos) (tMkPg0 K C CP) := by
  subst hK
  subst hx
  obtain ⟨f, fd, M, ok, _, e, ds, hd, b, he⟩ := T.made
  refine pe_mono (pe_make0 M ok hr hg T.gP b hd pass0 (by decide)) fun σ H Q k => ?_
  intro y dx nx nd ne
  have zz := (Same.new nd (o := .own y)).trans (Same.new (fresh_own (o := .own y) nx ne) (o := .ins CP dx []))
  refine ⟨y, dx, e, [], rfl, upd_same, .inr (he _), Nat.zero_le _, fun v h => (List.not_mem_nil h).elim, fun H2 u hu kp hx => ⟨rfl, ?_⟩⟩
  have s2 := made_same nx nd kp
  exact k y H2 s2 nx ⟨u, [], dx, hx, hu, PcsAt.nil, Nat.zero_le _⟩
end
end Lay
set_option Elab.async false
set_option linter.all false
set_option maxRecDepth 100000
set_option maxHeartbeats 4000000
namespace Lay
open PySem L2
theorem fitsW {n : Nat} (h : n ≤ 16000000) : n ≤ sizeLine := by
  rw [sizeLine_eq]
  omega
theorem smallT {n : Nat} (h : n ≤ 16000000) : n < sizeLine := by
  rw [sizeLine_eq]
  omega
/-! ### words -/
def testL : List Str := ["broken", "marked", "left", "ahead", "behind", "blank", "long", "first", "afterbroken", "afterbehind"]
def deedL : List Str := ["break", "join", "mark", "unmark", "lift", "lower", "space", "close"]
def progT (z : Str) : Bool := inV (.str (Txt.removeprefix z "not ")) (testL.map V.str)
def progD (z : Str) : Bool := inV (.str z) (deedL.map V.str)
theorem flat_strs (zs : List Str) : (zs.map V.str).all flatV = true := by
  induction zs with
  | nil => rfl
  | cons z zs ih => exact (Bool.and_eq_true_iff.mpr ⟨rfl, ih⟩)
/-- what one thing's test answers: f of a text, no otherwise -/
def ItB (f : Str → Bool) (K : PySem.W.Frag) (H : Hp) (x : V) (b : Bool) : Prop := (∃ z, x = .str z ∧ z.length ≤ 100000 ∧ b = f z) ∨ (b = false ∧ IsT K H x "str" false)
theorem ItB.same {f : Str → Bool} {K : PySem.W.Frag} {H H' : Hp} {x : V} {b : Bool} (s : Same H H') (h : ItB f K H x b) : ItB f K H' x b := h.imp id fun ⟨e, t⟩ => ⟨e, t.same s⟩
def ItBs (f : Str → Bool) (K : PySem.W.Frag) (H : Hp) (xs : List V) (bs : List Bool) : Prop := bs.length = xs.length ∧ ∀ (i : Nat) (x : V) (b : Bool), xs[i]? = some x → bs[i]? = some b → ItB f K H x b
theorem ItBs.same {f : Str → Bool} {K : PySem.W.Frag} {H H' : Hp} {xs : List V} {bs : List Bool} (s : Same H H') (h : ItBs f K H xs bs) : ItBs f K H' xs bs := ⟨h.1, fun i x b h1 h2 => (h.2 i x b h1 h2).same s⟩
/-- what is said of a value: r, where more is what must hold of a sequence besides -/
def AnsV (f : Str → Bool) (more : List V → Bool) (K : PySem.W.Frag) (H : Hp) (x : V) (r : Bool) : Prop := (IsSeq K H x false ∧ r = false) ∨ ∃ a xs bs, x = .ref a ∧ SqX K H a xs ∧ xs.length ≤ 100000 ∧ ItBs f K H xs bs ∧ r = (more xs && bs.all id)
theorem AnsV.same {f : Str → Bool} {more : List V → Bool} {K : PySem.W.Frag} {H H' : Hp} {x : V} {r : Bool} (s : Same H H') (h : AnsV f more K H x r) : AnsV f more K H' x r := by
  rcases h with ⟨h, e⟩ | ⟨a, xs, bs, e, h1, h2, h3, h4⟩
  · exact .inl ⟨h.same s, e⟩
  · exact .inr ⟨a, xs, bs, e, h1.same s, h2, h3.same s, h4⟩
def yes (_ : List V) : Bool := true
def full (xs : List V) : Bool := decide (0 < xs.length)
def spOne (f : Str → Bool) (K : PySem.W.Frag) : Sp := fun vs H Q _ => ∃ x b, vs = [x] ∧ ItB f K H x b ∧ Q (.bl b) H
def spAre (f : Str → Bool) (more : List V → Bool) (K : PySem.W.Frag) : Sp := fun vs H Q _ => ∃ x r, vs = [x] ∧ AnsV f more K H x r ∧ ∀ H', Same H H' → Q (.bl r) H'
abbrev sTest : Stmt := top 69
abbrev sDeed : Stmt := top 70
abbrev sAreT : Stmt := top 71
abbrev sAreD : Stmt := top 72
section
variable {P : Program} {w : World} {K : PySem.W.Frag} {mg : Str → Option Value} {base : Heap}
theorem scTest : FnScope ["value"] ["value"] (defScope sTest) := ⟨rfl, rfl, rfl, by decide +kernel, rfl, by decide +kernel, by decide +kernel⟩
theorem ok_test {f tT : Addr} {fd : FuncData} (F : Fun K "is_test" "is_test" sTest f fd) (T : TxtK mg) (gT : mg "TESTS" = some (.ref tT)) (hT : ∀ H : Hp, SqT K H tT (testL.map V.str)) : FnOk P w K mg base CX0 1 f fd ["value"] (spOne progT K) := by
  refine F.ok scTest (fun vs H Q E h => ?_) (fun cdv A outer s H vs Q E hr h => ?_)
  · obtain ⟨x, b, rfl, _⟩ := h
    rfl
  · obtain ⟨x, b, rfl, h, k⟩ := h
    refine ⟨_, (pss_one (ps_ret (pe_and (pe_callB call_isi (by rfl) T.isinstance (by decide +kernel) (pa_cons (pv 0) (pa_cons (pe_bltn (v := .ty "str") (by rfl) T.str (by decide +kernel) rfl) pa_nil)))
      (pe_one (pe_cmpR op_in_seq (pe_bm PySem.F.plainAttrs_str PySem.F.slot_str_removeprefix PySem.F.type_str_removeprefix mt_removeprefix (pv 0) (pa_cons pe_str pa_nil)) (pe_glob (v := .ref tT) (by rfl) gT rfl) (by rfl)))))), ?_⟩
    rcases h with ⟨z, rfl, hz, rfl⟩ | ⟨rfl, t, ty, e⟩
    · obtain ⟨t, ty, e⟩ := isT_str (K := K) (H := H) (z := z)
      refine ⟨_, rfl, _, _, _, _, _, rfl, .ty _, ty, e, _, rfl, ?_⟩
      exact iteY rfl ⟨_, rfl, rfl, z, "not ", rfl, rfl, fitsW (by omega), tT, _, rfl, .inr (hT _), rfl, flat_strs _, k⟩
    · exact ⟨_, rfl, _, _, _, _, _, rfl, .ty _, ty, e, _, rfl, iteN rfl k⟩
theorem scDeed : FnScope ["value"] ["value"] (defScope sDeed) := ⟨rfl, rfl, rfl, by decide +kernel, rfl, by decide +kernel, by decide +kernel⟩
theorem ok_deed {f tD : Addr} {fd : FuncData} (F : Fun K "is_deed" "is_deed" sDeed f fd) (T : TxtK mg) (gT : mg "DEEDS" = some (.ref tD)) (hT : ∀ H : Hp, SqT K H tD (deedL.map V.str)) : FnOk P w K mg base CX0 1 f fd ["value"] (spOne progD K) := by
  refine F.ok scDeed (fun vs H Q E h => ?_) (fun cdv A outer s H vs Q E hr h => ?_)
  · obtain ⟨x, b, rfl, _⟩ := h
    rfl
  · obtain ⟨x, b, rfl, h, k⟩ := h
    refine ⟨_, (pss_one (ps_ret (pe_and (pe_callB call_isi (by rfl) T.isinstance (by decide +kernel) (pa_cons (pv 0) (pa_cons (pe_bltn (v := .ty "str") (by rfl) T.str (by decide +kernel) rfl) pa_nil)))
      (pe_one (pe_cmpR op_in_seq (pv 0) (pe_glob (v := .ref tD) (by rfl) gT rfl) (by rfl)))))), ?_⟩
    rcases h with ⟨z, rfl, hz, rfl⟩ | ⟨rfl, t, ty, e⟩
    · obtain ⟨t, ty, e⟩ := isT_str (K := K) (H := H) (z := z)
      refine ⟨_, rfl, _, _, _, _, _, rfl, .ty _, ty, e, _, rfl, ?_⟩
      exact iteY rfl ⟨_, rfl, tD, _, rfl, .inr (hT _), rfl, flat_strs _, k⟩
    · exact ⟨_, rfl, _, _, _, _, _, rfl, .ty _, ty, e, _, rfl, iteN rfl k⟩
theorem scAreT : FnScope ["value", "one"] ["value"] (defScope sAreT) := ⟨rfl, rfl, rfl, by decide +kernel, rfl, by decide +kernel, by decide +kernel⟩
theorem ok_areT {f fS fO : Addr} {fd fdS fdO : FuncData} (F : Fun K "are_tests" "are_tests" sAreT f fd) (T : TxtK mg) (GS : FnOk P w K mg base CX0 1 fS fdS ["value"] (spSeq K)) (gS : mg "is_sequence" = some (.ref fS)) (kS : PySem.W.keepIn K (.ref fS) = true) (bS : Binds K fdS ["value"] [])
    (GO : FnOk P w K mg base CX0 1 fO fdO ["value"] (spOne progT K)) (gO : mg "is_test" = some (.ref fO)) (kO : PySem.W.keepIn K (.ref fO) = true) (bO : Binds K fdO ["value"] []) : FnOk P w K mg base CX0 2 f fd ["value"] (spAre progT yes K) := by
  refine F.ok scAreT (fun vs H Q E h => ?_) (fun cdv A outer s H vs Q E hr h => ?_)
  · obtain ⟨x, r, rfl, _⟩ := h
    rfl
  · obtain ⟨x, r, rfl, h, k⟩ := h
    rcases h with ⟨h, rfl⟩ | ⟨a, xs, bs, rfl, hx, hl, hb, rfl⟩
    · refine ⟨_, (pss_one (ps_ret (pe_and (pe_call GS hr (by rfl) gS kS bS .nil pass0 (pa_cons (pv 0) pa_nil)) (pe_one (pe_callB (cr_all rfl) (by rfl) T.all (by decide +kernel) (pa_cons
            (pe_lc (own := [("one", 1)]) (g := gName 1) (tt := tYes) (by rfl) scAreT.nd (pi_list (pv 0)) (blkOk_by (N := ["value", "one"]) (sc := defScope sAreT) (by decide +kernel)) (fun _ _ _ _ _ => pg_name (i := 1) scAreT.nd rfl (Or.inl rfl)) (fun _ _ _ _ _ => pts_nil) (fun _ _ _ _ _ => pe_call GO hr (by rfl) gO kO bO .nil pass0 (pa_cons (pv 1) pa_nil))) pa_nil)))))), ?_⟩
      exact ⟨_, rfl, _, false, rfl, h, fun H' s => ⟨_, rfl, iteN rfl (k H' s)⟩⟩
    · have lb : bs.length ≤ 100000 := by rw [hb.1]; exact hl
      rcases hx with hx | hx
      · refine ⟨_, (pss_one (ps_ret (pe_and (pe_call GS hr (by rfl) gS kS bS .nil pass0 (pa_cons (pv 0) pa_nil)) (pe_one (pe_callB (cr_all rfl) (by rfl) T.all (by decide +kernel) (pa_cons
            (pe_lc (own := [("one", 1)]) (g := gName 1) (tt := tYes) (by rfl) scAreT.nd (pi_list (pv 0)) (blkOk_by (N := ["value", "one"]) (sc := defScope sAreT) (by decide +kernel)) (fun _ _ _ _ _ => pg_name (i := 1) scAreT.nd rfl (Or.inl rfl)) (fun _ _ _ _ _ => pts_nil) (fun _ _ _ _ _ => pe_call GO hr (by rfl) gO kO bO .nil pass0 (pa_cons (pv 1) pa_nil))) pa_nil)))))), ?_⟩
        refine ⟨_, rfl, _, true, rfl, SqX.seq (.inl hx), fun H1 s1 => ⟨_, rfl, ?_⟩⟩
        refine iteY rfl ?_
        refine ⟨_, rfl, a, rfl, ⟨_, SqL.of (s1 _ _ hx)⟩, fun D nD => lc_list (K := K) (a := a) (xs := xs) (fun i G => Same H1 G ∧ G D = some (.lst ((bs.take i).map V.bl))) ⟨Same.new nD, upd_same⟩ (fun i G _ q => SqL.of (q.1 _ _ (s1 _ _ hx))) ?_ ?_⟩
        · rintro i x G hi ⟨sG, hD⟩
          have li := (List.getElem?_eq_some_iff.mp hi).1
          rw [← hb.1] at li
          have eb : bs[i]? = some bs[i] := by simp [li]
          refine ⟨rfl, _, rfl, x, bs[i], rfl, (hb.2 i x _ hi eb).same (s1.trans sG), _, hD, ?_, fun c u e => by rw [upd_ne (ne_of_none e nD)]; exact sG _ _ e, ?_⟩
          · rw [List.length_map, List.length_take]
            exact smallT (by omega)
          · rw [upd_same, List.take_succ, eb, List.map_append]
            rfl
        · rintro G ⟨sG, hD⟩
          rw [← hb.1, List.take_length] at hD
          exact ⟨D, bs, rfl, SqL.of hD, k G (s1.trans sG)⟩
      · refine ⟨_, (pss_one (ps_ret (pe_and (pe_call GS hr (by rfl) gS kS bS .nil pass0 (pa_cons (pv 0) pa_nil)) (pe_one (pe_callB (cr_all rfl) (by rfl) T.all (by decide +kernel) (pa_cons
            (pe_lc (own := [("one", 1)]) (g := gName 1) (tt := tYes) (by rfl) scAreT.nd (pi_tup (pv 0)) (blkOk_by (N := ["value", "one"]) (sc := defScope sAreT) (by decide +kernel)) (fun _ _ _ _ _ => pg_name (i := 1) scAreT.nd rfl (Or.inl rfl)) (fun _ _ _ _ _ => pts_nil) (fun _ _ _ _ _ => pe_call GO hr (by rfl) gO kO bO .nil pass0 (pa_cons (pv 1) pa_nil))) pa_nil)))))), ?_⟩
        refine ⟨_, rfl, _, true, rfl, SqX.seq (.inr hx), fun H1 s1 => ⟨_, rfl, ?_⟩⟩
        refine iteY rfl ?_
        refine ⟨_, rfl, a, rfl, ⟨_, SqT.of (s1 _ _ hx)⟩, fun D nD => lc_tup (K := K) (a := a) (xs := xs) (fun i G => Same H1 G ∧ G D = some (.lst ((bs.take i).map V.bl))) ⟨Same.new nD, upd_same⟩ (fun i G _ q => SqT.of (q.1 _ _ (s1 _ _ hx))) ?_ ?_⟩
        · rintro i x G hi ⟨sG, hD⟩
          have li := (List.getElem?_eq_some_iff.mp hi).1
          rw [← hb.1] at li
          have eb : bs[i]? = some bs[i] := by simp [li]
          refine ⟨rfl, _, rfl, x, bs[i], rfl, (hb.2 i x _ hi eb).same (s1.trans sG), _, hD, ?_, fun c u e => by rw [upd_ne (ne_of_none e nD)]; exact sG _ _ e, ?_⟩
          · rw [List.length_map, List.length_take]
            exact smallT (by omega)
          · rw [upd_same, List.take_succ, eb, List.map_append]
            rfl
        · rintro G ⟨sG, hD⟩
          rw [← hb.1, List.take_length] at hD
          exact ⟨D, bs, rfl, SqL.of hD, k G (s1.trans sG)⟩
theorem scAreD : FnScope ["value", "one"] ["value"] (defScope sAreD) := ⟨rfl, rfl, rfl, by decide +kernel, rfl, by decide +kernel, by decide +kernel⟩
theorem ok_areD {f fS fO : Addr} {fd fdS fdO : FuncData} (F : Fun K "are_deeds" "are_deeds" sAreD f fd) (T : TxtK mg) (GS : FnOk P w K mg base CX0 1 fS fdS ["value"] (spSeq K)) (gS : mg "is_sequence" = some (.ref fS)) (kS : PySem.W.keepIn K (.ref fS) = true) (bS : Binds K fdS ["value"] [])
    (GO : FnOk P w K mg base CX0 1 fO fdO ["value"] (spOne progD K)) (gO : mg "is_deed" = some (.ref fO)) (kO : PySem.W.keepIn K (.ref fO) = true) (bO : Binds K fdO ["value"] []) : FnOk P w K mg base CX0 2 f fd ["value"] (spAre progD full K) := by
  refine F.ok scAreD (fun vs H Q E h => ?_) (fun cdv A outer s H vs Q E hr h => ?_)
  · obtain ⟨x, r, rfl, _⟩ := h
    rfl
  · obtain ⟨x, r, rfl, h, k⟩ := h
    rcases h with ⟨h, rfl⟩ | ⟨a, xs, bs, rfl, hx, hl, hb, rfl⟩
    · refine ⟨_, (pss_one (ps_ret (pe_and (pe_call GS hr (by rfl) gS kS bS .nil pass0 (pa_cons (pv 0) pa_nil)) (pe_and (pe_cmpR op_gt (pe_callB call_len_seq (by rfl) T.len PySem.boot_len (pa_cons (pv 0) pa_nil)) pe_int (nomark _)) (pe_one (pe_callB (cr_all rfl) (by rfl) T.all (by decide +kernel) (pa_cons
            (pe_lc (own := [("one", 1)]) (g := gName 1) (tt := tYes) (by rfl) scAreD.nd (pi_list (pv 0)) (blkOk_by (N := ["value", "one"]) (sc := defScope sAreD) (by decide +kernel)) (fun _ _ _ _ _ => pg_name (i := 1) scAreD.nd rfl (Or.inl rfl)) (fun _ _ _ _ _ => pts_nil) (fun _ _ _ _ _ => pe_call GO hr (by rfl) gO kO bO .nil pass0 (pa_cons (pv 1) pa_nil))) pa_nil))))))), ?_⟩
      exact ⟨_, rfl, _, false, rfl, h, fun H' s => ⟨_, rfl, iteN rfl (k H' s)⟩⟩
    · have lb : bs.length ≤ 100000 := by rw [hb.1]; exact hl
      rcases hx with hx | hx
      · refine ⟨_, (pss_one (ps_ret (pe_and (pe_call GS hr (by rfl) gS kS bS .nil pass0 (pa_cons (pv 0) pa_nil)) (pe_and (pe_cmpR op_gt (pe_callB call_len_seq (by rfl) T.len PySem.boot_len (pa_cons (pv 0) pa_nil)) pe_int (nomark _)) (pe_one (pe_callB (cr_all rfl) (by rfl) T.all (by decide +kernel) (pa_cons
            (pe_lc (own := [("one", 1)]) (g := gName 1) (tt := tYes) (by rfl) scAreD.nd (pi_list (pv 0)) (blkOk_by (N := ["value", "one"]) (sc := defScope sAreD) (by decide +kernel)) (fun _ _ _ _ _ => pg_name (i := 1) scAreD.nd rfl (Or.inl rfl)) (fun _ _ _ _ _ => pts_nil) (fun _ _ _ _ _ => pe_call GO hr (by rfl) gO kO bO .nil pass0 (pa_cons (pv 1) pa_nil))) pa_nil))))))), ?_⟩
        refine ⟨_, rfl, _, true, rfl, SqX.seq (.inl hx), fun H1 s1 => ⟨_, rfl, ?_⟩⟩
        refine iteY rfl ?_
        refine ⟨_, rfl, a, xs, rfl, .inl (SqL.of (s1 _ _ hx)), _, _, rfl, rfl, _, rfl, ?_⟩
        have e0 : decide (((xs.length : Nat) : Int) > 0) = full xs := by
          unfold full
          by_cases q : 0 < xs.length
          · rw [decide_eq_true q, decide_eq_true (by omega)]
          · rw [decide_eq_false q, decide_eq_false (by omega)]
        refine ite2 (fun h1 => ?_) (fun h1 => ?_)
        · have h2 : full xs = true := by rw [← e0]; exact h1
          rw [h2] at k
          refine ⟨_, rfl, a, rfl, ⟨_, SqL.of (s1 _ _ hx)⟩, fun D nD => lc_list (K := K) (a := a) (xs := xs) (fun i G => Same H1 G ∧ G D = some (.lst ((bs.take i).map V.bl))) ⟨Same.new nD, upd_same⟩ (fun i G _ q => SqL.of (q.1 _ _ (s1 _ _ hx))) ?_ ?_⟩
          · rintro i x G hi ⟨sG, hD⟩
            have li := (List.getElem?_eq_some_iff.mp hi).1
            rw [← hb.1] at li
            have eb : bs[i]? = some bs[i] := by simp [li]
            refine ⟨rfl, _, rfl, x, bs[i], rfl, (hb.2 i x _ hi eb).same (s1.trans sG), _, hD, ?_, fun c u e => by rw [upd_ne (ne_of_none e nD)]; exact sG _ _ e, ?_⟩
            · rw [List.length_map, List.length_take]
              exact smallT (by omega)
            · rw [upd_same, List.take_succ, eb, List.map_append]
              rfl
          · rintro G ⟨sG, hD⟩
            rw [← hb.1, List.take_length] at hD
            exact ⟨D, bs, rfl, SqL.of hD, k G (s1.trans sG)⟩
        · have h2 : full xs = false := by rw [← e0]; simpa using h1
          rw [h2] at k
          exact k H1 s1
      · refine ⟨_, (pss_one (ps_ret (pe_and (pe_call GS hr (by rfl) gS kS bS .nil pass0 (pa_cons (pv 0) pa_nil)) (pe_and (pe_cmpR op_gt (pe_callB call_len_seq (by rfl) T.len PySem.boot_len (pa_cons (pv 0) pa_nil)) pe_int (nomark _)) (pe_one (pe_callB (cr_all rfl) (by rfl) T.all (by decide +kernel) (pa_cons
            (pe_lc (own := [("one", 1)]) (g := gName 1) (tt := tYes) (by rfl) scAreD.nd (pi_tup (pv 0)) (blkOk_by (N := ["value", "one"]) (sc := defScope sAreD) (by decide +kernel)) (fun _ _ _ _ _ => pg_name (i := 1) scAreD.nd rfl (Or.inl rfl)) (fun _ _ _ _ _ => pts_nil) (fun _ _ _ _ _ => pe_call GO hr (by rfl) gO kO bO .nil pass0 (pa_cons (pv 1) pa_nil))) pa_nil))))))), ?_⟩
        refine ⟨_, rfl, _, true, rfl, SqX.seq (.inr hx), fun H1 s1 => ⟨_, rfl, ?_⟩⟩
        refine iteY rfl ?_
        refine ⟨_, rfl, a, xs, rfl, .inr (SqT.of (s1 _ _ hx)), _, _, rfl, rfl, _, rfl, ?_⟩
        have e0 : decide (((xs.length : Nat) : Int) > 0) = full xs := by
          unfold full
          by_cases q : 0 < xs.length
          · rw [decide_eq_true q, decide_eq_true (by omega)]
          · rw [decide_eq_false q, decide_eq_false (by omega)]
        refine ite2 (fun h1 => ?_) (fun h1 => ?_)
        · have h2 : full xs = true := by rw [← e0]; exact h1
          rw [h2] at k
          refine ⟨_, rfl, a, rfl, ⟨_, SqT.of (s1 _ _ hx)⟩, fun D nD => lc_tup (K := K) (a := a) (xs := xs) (fun i G => Same H1 G ∧ G D = some (.lst ((bs.take i).map V.bl))) ⟨Same.new nD, upd_same⟩ (fun i G _ q => SqT.of (q.1 _ _ (s1 _ _ hx))) ?_ ?_⟩
          · rintro i x G hi ⟨sG, hD⟩
            have li := (List.getElem?_eq_some_iff.mp hi).1
            rw [← hb.1] at li
            have eb : bs[i]? = some bs[i] := by simp [li]
            refine ⟨rfl, _, rfl, x, bs[i], rfl, (hb.2 i x _ hi eb).same (s1.trans sG), _, hD, ?_, fun c u e => by rw [upd_ne (ne_of_none e nD)]; exact sG _ _ e, ?_⟩
            · rw [List.length_map, List.length_take]
              exact smallT (by omega)
            · rw [upd_same, List.take_succ, eb, List.map_append]
              rfl
          · rintro G ⟨sG, hD⟩
            rw [← hb.1, List.take_length] at hD
            exact ⟨D, bs, rfl, SqL.of hD, k G (s1.trans sG)⟩
        · have h2 : full xs = false := by rw [← e0]; simpa using h1
          rw [h2] at k
          exact k H1 s1
end
end Lay
set_option Elab.async false
set_option linter.all false
set_option maxRecDepth 100000
set_option maxHeartbeats 4000000
namespace Lay
open PySem PySem.Spec PyProof.Rows L2
/-! C(e, ..) where what is let out depends on the slots; isinstance of an exception that the suite holds, with a dict. -/
section
variable {X : Cx} {CX : CXT} {k : Nat} {f C : Addr} {fd : FuncData} {ps : List Str} {sp : Sp} {E : L2.St → XK} {x m : Str} {p pos : Pos} {e : Expr} {es : List Expr} {t : TA} {ds : List Value} {dvs : List V}
theorem run_makeS {pins : List (Addr × Obj)} {σ : L2.St} {H : Hp} {s : Shared} {Q : VK} {us : List Value} {vs : List V} (M : Mk X.K C f) (F : FnOk X.prog X.w X.K X.mg X.base CX k f fd ps sp) (hr : Room (k + 1) X.A) (hb : Binds X.K fd ps ds) (hd : Vals dvs ds)
    (hx : PassesAt CX X σ (E σ)) (I : Inv X pins σ H s) (r : Vals vs us)
    (h : ∀ x dx, H x = none → H dx = none → dx ≠ x → sp (.ref x :: (vs ++ dvs)) (upd (upd H dx (.own x)) x (.ins C dx [])) (fun v H2 => v = .non ∧ Q (.ref x) H2) (E σ)) :
    wpAny (model X.prog X.w) X.A (call (.ref C) us) (EP X pins σ Q) X.xe s := by
  have hq := h (s.heap.objs.size + 1) s.heap.objs.size (I.hok.fresh (Nat.le_succ _)) (I.hok.fresh (Nat.le_refl _)) (Nat.ne_of_lt (Nat.lt_succ_self _))
  have I2 := Inv.made (C := C) I
  have r2 : Vals (V.ref (s.heap.objs.size + 1) :: (vs ++ dvs)) (Value.ref (s.heap.objs.size + 1) :: (us ++ ds)) := .cons rfl (r.append hd)
  have hl : (Value.ref (s.heap.objs.size + 1) :: us ++ ds).length = ps.length := by
    have e := r2.length
    rw [F.len _ _ _ _ hq] at e
    exact e.symm
  refine wpAny_call (make_map (f := f) I.kIn M.makes M.init (beq_iff_eq.mp M.fn) (codeAny_mono (F.run _ X.stack _ _ ⟨Value.ref (s.heap.objs.size + 1) :: us, []⟩ (Value.ref (s.heap.objs.size + 1) :: (us ++ ds)) _ _ (E σ) (hr.make C us [])
    (I2.env0.make C us []) (hb _ (Value.ref (s.heap.objs.size + 1) :: us) I2.kIn hl) r2 hq) fun r s' hq' => ?_))
  cases r with
  | error e => exact hx pins _ _ e s' I2 hq'
  | ok fl =>
    cases fl with
    | ret u =>
      obtain ⟨v, H', I3, rv, ev, q3⟩ := I2.after hq'
      subst ev
      exact ⟨rv, ⟨V.ref (s.heap.objs.size + 1), H', I3, rfl, q3⟩⟩
    | next => exact False.elim hq'
    | brk => exact False.elim hq'
    | cont => exact False.elim hq'
def tMakeS (C : Addr) (sp : Sp) (dvs : List V) (E : L2.St → XK) (t : TA) : TE := fun σ H Q => t σ H fun vs H1 => ∀ x dx, H1 x = none → H1 dx = none → dx ≠ x → sp (.ref x :: (vs ++ dvs)) (upd (upd H1 dx (.own x)) x (.ins C dx [])) (fun v H2 => v = .non ∧ Q (.ref x) H2) (E σ)
theorem pe_makeS (M : Mk X.K C f) (F : FnOk X.prog X.w X.K X.mg X.base CX k f fd ps sp) (hr : Room (k + 1) X.A) (hg : Gl X x) (hm : X.mg x = some (.ref C)) (hb : Binds X.K fd ps ds) (hd : Vals dvs ds) (hx : ∀ σ, PassesAt CX X σ (E σ))
    (ha : PA X (e :: es) t) (hdb : (x == ("__debug__" : Str)) = false := by decide) (he : starEach (e :: es) X.env = (false, eval e X.env) :: starEach es X.env := by rfl) (hpl : (backTo pos (starEach es X.env)).any (·.1) = false := by rfl) :
    PE X (.Call (.Name x p) (e :: es) [] pos) (tMakeS C sp dvs E t) := by
  refine ⟨fun pins s σ H Q I h => ?_⟩
  refine wpAny_Call_Name_kw (ld_glob I hg hm ?_ hdb)
  refine PySem.W.callWith_K (h₀ := X.base) I.ok.mod.kin M.kp (thn (ha.run pos pins s σ H _ I h) fun us s1 ⟨vs, H1, I1, r, q⟩ => ⟨I1.kIn, ?_⟩) he hpl
  exact run_makeS M F hr hb hd (hx σ) I1 r q
/-- isinstance(e, c), e the exception that the suite holds, a dict with it -/
def rIsEX (K : PySem.W.Frag) (a : Addr) (cls : Value) (d : Option Addr) : List V → Hp → VK → Prop := fun xs H Q => ∃ (D dd : Addr) (fs : List (Str × V)) (c : V) (cv : Value) (b : Bool), xs = [.ref a, c] ∧ cls = .ref D ∧ d = some dd ∧ H dd = some (.xd fs) ∧ ExcC K D ∧ ClsV c cv ∧
  PySem.W.kitOne K (.ref D) cv = some b ∧ Q (.bl b) H
theorem call_isEX {a : Addr} {cls : Value} {d : Option Addr} {oe : Obj} {pn : List (Addr × Obj)} (hz : Zc cls d oe) (hf : ∃ vs, oe.data = .fields vs) : CallR (X.suite a ((a, oe) :: pn)) (.builtin "isinstance") (rIsEX X.K a cls d) := by
  intro pins s σ H xs us Q I r h
  obtain ⟨D, dd, fs, c, cv, b, rfl, ec, ed, hdd, C, k, e, q⟩ := h
  obtain ⟨u1, u2, rfl, r1, r2⟩ := vals2 r
  cases r1
  have e2 := k.eq r2
  subst e2 ec ed
  have hcl : (PySem.W.clsIn X.K D).isSome = true := by
    obtain ⟨cd, hc, _⟩ := PySem.W.any_some C.hd
    rw [hc]
    rfl
  obtain ⟨hget, _⟩ := I.pin (a, oe) (List.mem_append_left _ List.mem_cons_self)
  obtain ⟨vs, hv⟩ := hf
  have hx : ObjOk X.prog X.w H s.heap dd (.xd fs) := I.hok dd _ hdd
  obtain ⟨mA, hns, hrel⟩ := hx
  obtain ⟨od, ho, hl⟩ := lookIn_ns hns
  have J : PySem.W.InstAt s.heap a oe D (some od) := ⟨hget, hz.1, by unfold PySem.W.notCls; rw [hv] <;> rfl, by rw [hz.2]; exact ho⟩
  exact PySem.W.kia_one (PySem.W.kitx_exc hcl C.hg C.hk C.hs C.ha C.hn C.ht C.hm) I.kIn J e (fun z => nomatch z) fun tk => ⟨.bl b, H, I.kept (t' := tk) fun _ _ z => z, rfl, q⟩
end
section
variable {X : Cx}
/-- tuple(a list or a tuple) -/
theorem call_tupleX : CallR X (.type "tuple") (fun xs H Q => ∃ a ys, xs = [.ref a] ∧ SqX X.K H a ys ∧ ∀ l H', Same H H' → H' l = some (.tup ys) → Q (.ref l) H') := by
  intro pins s σ H xs us Q I r h
  obtain ⟨a, ys, rfl, hs, q⟩ := h
  refine call_tuple_of pins s σ H _ us Q I r ⟨a, ys, rfl, ?_⟩
  rcases hs with hs | hs
  · exact .inl ⟨SqL.of hs, fun l nl => q l _ (Same.new nl) upd_same⟩
  · exact .inr ⟨SqT.of hs, q a H (Same.refl H) hs⟩
theorem call_listX : CallR X (.type "list") (fun xs H Q => ∃ a ys, xs = [.ref a] ∧ SqX X.K H a ys ∧ ∀ l H', Same H H' → H l = none → H' l = some (.lst ys) → Q (.ref l) H') := by
  intro pins s σ H xs us Q I r h
  obtain ⟨a, ys, rfl, hs, q⟩ := h
  refine call_list_of pins s σ H _ us Q I r ⟨a, ys, rfl, ?_, fun l nl => q l _ (Same.new nl) nl upd_same⟩
  rcases hs with hs | hs
  · exact .inl (SqL.of hs)
  · exact .inr (SqT.of hs)
theorem op_catX : OpR X (binaryOp .Add) (fun x y H Q => ∃ a b xs ys, x = .ref a ∧ y = .ref b ∧ H a = some (.tup xs) ∧ H b = some (.tup ys) ∧ xs.length + ys.length ≤ 1000 ∧ ∀ p H', Same H H' → H' p = some (.tup (xs ++ ys)) → Q (.ref p) H') := by
  intro pins s σ H x y v u Q I rx ry h
  obtain ⟨a, b, xs, ys, rfl, rfl, ha, hb, hl, q⟩ := h
  refine op_catA pins s σ H _ _ v u Q I rx ry ⟨a, b, xs, ys, rfl, rfl, SqT.of ha, SqT.of hb, fitsW (by omega), fun e => ?_, fun _ e => ?_, fun _ _ p np => q p _ (Same.new np) upd_same⟩
  · subst e
    exact q b H (Same.refl H) hb
  · subst e
    exact q a H (Same.refl H) (by rw [List.append_nil]; exact ha)
theorem sl_tupX : SlR X (fun x lo hi H Q => ∃ a xs, x = .ref a ∧ H a = some (.tup xs) ∧ ∀ p H', Same H H' → H' p = some (.tup (cutV xs lo hi)) → Q (.ref p) H') := by
  intro pins s σ H x v vl vu lo hi sl Q I rx hs pl pu h
  obtain ⟨a, xs, rfl, ha, q⟩ := h
  refine sl_tupA pins s σ H _ v vl vu lo hi sl Q I rx hs pl pu ⟨a, xs, rfl, SqT.of ha, fun w => ?_, fun _ p np => q p _ (Same.new np) upd_same⟩
  refine q a H (Same.refl H) ?_
  unfold cutV
  rw [w.1, w.2]
  simpa using ha
end
/-- an error class with an __init__ of its own that keeps f -/
structure XC (K : PySem.W.Frag) (mg : Str → Option Value) (C fI : Addr) (x f : Str) : Prop where
  oex : OexC K C
  init : PySem.W.findIn K (.ref C) "__init__" = some (some (.ref fI))
  tI : PySem.W.typeIn K (.ref fI) = some (.type "function")
  gC : mg x = some (.ref C)
  no : PySem.W.findIn K (.ref C) f = some none
  isC : ExcC K C
  xf : XfC K C
def spInit (K : PySem.W.Frag) (C : Addr) (f : Str) : Sp := fun vs H Q _ => ∃ (a : Addr) (v : V), vs = [.ref a, v] ∧ OexC K C ∧ PySem.W.findIn K (.ref C) f = some none ∧ H a = some (exo a C none) ∧
  ∀ dx, H dx = none → dx ≠ a → Q .non (upd (upd H dx (exd dx [(f, v)])) a (exo a C (some dx)))
/-- what raising such a class comes to -/
theorem raised_at {K : PySem.W.Frag} {C a : Addr} {f : Str} {H : Hp} {v : V} {Q : XK} (T : OexC K C) (no : PySem.W.findIn K (.ref C) f = some none) (ha : H a = none)
    (k : ∀ H' d, Same H H' → H d = none → H' d = some (.xd [(f, v)]) → Q (.ref C) (some d) H') :
    spInit K C f [.ref a, v] (upd H a (exo a C none)) (fun u H2 => u = .non ∧ ∃ (d : Addr) (fs : List (Str × V)), H2 a = some (exo a C (some d)) ∧ H2 d = some (exd d fs) ∧ H d = none ∧ Q (.ref C) (some d) (upd (del H2 a) d (.xd fs))) (fun _ _ _ => False) := by
  refine ⟨a, v, rfl, T, no, upd_same, fun dx hd ne => ?_⟩
  have hd' : H dx = none := by
    rw [upd_ne ne] at hd
    exact hd
  refine ⟨rfl, dx, _, upd_same, by rw [upd_ne ne, upd_same], hd', k _ dx (fun b o e => ?_) hd' upd_same⟩
  have nb : b ≠ a := ne_of_none e ha
  have nd : b ≠ dx := ne_of_none e hd'
  rw [upd_ne nd, del_ne nb, upd_ne nb, upd_ne nd, upd_ne nb]
  exact e
/-- what is raised -/
def Raised (D : Addr) (H : Hp) (v : V) (E : XK) : Prop := ∀ H' d, Same H H' → H d = none → H' d = some (.xd [("part", v)]) → E (.ref D) (some d) H'
theorem Raised.same {D : Addr} {H H' : Hp} {v : V} {E : XK} (s : Same H H') (h : Raised D H v E) : Raised D H' v E := fun G d s2 n e => h G d (s.trans s2) (s.free n) e
/-- what the class Row says of itself -/
structure RowC (K : PySem.W.Frag) (C : Addr) : Prop where
  cl : Cls K C
  tests : NoAttr K C "tests"
  deeds : NoAttr K C "deeds"
def rowF (t d : Addr) : List (Str × V) := putF "deeds" (.ref d) (putF "tests" (.ref t) [])
def spRowI (K : PySem.W.Frag) (C D : Addr) : Sp := fun vs H Q E => ∃ (p dx : Addr) (x y : V) (rt rd : Bool), vs = [.ref p, x, y] ∧ H p = some (.ins C dx []) ∧ AnsV progT yes K H x rt ∧ AnsV progD full K H y rd ∧
  (rt = true → rd = true → ∀ H' t d ys, Kept p H H' → H' p = some (.ins C dx (rowF t d)) → H' d = some (.tup ys) → 0 < ys.length → Q .non H') ∧ (rt = false → Raised D H (.str "tests") E) ∧ (rt = true → rd = false → Raised D H (.str "deeds") E)
abbrev sIR : Stmt := inClass (top 5) 0
abbrev sRowI : Stmt := inClass (top 77) 0
section
variable {P : Program} {w : World} {K : PySem.W.Frag} {mg : Str → Option Value} {base : Heap}
theorem scIR : FnScope ["self", "part"] ["self", "part"] (defScope sIR) := ⟨rfl, rfl, rfl, by decide +kernel, rfl, by decide +kernel, by decide +kernel⟩
theorem ok_iR {f C : Addr} {fd : FuncData} (F : Fun K "__init__" "InvalidRow.__init__" sIR f fd) : FnOk P w K mg base CX0 1 f fd ["self", "part"] (spInit K C "part") := by
  refine F.ok scIR (fun vs H Q E h => ?_) (fun cdv A outer s H vs Q E hr h => ?_)
  · obtain ⟨a, v, rfl, _⟩ := h
    rfl
  · obtain ⟨a, v, rfl, T, no, ha, k⟩ := h
    exact ⟨_, pss_one (ps_ost (pv 0) (pv 1)), _, rfl, _, rfl, a, C, rfl, T, no, .inl ⟨ha, fun dx h1 h2 => k dx h1 h2⟩⟩
theorem scRowI : FnScope ["self", "tests", "deeds"] ["self", "tests", "deeds"] (defScope sRowI) := ⟨rfl, rfl, rfl, by decide +kernel, rfl, by decide +kernel, by decide +kernel⟩
theorem ok_rowI {f fT fD fI C D : Addr} {fd fdT fdD fdI : FuncData} {dvs : List V} (F : FunD K "__init__" "Row.__init__" (defArgs sRowI) (defBody sRowI) (defScope sRowI) dvs [] f fd) (T : TxtK mg) (Z : RowC K C)
    (GT : FnOk P w K mg base CX0 2 fT fdT ["value"] (spAre progT yes K)) (gT : mg "are_tests" = some (.ref fT)) (kT : PySem.W.keepIn K (.ref fT) = true) (bT : Binds K fdT ["value"] [])
    (GD : FnOk P w K mg base CX0 2 fD fdD ["value"] (spAre progD full K)) (gD : mg "are_deeds" = some (.ref fD)) (kD : PySem.W.keepIn K (.ref fD) = true) (bD : Binds K fdD ["value"] [])
    (Y : XC K mg D fI "InvalidRow" "part") (GI : FnOk P w K mg base CX0 1 fI fdI ["self", "part"] (spInit K D "part")) (bI : Binds K fdI ["self", "part"] []) : FnOk P w K mg base (L2.CX P w) 3 f fd ["self", "tests", "deeds"] (spRowI K C D) := by
  refine F.ok scRowI (fun vs H Q E h => ?_) (fun cdv A outer s H vs Q E hr h => ?_)
  · obtain ⟨p, dx, x, y, rt, rd, rfl, _⟩ := h
    rfl
  · obtain ⟨p, dx, x, y, rt, rd, rfl, hp, ht, hd, k1, k2, k3⟩ := h
    refine ⟨_, (pss_cons (ps_if (pt_not (pt_val (pe_call GT hr (by rfl) gT kT bT .nil pass0 (pa_cons (pv 1) pa_nil))))
      (pss_one (ps_raise rfl (takes_of rfl rfl rfl rfl) (pmk_oex Y.oex Y.init Y.tI GI hr bI .nil pass0 (by rfl) Y.gC (pa_cons pe_str pa_nil))))
      pss_nil)
    (pss_cons (ps_if (pt_not (pt_val (pe_call GD hr (by rfl) gD kD bD .nil pass0 (pa_cons (pv 2) pa_nil))))
      (pss_one (ps_raise rfl (takes_of rfl rfl rfl rfl) (pmk_oex Y.oex Y.init Y.tI GI hr bI .nil pass0 (by rfl) Y.gC (pa_cons pe_str pa_nil))))
      pss_nil)
    (pss_cons (ps_fld (pv 0) (pe_callTy call_tupleX (by rfl) T.tuple (by decide +kernel) (pa_cons (pv 1) pa_nil)) rfl)
    (pss_one (ps_fld (pv 0) (pe_callTy call_tupleX (by rfl) T.tuple (by decide +kernel) (pa_cons (pv 2) pa_nil)) rfl))))), ?_⟩
    refine ⟨_, rfl, x, rt, rfl, ht, fun H1 s1 => ⟨_, rfl, ?_⟩⟩
    cases rt with
    | false =>
      exact iteY rfl ⟨by show 1 ≤ 1000; decide, fun a ha => raised_at Y.oex Y.no ha (k2 rfl |>.same s1)⟩
    | true =>
      refine iteN rfl ⟨_, rfl, y, rd, rfl, hd.same s1, fun H2 s2 => ⟨_, rfl, ?_⟩⟩
      cases rd with
      | false =>
        exact iteY rfl ⟨by show 1 ≤ 1000; decide, fun a ha => raised_at Y.oex Y.no ha (k3 rfl rfl |>.same (s1.trans s2))⟩
      | true =>
        refine iteN rfl ?_
        have s12 := s1.trans s2
        rcases ht with ⟨_, z⟩ | ⟨a, xs, bs, rfl, hx, _⟩
        · cases z
        rcases hd with ⟨_, z⟩ | ⟨c, ys, ds, rfl, hy, _, _, ey⟩
        · cases z
        have n0 : 0 < ys.length := of_decide_eq_true (Bool.and_eq_true_iff.mp ey.symm).1
        refine ⟨_, rfl, a, xs, rfl, hx.same s12, fun t H3 s3 h3 => ⟨_, rfl, p, C, dx, _, rfl, s3 _ _ (s12 _ _ hp), Z.cl, Z.tests, (by show 0 < 1000; decide), ?_⟩⟩
        have ncp : c ≠ p := by
          rcases hy with hy | hy
          · exact ne_of hy hp (fun z => nomatch z)
          · exact ne_of hy hp (fun z => nomatch z)
        have k4 : Kept p H (upd H3 p (.ins C dx (putF "tests" (.ref t) []))) := (Kept.of_same (s12.trans s3)).trans Kept.box
        have hy4 : SqX K (upd H3 p (.ins C dx (putF "tests" (.ref t) []))) c ys := by
          rcases hy with hy | hy
          · exact .inl (k4 _ _ ncp hy)
          · exact .inr (k4 _ _ ncp hy)
        refine ⟨_, rfl, c, ys, rfl, hy4, fun d H5 s5 h5 => ⟨_, rfl, p, C, dx, _, rfl, s5 _ _ upd_same, Z.cl, Z.deeds, ?_, ?_⟩⟩
        · exact Nat.lt_of_le_of_lt (length_putF _ _ []) (by show 0 + 1 < 1000; decide)
        · have ndp : d ≠ p := ne_of h5 (s5 _ _ upd_same) (fun z => nomatch z)
          exact k1 rfl rfl _ t d ys ((k4.trans (Kept.of_same s5)).trans Kept.box) upd_same (by rw [upd_ne ndp]; exact h5) n0
end
end Lay
set_option Elab.async false
set_option linter.all false
set_option maxRecDepth 100000
set_option maxHeartbeats 4000000
namespace Lay
open PySem PySem.Spec PyProof.Rows L2
section
variable {X : Cx}
end
section
variable {X : Cx} {K : PySem.W.Frag} {e : Expr} {ta : TE} {f : Str} {pos : Pos}
theorem pe_fldK (hK : X.K = K) (he : PE X e ta) (hb : attributeBase e f X.env (eval e X.env) = eval e X.env) : PE X (.Attribute e f pos) (tFld K ta f) := by
  subst hK
  exact pe_fld he hb
end
section
variable {X : Cx}
/-- xs != [], any xs -/
theorem op_neNil (hu : X.A.units + 64 < cLine) : OpR X (compareOp .NotEq) (fun x y H Q => ∃ a b xs, x = .ref a ∧ y = .ref b ∧ SqL X.K H a xs ∧ H b = some (.lst []) ∧ Q (.bl (!xs.isEmpty)) H) := by
  intro pins s σ H x y v u Q I rx ry h
  obtain ⟨a, b, xs, rfl, rfl, ha, hb, q⟩ := h
  cases xs with
  | nil => exact op_neD hu pins s σ H _ _ v u Q I rx ry ⟨.list [], .list [], .lst ha .nil, .lst (SqL.of hb) .nil, rfl, rfl, q⟩
  | cons z zs =>
    cases rx
    cases ry
    obtain ⟨its, r, p1, _⟩ := I.list ha
    obtain ⟨its2, r2, p2, _⟩ := I.list (SqL.of hb)
    cases r2
    have hsz : (its.toArray.size != ([] : List Value).toArray.size) = true := by
      cases r
      rfl
    exact (SeqAt.RcNeAt.lists_lengths p1.isList p2.isList hsz (by omega)) _ _ _ _ ⟨.bl true, H, I, rfl, q⟩
end
theorem str_at {zs : List Str} {i : Nat} {x : V} (h : (zs.map V.str)[i]? = some x) : ∃ z, zs[i]? = some z ∧ x = V.str z := by
  rw [List.getElem?_map] at h
  cases q : zs[i]? with
  | none => rw [q] at h; cases h
  | some z => rw [q] at h; exact ⟨z, rfl, (Option.some.inj h).symm⟩
end Lay
set_option Elab.async false
set_option linter.all false
set_option maxRecDepth 100000
set_option maxHeartbeats 4000000
namespace Lay
open PySem L2
def IsPs (K : PySem.W.Frag) (C : Addr) (H : Hp) (xs : List V) (bs : List Bool) : Prop := bs.length = xs.length ∧ ∀ (i : Nat) (x : V) (b : Bool), xs[i]? = some x → bs[i]? = some b → IsP K C H x b
theorem IsPs.same {K : PySem.W.Frag} {C : Addr} {H H' : Hp} {xs : List V} {bs : List Bool} (s : Same H H') (h : IsPs K C H xs bs) : IsPs K C H' xs bs := ⟨h.1, fun i x b h1 h2 => (h.2 i x b h1 h2).same s⟩
/-- whether a value is a sequence of rows -/
def AnsR (K : PySem.W.Frag) (C : Addr) (H : Hp) (x : V) (r : Bool) : Prop := (IsSeq K H x false ∧ r = false) ∨ ∃ a xs bs, x = .ref a ∧ SqG K H a xs ∧ xs.length ≤ 100000 ∧ IsPs K C H xs bs ∧ r = bs.all id
theorem AnsR.same {K : PySem.W.Frag} {C : Addr} {H H' : Hp} {x : V} {r : Bool} (s : Same H H') (h : AnsR K C H x r) : AnsR K C H' x r := by
  rcases h with ⟨h, e⟩ | ⟨a, xs, bs, e, h1, h2, h3, h4⟩
  · exact .inl ⟨h.same s, e⟩
  · exact .inr ⟨a, xs, bs, e, h1.same s, h2, h3.same s, h4⟩
def spAreR (K : PySem.W.Frag) (C : Addr) : Sp := fun vs H Q _ => ∃ x r, vs = [x] ∧ AnsR K C H x r ∧ ∀ H', Same H H' → Q (.bl r) H'
/-- whether a value is a bool -/
def SrtV (K : PySem.W.Frag) (H : Hp) (y : V) (sb : Bool) : Prop := (∃ z, y = .bl z ∧ sb = true) ∨ (sb = false ∧ IsT K H y "bool" false)
theorem SrtV.same {K : PySem.W.Frag} {H H' : Hp} {y : V} {sb : Bool} (s : Same H H') (h : SrtV K H y sb) : SrtV K H' y sb := h.imp id fun q => ⟨q.1, q.2.same s⟩
theorem SrtV.isT {K : PySem.W.Frag} {H : Hp} {y : V} {sb : Bool} (h : SrtV K H y sb) : IsT K H y "bool" sb := by
  rcases h with ⟨z, rfl, rfl⟩ | ⟨rfl, h⟩
  · exact ⟨_, .base (.bl z), kit_ty (by decide +kernel)⟩
  · exact h
abbrev sAreR : Stmt := top 73
abbrev sToolI : Stmt := inClass (top 78) 0
section
variable {P : Program} {w : World} {K : PySem.W.Frag} {mg : Str → Option Value} {base : Heap}
theorem scAreR : FnScope ["value", "one"] ["value"] (defScope sAreR) := ⟨rfl, rfl, rfl, by decide +kernel, rfl, by decide +kernel, by decide +kernel⟩
theorem ok_areR {f fS C : Addr} {fd fdS : FuncData} (F : Fun K "are_rows" "are_rows" sAreR f fd) (T : TxtK mg) (GS : FnOk P w K mg base CX0 1 fS fdS ["value"] (spSeq K)) (gS : mg "is_sequence" = some (.ref fS)) (kS : PySem.W.keepIn K (.ref fS) = true) (bS : Binds K fdS ["value"] [])
    (gC : mg "Row" = some (.ref C)) : FnOk P w K mg base CX0 2 f fd ["value"] (spAreR K C) := by
  refine F.ok scAreR (fun vs H Q E h => ?_) (fun cdv A outer s H vs Q E hr h => ?_)
  · obtain ⟨x, r, rfl, _⟩ := h
    rfl
  · obtain ⟨x, r, rfl, h, k⟩ := h
    rcases h with ⟨h, rfl⟩ | ⟨a, xs, bs, rfl, hx, hl, hb, rfl⟩
    · refine ⟨_, (pss_one (ps_ret (pe_and (pe_call GS hr (by rfl) gS kS bS .nil pass0 (pa_cons (pv 0) pa_nil)) (pe_one (pe_callB (cr_all rfl) (by rfl) T.all (by decide +kernel) (pa_cons
            (pe_lc (own := [("one", 1)]) (g := gName 1) (tt := tYes) (by rfl) scAreR.nd (pi_list (pv 0)) (blkOk_by (N := ["value", "one"]) (sc := defScope sAreR) (by decide +kernel)) (fun _ _ _ _ _ => pg_name (i := 1) scAreR.nd rfl (Or.inl rfl)) (fun _ _ _ _ _ => pts_nil) (fun _ _ _ _ _ => pe_callB (call_isiK (K := K) rfl) (by rfl) T.isinstance (by decide +kernel) (pa_cons (pv 1) (pa_cons (pe_glob (v := .ref C) (by rfl) gC rfl) pa_nil)))) pa_nil)))))), ?_⟩
      exact ⟨_, rfl, _, false, rfl, h, fun H' s => ⟨_, rfl, iteN rfl (k H' s)⟩⟩
    · have lb : bs.length ≤ 100000 := by rw [hb.1]; exact hl
      rcases hx with hx | hx
      · refine ⟨_, (pss_one (ps_ret (pe_and (pe_call GS hr (by rfl) gS kS bS .nil pass0 (pa_cons (pv 0) pa_nil)) (pe_one (pe_callB (cr_all rfl) (by rfl) T.all (by decide +kernel) (pa_cons
            (pe_lc (own := [("one", 1)]) (g := gName 1) (tt := tYes) (by rfl) scAreR.nd (pi_list (pv 0)) (blkOk_by (N := ["value", "one"]) (sc := defScope sAreR) (by decide +kernel)) (fun _ _ _ _ _ => pg_name (i := 1) scAreR.nd rfl (Or.inl rfl)) (fun _ _ _ _ _ => pts_nil) (fun _ _ _ _ _ => pe_callB (call_isiK (K := K) rfl) (by rfl) T.isinstance (by decide +kernel) (pa_cons (pv 1) (pa_cons (pe_glob (v := .ref C) (by rfl) gC rfl) pa_nil)))) pa_nil)))))), ?_⟩
        refine ⟨_, rfl, _, true, rfl, SqG.seq (.inl hx), fun H1 s1 => ⟨_, rfl, iteY rfl ?_⟩⟩
        have hx1 : SqL K H1 a xs := SqL.of (s1 _ _ hx)
        refine ⟨_, rfl, a, rfl, ⟨_, hx1⟩, fun D nD => lc_list (K := K) (a := a) (xs := xs) (fun i G => Same H1 G ∧ G D = some (.lst ((bs.take i).map V.bl))) ⟨Same.new nD, upd_same⟩ (fun i G _ q => SqL.same q.1 hx1) ?_ ?_⟩
        · rintro i x G hi ⟨sG, hD⟩
          have li := (List.getElem?_eq_some_iff.mp hi).1
          rw [← hb.1] at li
          have eb : bs[i]? = some bs[i] := by simp [li]
          obtain ⟨t, ty, et⟩ := (hb.2 i x _ hi eb).same (s1.trans sG)
          refine ⟨rfl, _, rfl, x, _, t, _, bs[i], rfl, .own _, ty, et, _, hD, ?_, fun c u e => by rw [upd_ne (ne_of_none e nD)]; exact sG _ _ e, ?_⟩
          · rw [List.length_map, List.length_take]
            exact smallT (by omega)
          · rw [upd_same, List.take_succ, eb, List.map_append]
            rfl
        · rintro G ⟨sG, hD⟩
          rw [← hb.1, List.take_length] at hD
          exact ⟨D, bs, rfl, SqL.of hD, k G (s1.trans sG)⟩
      · refine ⟨_, (pss_one (ps_ret (pe_and (pe_call GS hr (by rfl) gS kS bS .nil pass0 (pa_cons (pv 0) pa_nil)) (pe_one (pe_callB (cr_all rfl) (by rfl) T.all (by decide +kernel) (pa_cons
            (pe_lc (own := [("one", 1)]) (g := gName 1) (tt := tYes) (by rfl) scAreR.nd (pi_tup (pv 0)) (blkOk_by (N := ["value", "one"]) (sc := defScope sAreR) (by decide +kernel)) (fun _ _ _ _ _ => pg_name (i := 1) scAreR.nd rfl (Or.inl rfl)) (fun _ _ _ _ _ => pts_nil) (fun _ _ _ _ _ => pe_callB (call_isiK (K := K) rfl) (by rfl) T.isinstance (by decide +kernel) (pa_cons (pv 1) (pa_cons (pe_glob (v := .ref C) (by rfl) gC rfl) pa_nil)))) pa_nil)))))), ?_⟩
        refine ⟨_, rfl, _, true, rfl, SqG.seq (.inr hx), fun H1 s1 => ⟨_, rfl, iteY rfl ?_⟩⟩
        have hx1 : SqT K H1 a xs := SqT.same s1 hx.sqT
        refine ⟨_, rfl, a, rfl, ⟨_, hx1⟩, fun D nD => lc_tup (K := K) (a := a) (xs := xs) (fun i G => Same H1 G ∧ G D = some (.lst ((bs.take i).map V.bl))) ⟨Same.new nD, upd_same⟩ (fun i G _ q => SqT.same q.1 hx1) ?_ ?_⟩
        · rintro i x G hi ⟨sG, hD⟩
          have li := (List.getElem?_eq_some_iff.mp hi).1
          rw [← hb.1] at li
          have eb : bs[i]? = some bs[i] := by simp [li]
          obtain ⟨t, ty, et⟩ := (hb.2 i x _ hi eb).same (s1.trans sG)
          refine ⟨rfl, _, rfl, x, _, t, _, bs[i], rfl, .own _, ty, et, _, hD, ?_, fun c u e => by rw [upd_ne (ne_of_none e nD)]; exact sG _ _ e, ?_⟩
          · rw [List.length_map, List.length_take]
            exact smallT (by omega)
          · rw [upd_same, List.take_succ, eb, List.map_append]
            rfl
        · rintro G ⟨sG, hD⟩
          rw [← hb.1, List.take_length] at hD
          exact ⟨D, bs, rfl, SqL.of hD, k G (s1.trans sG)⟩
end
section
variable {X : Cx}
end
structure ToolC (K : PySem.W.Frag) (C : Addr) : Prop where
  cl : Cls K C
  rows : NoAttr K C "rows"
  sorts : NoAttr K C "sorts"
def toolF (t : Addr) (y : V) : List (Str × V) := putF "sorts" y (putF "rows" (.ref t) [])
def spToolI (K : PySem.W.Frag) (C CT D : Addr) : Sp := fun vs H Q E => ∃ (p dx : Addr) (x y : V) (rr sb : Bool), vs = [.ref p, x, y] ∧ H p = some (.ins CT dx []) ∧ AnsR K C H x rr ∧ SrtV K H y sb ∧
  (rr = true → sb = true → ∀ H' t a xs, x = .ref a → SqG K H a xs → TupG K H' t xs → Kept p H H' → H' p = some (.ins CT dx (toolF t y)) → Q .non H') ∧ (rr = false → Raised D H (.str "rows") E) ∧ (rr = true → sb = false → Raised D H (.str "sorts") E)
section
variable {P : Program} {w : World} {K : PySem.W.Frag} {mg : Str → Option Value} {base : Heap}
theorem scToolI : FnScope ["self", "rows", "sorts"] ["self", "rows", "sorts"] (defScope sToolI) := ⟨rfl, rfl, rfl, by decide +kernel, rfl, by decide +kernel, by decide +kernel⟩
theorem ok_toolI {f fR fI C CT D : Addr} {fd fdR fdI : FuncData} {dvs : List V} (F : FunD K "__init__" "Tool.__init__" (defArgs sToolI) (defBody sToolI) (defScope sToolI) dvs [] f fd) (T : TxtK mg) (hbool : mg "bool" = none) (Z : ToolC K CT)
    (GR : FnOk P w K mg base CX0 2 fR fdR ["value"] (spAreR K C)) (gR : mg "are_rows" = some (.ref fR)) (kR : PySem.W.keepIn K (.ref fR) = true) (bR : Binds K fdR ["value"] [])
    (Y : XC K mg D fI "InvalidRow" "part") (GI : FnOk P w K mg base CX0 1 fI fdI ["self", "part"] (spInit K D "part")) (bI : Binds K fdI ["self", "part"] []) : FnOk P w K mg base (L2.CX P w) 3 f fd ["self", "rows", "sorts"] (spToolI K C CT D) := by
  refine F.ok scToolI (fun vs H Q E h => ?_) (fun cdv A outer s H vs Q E hr h => ?_)
  · obtain ⟨p, dx, x, y, rr, sb, rfl, _⟩ := h
    rfl
  · obtain ⟨p, dx, x, y, rr, sb, rfl, hp, hx, hy, k1, k2, k3⟩ := h
    refine ⟨_, (pss_cons (ps_if (pt_not (pt_val (pe_call GR hr (by rfl) gR kR bR .nil pass0 (pa_cons (pv 1) pa_nil))))
      (pss_one (ps_raise rfl (takes_of rfl rfl rfl rfl) (pmk_oex Y.oex Y.init Y.tI GI hr bI .nil pass0 (by rfl) Y.gC (pa_cons pe_str pa_nil))))
      pss_nil)
    (pss_cons (ps_if (pt_not (pt_val (pe_callB call_isi (by rfl) T.isinstance (by decide +kernel) (pa_cons (pv 2) (pa_cons (pe_bltn (v := .ty "bool") (by rfl) hbool (by decide +kernel) rfl) pa_nil)))))
      (pss_one (ps_raise rfl (takes_of rfl rfl rfl rfl) (pmk_oex Y.oex Y.init Y.tI GI hr bI .nil pass0 (by rfl) Y.gC (pa_cons pe_str pa_nil))))
      pss_nil)
    (pss_cons (ps_fld (pv 0) (pe_callTy call_tupleG (by rfl) T.tuple (by decide +kernel) (pa_cons (pv 1) pa_nil)) rfl)
    (pss_one (ps_fld (pv 0) (pv 2) rfl))))), ?_⟩
    refine ⟨_, rfl, x, rr, rfl, hx, fun H1 s1 => ⟨_, rfl, ?_⟩⟩
    cases rr with
    | false => exact iteY rfl ⟨by show 1 ≤ 1000; decide, fun a ha => raised_at Y.oex Y.no ha (k2 rfl |>.same s1)⟩
    | true =>
      obtain ⟨t, ty, et⟩ := (hy.isT).same s1
      refine iteN rfl ⟨_, rfl, _, _, t, _, sb, rfl, .ty _, ty, et, _, rfl, ?_⟩
      cases sb with
      | false => exact iteY rfl ⟨by show 1 ≤ 1000; decide, fun a ha => raised_at Y.oex Y.no ha (k3 rfl rfl |>.same s1)⟩
      | true =>
        refine iteN rfl ?_
        rcases hx with ⟨_, z⟩ | ⟨a, xs, bs, rfl, hs, _⟩
        · cases z
        refine ⟨_, rfl, a, xs, rfl, hs.same s1, fun l H2 s2 hl2 => ⟨_, rfl, p, CT, dx, _, rfl, s2 _ _ (s1 _ _ hp), Z.cl, Z.rows, (by show 0 < 1000; decide), ?_⟩⟩
        refine ⟨_, rfl, _, rfl, p, CT, dx, _, rfl, upd_same, Z.cl, Z.sorts, ?_, ?_⟩
        · exact Nat.lt_of_le_of_lt (length_putF _ _ []) (by show 0 + 1 < 1000; decide)
        · refine k1 rfl rfl _ l a xs rfl hs ?_ (((Kept.of_same (s1.trans s2)).trans Kept.box).trans Kept.box) upd_same
          exact (hl2.put_ins (s2 _ _ (s1 _ _ hp))).put_ins upd_same
end
end Lay
set_option Elab.async false
set_option linter.all false
set_option maxRecDepth 100000
set_option maxHeartbeats 4000000
namespace Lay
open PySem L2
/-- what a row is made of -/
structure RD where
  ws : List Str
  us : List Str
structure RD.Ok (r : RD) : Prop where
  w : ∀ z ∈ r.ws, z.length ≤ 20
  u : ∀ z ∈ r.us, z.length ≤ 20
  lw : r.ws.length ≤ 100000
  lu : r.us.length ≤ 100000
  nu : 0 < r.us.length
  k : ∀ z ∈ r.ws, PyData.strOk z = true
/-- at p a row of r -/
def RowAt (C : Addr) (H : Hp) (p : Addr) (r : RD) : Prop := ∃ dx t d, H p = some (.ins C dx (rowF t d)) ∧ H t = some (.tup (r.ws.map V.str)) ∧ H d = some (.tup (r.us.map V.str))
theorem RowAt.same {C : Addr} {H H' : Hp} {p : Addr} {r : RD} (s : Same H H') (h : RowAt C H p r) : RowAt C H' p r := by
  obtain ⟨dx, t, d, h1, h2, h3⟩ := h
  exact ⟨dx, t, d, s _ _ h1, s _ _ h2, s _ _ h3⟩
def RowsAt (C : Addr) (H : Hp) (xs : List V) (rs : List RD) : Prop := xs.length = rs.length ∧ (∀ r ∈ rs, r.Ok) ∧ ∀ (i : Nat) (x : V) (r : RD), xs[i]? = some x → rs[i]? = some r → ∃ q, x = .ref q ∧ RowAt C H q r
theorem RowsAt.same {C : Addr} {H H' : Hp} {xs : List V} {rs : List RD} (s : Same H H') (h : RowsAt C H xs rs) : RowsAt C H' xs rs := ⟨h.1, h.2.1, fun i x r h1 h2 => by
  obtain ⟨q, e, hq⟩ := h.2.2 i x r h1 h2
  exact ⟨q, e, hq.same s⟩⟩
end Lay
set_option Elab.async false
set_option linter.all false
set_option maxRecDepth 100000
set_option maxHeartbeats 4000000
namespace Lay
open PySem L2
theorem RowAt.isP {K : PySem.W.Frag} {C p : Addr} {H : Hp} {r : RD} (c : ClsI K C) (h : RowAt C H p r) : IsP K C H (.ref p) true := by
  obtain ⟨dx, t, d, h1, _⟩ := h
  exact ⟨_, c.at h1, kit_same⟩
section
variable {X : Cx}
end
/-- a row that is let -/
def spRowG (K : PySem.W.Frag) (C : Addr) : Sp := fun vs H Q _ => ∃ (p dx a c : Addr) (r : RD), vs = [.ref p, .ref a, .ref c] ∧ H p = some (.ins C dx []) ∧ SqX K H a (r.ws.map V.str) ∧ SqX K H c (r.us.map V.str) ∧ r.Ok ∧ (∀ z ∈ r.ws, progT z = true) ∧ (∀ z ∈ r.us, progD z = true) ∧
  ∀ H', Kept p H H' → RowAt C H' p r → Q .non H'
theorem good_ans {f : Str → Bool} {more : List V → Bool} {K : PySem.W.Frag} {H : Hp} {t : Addr} {ws : List Str} (h : SqX K H t (ws.map V.str)) (l : ws.length ≤ 100000) (m : more (ws.map V.str) = true) (g : ∀ z ∈ ws, f z = true ∧ z.length ≤ 100000) : AnsV f more K H (.ref t) true := by
  refine .inr ⟨t, _, ws.map f, rfl, h, by rw [List.length_map]; exact l, ⟨by rw [List.length_map, List.length_map], fun i x b hx hb => ?_⟩, ?_⟩
  · obtain ⟨z, hz, rfl⟩ := str_at hx
    rw [List.getElem?_map, hz] at hb
    cases hb
    exact .inl ⟨z, rfl, (g z (List.mem_of_getElem? hz)).2, rfl⟩
  · rw [m, Bool.true_and]
    symm
    rw [List.all_eq_true]
    intro b hb
    obtain ⟨z, hz, rfl⟩ := List.mem_map.mp hb
    exact (g z hz).1
/-- a tool that is let -/
def spToolG (K : PySem.W.Frag) (C CT : Addr) : Sp := fun vs H Q _ => ∃ (p dx a : Addr) (xs : List V) (s : Bool), vs = [.ref p, .ref a, .bl s] ∧ H p = some (.ins CT dx []) ∧ SqG K H a xs ∧ xs.length ≤ 100000 ∧ (∀ v ∈ xs, IsP K C H v true) ∧
  ∀ H' t, TupG K H' t xs → Kept p H H' → H' p = some (.ins CT dx (toolF t (.bl s))) → Q .non H'
section
variable {P : Program} {w : World} {K : PySem.W.Frag} {mg : Str → Option Value} {base : Heap}
theorem ok_rowG {f fT fD C : Addr} {fd fdT fdD : FuncData} {dvs : List V} (F : FunD K "__init__" "Row.__init__" (defArgs sRowI) (defBody sRowI) (defScope sRowI) dvs [] f fd) (T : TxtK mg) (Z : RowC K C)
    (GT : FnOk P w K mg base CX0 2 fT fdT ["value"] (spAre progT yes K)) (gT : mg "are_tests" = some (.ref fT)) (kT : PySem.W.keepIn K (.ref fT) = true) (bT : Binds K fdT ["value"] [])
    (GD : FnOk P w K mg base CX0 2 fD fdD ["value"] (spAre progD full K)) (gD : mg "are_deeds" = some (.ref fD)) (kD : PySem.W.keepIn K (.ref fD) = true) (bD : Binds K fdD ["value"] []) : FnOk P w K mg base CX0 3 f fd ["self", "tests", "deeds"] (spRowG K C) := by
  refine F.ok scRowI (fun vs H Q E h => ?_) (fun cdv A outer s H vs Q E hr h => ?_)
  · obtain ⟨p, dx, a, c, r, rfl, _⟩ := h
    rfl
  · obtain ⟨p, dx, a, c, r, rfl, hp, hx, hy, o, gt, gd, k⟩ := h
    refine ⟨_, (pss_cons (ps_if (pt_not (pt_val (pe_call GT hr (by rfl) gT kT bT .nil pass0 (pa_cons (pv 1) pa_nil)))) pss_never pss_nil)
    (pss_cons (ps_if (pt_not (pt_val (pe_call GD hr (by rfl) gD kD bD .nil pass0 (pa_cons (pv 2) pa_nil)))) pss_never pss_nil)
    (pss_cons (ps_fld (pv 0) (pe_callTy call_tupleX (by rfl) T.tuple (by decide +kernel) (pa_cons (pv 1) pa_nil)) rfl)
    (pss_one (ps_fld (pv 0) (pe_callTy call_tupleX (by rfl) T.tuple (by decide +kernel) (pa_cons (pv 2) pa_nil)) rfl))))), ?_⟩
    have lw := o.lw
    have lu := o.lu
    have at_ := good_ans (K := K) (more := yes) hx (by omega) rfl fun z h => ⟨gt z h, by have := o.w z h; omega⟩
    have ad_ := good_ans (K := K) (more := full) hy (by omega) (decide_eq_true (by rw [List.length_map]; exact o.nu)) fun z h => ⟨gd z h, by have := o.u z h; omega⟩
    refine ⟨_, rfl, _, true, rfl, at_, fun H1 s1 => ⟨_, rfl, iteN rfl ⟨_, rfl, _, true, rfl, ad_.same s1, fun H2 s2 => ⟨_, rfl, iteN rfl ?_⟩⟩⟩⟩
    have s12 := s1.trans s2
    have nap : a ≠ p := by
      rcases hx with h | h
      · exact ne_of h hp (fun z => nomatch z)
      · exact ne_of h hp (fun z => nomatch z)
    have ncp : c ≠ p := by
      rcases hy with h | h
      · exact ne_of h hp (fun z => nomatch z)
      · exact ne_of h hp (fun z => nomatch z)
    refine ⟨_, rfl, a, _, rfl, hx.same s12, fun t H3 s3 h3 => ⟨_, rfl, p, C, dx, _, rfl, s3 _ _ (s12 _ _ hp), Z.cl, Z.tests, (by show 0 < 1000; decide), ?_⟩⟩
    have k4 : Kept p H (upd H3 p (.ins C dx (putF "tests" (.ref t) []))) := (Kept.of_same (s12.trans s3)).trans Kept.box
    have hy4 : SqX K (upd H3 p (.ins C dx (putF "tests" (.ref t) []))) c (r.us.map V.str) := hy.imp (k4 _ _ ncp) (k4 _ _ ncp)
    have ntp : t ≠ p := ne_of h3 (s3 _ _ (s12 _ _ hp)) (fun z => nomatch z)
    refine ⟨_, rfl, c, _, rfl, hy4, fun d H5 s5 h5 => ⟨_, rfl, p, C, dx, _, rfl, s5 _ _ upd_same, Z.cl, Z.deeds, ?_, ?_⟩⟩
    · exact Nat.lt_of_le_of_lt (length_putF _ _ []) (by show 0 + 1 < 1000; decide)
    · have ndp : d ≠ p := ne_of h5 (s5 _ _ upd_same) (fun z => nomatch z)
      refine k _ ((k4.trans (Kept.of_same s5)).trans Kept.box) ⟨dx, t, d, upd_same, ?_, ?_⟩
      · rw [upd_ne ntp]
        exact s5 _ _ (by rw [upd_ne ntp]; exact h3)
      · rw [upd_ne ndp]
        exact h5
theorem ok_toolG {f fR C CT : Addr} {fd fdR : FuncData} {dvs : List V} (F : FunD K "__init__" "Tool.__init__" (defArgs sToolI) (defBody sToolI) (defScope sToolI) dvs [] f fd) (T : TxtK mg) (hbool : mg "bool" = none) (Z : ToolC K CT)
    (GR : FnOk P w K mg base CX0 2 fR fdR ["value"] (spAreR K C)) (gR : mg "are_rows" = some (.ref fR)) (kR : PySem.W.keepIn K (.ref fR) = true) (bR : Binds K fdR ["value"] []) : FnOk P w K mg base CX0 3 f fd ["self", "rows", "sorts"] (spToolG K C CT) := by
  refine F.ok scToolI (fun vs H Q E h => ?_) (fun cdv A outer s H vs Q E hr h => ?_)
  · obtain ⟨p, dx, a, xs, b, rfl, _⟩ := h
    rfl
  · obtain ⟨p, dx, a, xs, b, rfl, hp, hs, hl, hi, k⟩ := h
    refine ⟨_, (pss_cons (ps_if (pt_not (pt_val (pe_call GR hr (by rfl) gR kR bR .nil pass0 (pa_cons (pv 1) pa_nil)))) pss_never pss_nil)
    (pss_cons (ps_if (pt_not (pt_val (pe_callB call_isi (by rfl) T.isinstance (by decide +kernel) (pa_cons (pv 2) (pa_cons (pe_bltn (v := .ty "bool") (by rfl) hbool (by decide +kernel) rfl) pa_nil))))) pss_never pss_nil)
    (pss_cons (ps_fld (pv 0) (pe_callTy call_tupleG (by rfl) T.tuple (by decide +kernel) (pa_cons (pv 1) pa_nil)) rfl)
    (pss_one (ps_fld (pv 0) (pv 2) rfl))))), ?_⟩
    have an : AnsR K C H (.ref a) true := by
      refine .inr ⟨a, xs, List.replicate xs.length true, rfl, hs, hl, ⟨List.length_replicate, fun n x b hx hb => ?_⟩, ?_⟩
      · rw [(List.mem_replicate.mp (List.mem_of_getElem? hb)).2]
        exact hi x (List.mem_of_getElem? hx)
      · symm
        rw [List.all_eq_true]
        intro b hb
        rw [(List.mem_replicate.mp hb).2]
        rfl
    refine ⟨_, rfl, _, true, rfl, an, fun H1 s1 => ⟨_, rfl, iteN rfl ⟨_, rfl, _, _, _, _, true, rfl, .ty _, .base (.bl b), kit_ty (by decide +kernel), _, rfl, iteN rfl ?_⟩⟩⟩
    refine ⟨_, rfl, a, xs, rfl, hs.same s1, fun l H2 s2 hl2 => ⟨_, rfl, p, CT, dx, _, rfl, s2 _ _ (s1 _ _ hp), Z.cl, Z.rows, (by show 0 < 1000; decide), ?_⟩⟩
    refine ⟨_, rfl, _, rfl, p, CT, dx, _, rfl, upd_same, Z.cl, Z.sorts, ?_, ?_⟩
    · exact Nat.lt_of_le_of_lt (length_putF _ _ []) (by show 0 + 1 < 1000; decide)
    · exact k _ l ((hl2.put_ins (s2 _ _ (s1 _ _ hp))).put_ins upd_same) (((Kept.of_same (s1.trans s2)).trans Kept.box).trans Kept.box) upd_same
end
end Lay
set_option Elab.async false
set_option linter.all false
set_option maxRecDepth 100000
set_option maxHeartbeats 400000
set_option pp.maxSteps 900
/-! {**d, k: v, ..} -/
namespace KwX
open PySem PySem.Spec PyProof.Rows L2 StX
section
variable {prog : Program} {w : World} {A : Around} {E : Value → Shared → Prop} {s : Shared} {env : Env}
theorem forIn_gatherS (d : Addr) (f : (Option (Sem Value) × Sem Value) → (Option Addr × List (Sem Value × Sem Value)) → Sem (ForInStep (Option Addr × List (Sem Value × Sem Value))))
    (hf : ∀ (p : Sem Value × Sem Value) (run : List (Sem Value × Sem Value)), run.length + 1 < 17 → f (some p.1, p.2) (some d, run) = pure (.yield (some d, run ++ [p]))) :
    ∀ (items run : List (Sem Value × Sem Value)), run.length + items.length < 17 → forIn (items.map fun p => (some p.1, p.2)) ((some d : Option Addr), run) f = pure (some d, run ++ items)
  | [], run, _ => by simp
  | p :: rest, run, h => by
    rw [List.map_cons, List.forIn_cons, hf p run (by simp at h; omega), pure_bind]
    have := forIn_gatherS d f hf rest (run ++ [p]) (by simp at h ⊢; omega)
    simpa using this
theorem wpAny_display_star {v : Sem Value} {pairs : List (Sem Value × Sem Value)} {Q : Value → Shared → Prop} (h0 : pairs ≠ []) (hlen : pairs.length < 17)
    (h : wpAny (model prog w) A v (fun m s1 => wpAny (model prog w) A (mergeMapping s.heap.objs.size m false) (fun _ s2 => wpAny (model prog w) A (subDict pairs) (fun sub s3 => wpAny (model prog w) A (mergeMapping s.heap.objs.size (.ref sub) false) (fun _ s4 => Q (.ref s.heap.objs.size) s4) (fun _ _ => False) s3) E s2) (fun _ _ => False) s1) E
      { s with heap := s.heap.push { cls := .type "dict", data := .dict #[] } }) :
    wpAny (model prog w) A (dictDisplay ((none, v) :: pairs.map fun p => (some p.1, p.2))) Q E s := by
  unfold dictDisplay
  dsimp only
  rw [List.forIn_cons]
  refine wpAny_bind ?_
  refine wpAny_bind ?_
  simp only [List.isEmpty_nil, if_true]
  refine wpAny_bind (wpAny_pure ?_)
  refine wpAny_bind (wpAny_alloc ?_)
  refine wpAny_bind (wpAny_holding (wpAny_mono h (fun m s1 h1 => ?_) fun _ _ z => z))
  refine wpAny_bind (wpAny_onRaise (wpAny_tryCatch (wpAny_onRaise (wpAny_holding (wpAny_mono h1 (fun _ s2 h2 => ?_) fun _ _ z => z.elim)))))
  refine wpAny_pure ?_
  dsimp only
  rw [forIn_gatherS _ _ (fun p run h => by
    have hne : ((run ++ [(p.1, p.2)]).length == 17) = false := by simp; omega
    simp only [hne, Bool.false_eq_true, if_false]) pairs [] (by simpa using hlen)]
  refine wpAny_pure ?_
  dsimp only
  rw [List.nil_append]
  have he : pairs.isEmpty = false := by cases pairs with | nil => exact absurd rfl h0 | cons _ _ => rfl
  rw [he, if_neg Bool.false_ne_true]
  refine wpAny_bind (wpAny_bind (wpAny_holding (wpAny_mono h2 (fun sub s3 h3 => ?_) fun _ _ z => z)))
  refine wpAny_bind (wpAny_onRaise (wpAny_holding (wpAny_mono h3 (fun _ s4 h4 => ?_) fun _ _ z => z.elim)))
  exact wpAny_pure (wpAny_pure h4)
theorem wpAny_Dict_star {keys : List (Option Expr)} {e : Expr} {values : List Expr} {pos : Pos} {Q : Value → Shared → Prop} (hall : keys.all (·.isSome) = true) (hl : keys.length = values.length) (h0 : keys ≠ []) (h15 : keys.length ≤ 15)
    (h : wpAny (model prog w) A (eval e env) (fun m s1 => wpAny (model prog w) A (mergeMapping s.heap.objs.size m false) (fun _ s2 => wpAny (model prog w) A (subDict (pairTrees keys values env pos)) (fun sub s3 => wpAny (model prog w) A (mergeMapping s.heap.objs.size (.ref sub) false) (fun _ s4 => Q (.ref s.heap.objs.size) s4) (fun _ _ => False) s3) E s2) (fun _ _ => False) s1) E
      { s with heap := s.heap.push { cls := .type "dict", data := .dict #[] } }) :
    wpAny (model prog w) A (eval (.Dict (none :: keys) (e :: values) pos) env) Q E s := by
  have hn := pairTrees_length keys values env pos hall hl
  rw [arm_eval_Dict]
  have hz : (evalEachOpt (none :: keys) env).zip ((evalEach (e :: values) env).map fun v => do let x ← v; standAt pos; pure x) = (none, (do let x ← eval e env; standAt pos; pure x)) :: (pairTrees keys values env pos).map fun p => (some p.1, p.2) := by
    rw [← zip_pairTrees keys values env pos hall hl]
    rfl
  rw [hz]
  refine wpAny_bind (wpAny_standAt (wpAny_display_star ?_ (by rw [hn]; omega) ?_))
  · intro he
    rw [he] at hn
    exact h0 (List.length_eq_zero_iff.mp hn.symm)
  · exact wpAny_bind (wpAny_mono h (fun m s1 h1 => wpAny_bind (wpAny_standAt (wpAny_pure h1))) fun _ _ z => z)
end
/-- {**e, k: v, ..}: a new dict p of e's pairs, and a second one q of the rest, merged into it -/
def tStar (te : TE) (trs : List (TE × TE)) : TE := fun σ H Q => ∀ p, H p = none → te σ (upd H p (.dK [])) fun x H1 => ∃ o kvs, x = .ref o ∧ H1 p = some (.dK []) ∧ H1 o = some (.dK kvs) ∧ o ≠ p ∧ kvs.length ≤ 1000 ∧
  ∀ q, (upd H1 p (.dK (mergeK [] kvs))) q = none → tPairs trs σ (upd (upd H1 p (.dK (mergeK [] kvs))) q (.dK [])) fun ps H2 => H2 q = some (.dK []) ∧ H2 p = some (.dK (mergeK [] kvs)) ∧ ∃ more : List (Key × V), ps = more.map (fun kv => (kV kv.1, kv.2)) ∧ more.length ≤ 15 ∧
    Q (.ref p) (upd (upd H2 q (.dK (mergeK [] more))) p (.dK (mergeK (mergeK [] kvs) (mergeK [] more))))
theorem pe_star {X : Cx} {pos : Pos} {e : Expr} {te : TE} {keys : List (Option Expr)} {values : List Expr} {trs : List (TE × TE)} (he : PE X e te) (h : PPs X pos keys values trs) (hall : keys.all (·.isSome) = true) (hl : keys.length = values.length) (h0 : keys ≠ [])
    (h15 : keys.length ≤ 15) : PE X (.Dict (none :: keys) (e :: values) pos) (tStar te trs) := by
  refine ⟨fun pins s σ H Q I q => ?_⟩
  have hn := I.hok.fresh (Nat.le_refl s.heap.objs.size)
  have I1 := I.laid (a := s.heap.objs.size) (o := .dK []) (h' := s.heap.push { cls := .type "dict", data := .dict #[] }) (t' := s.toks) (fun _ _ q => Heap.get?_push_of_some _ q) (Nat.le_refl _) (dk_empty s.heap I.big)
  refine wpAny_Dict_star hall hl h0 h15 (thn (he.run pins _ σ _ _ I1 (q _ hn)) fun v s2 ⟨x, H1, I2, rx, o, kvs, ex, hp, ho, hne, lk, q1⟩ => ?_)
  subst ex
  obtain rfl : v = Value.ref o := rx
  obtain ⟨z, hdS, vs, rel, dd⟩ := dk_of I2.hok hp
  obtain ⟨z2, hoS, vs2, rel2, dd2⟩ := dk_of I2.hok ho
  cases rel
  refine wpAny_mergeMapping (Ne.symm hne) hoS dd dd2 (fun z => nomatch z) (fun h' d1 d2 hs => ?_) (by rw [← rel2.length]; show 0 + _ ≤ _; omega)
  have he' : ∃ q, h'.get? s.heap.objs.size = some q := let ⟨q, _, _, hq, _⟩ := d1; ⟨q, hq⟩
  have hz : (mergeK [] kvs).length ≤ sizeLine := by
    have h1 := length_mergeK kvs []
    rw [List.length_nil] at h1
    rw [sizeLine_eq]
    omega
  have I3 := d_write (t' := s2.toks) (ob := .dK (mergeK [] kvs)) I2 (by rw [hp]; exact True.intro) hs he' (dk_new hz hdS (rel2.merge .nil) d1)
  have hn3 := I3.hok.fresh (Nat.le_refl _)
  have I4 := I3.laid (a := h'.objs.size) (o := .dK []) (h' := h'.push { cls := .type "dict", data := .dict #[] }) (t' := s2.toks) (fun _ _ q => Heap.get?_push_of_some _ q) (Nat.le_refl _) (dk_empty h' I3.big)
  refine wpAny_subDict (knd := mixKind X.prog X.w) (by rw [pairTrees_length keys values X.env pos hall hl]; exact h15) (thn (h.run pins _ σ _ _ I4 (q1 _ hn3)) fun ws s5 ⟨ps, H2, I5, rel5, hq, hp2, more, ep, lm, q2⟩ => ?_)
  subst ep
  obtain ⟨rs, c, rk⟩ := carries_of (P := X.prog) (w := X.w) rel5
  obtain ⟨z5, hqS, vs5, r5, dd5⟩ := dk_of I5.hok hq
  cases r5
  refine ⟨rs, c, dd5, fun h6 dd6 hs6 => ?_⟩
  have he6 : ∃ q, h6.get? h'.objs.size = some q := let ⟨q, _, _, hq, _⟩ := dd6; ⟨q, hq⟩
  have hz6 : (mergeK [] more).length ≤ sizeLine := by
    have h1 := length_mergeK more []
    rw [List.length_nil] at h1
    rw [sizeLine_eq]
    omega
  have I6 := d_write (t' := s5.toks + ws.length) (ob := .dK (mergeK [] more)) I5 (by rw [hq]; exact True.intro) hs6 he6 (dk_new hz6 hqS (rk.merge .nil) dd6)
  have nqp : h'.objs.size ≠ s.heap.objs.size := Ne.symm (ne_of_none (upd_same (H := H1) (a := s.heap.objs.size) (o := .dK (mergeK [] kvs))) hn3)
  obtain ⟨za, haS, va, ra, da⟩ := dk_of I6.hok (upd_same (H := H2) (a := h'.objs.size) (o := .dK (mergeK [] more)))
  have hp6 : upd H2 h'.objs.size (.dK (mergeK [] more)) s.heap.objs.size = some (.dK (mergeK [] kvs)) := by
    rw [upd_ne (Ne.symm nqp)]
    exact hp2
  obtain ⟨zb, hbS, vb, rb, db⟩ := dk_of I6.hok hp6
  have l1 := length_mergeK kvs []
  have l2 := length_mergeK more []
  have l3 := length_mergeK (mergeK [] more) (mergeK [] kvs)
  rw [List.length_nil] at l1 l2
  refine wpAny_mergeMapping (Ne.symm nqp) haS db da (fun z => nomatch z) (fun h8 d8 d9 hs8 => ?_) (by rw [← ra.length, ← rb.length, sizeLine_eq]; omega)
  have he8 : ∃ q, h8.get? s.heap.objs.size = some q := let ⟨q, _, _, hq, _⟩ := d8; ⟨q, hq⟩
  exact ⟨.ref s.heap.objs.size, _, d_write I6 (by rw [hp6]; exact True.intro) hs8 he8 (dk_new (by rw [sizeLine_eq]; omega) hbS (ra.merge rb) d8), rfl, q2⟩
end KwX
set_option Elab.async false
set_option linter.all false
set_option maxRecDepth 100000
set_option maxHeartbeats 400000
set_option pp.maxSteps 900
namespace Lay
open PySem PySem.Spec PyProof.Rows L2
/-! ### lanes of one: numbers 0 and 1 by names -/
def b2i (b : Bool) : Int := if b = true then 1 else 0
theorem and_b2i (a b : Bool) : Builtin.bitAnd (b2i a) (b2i b) = b2i (a && b) := by cases a <;> cases b <;> rfl
theorem andn_b2i (a b : Bool) : Builtin.bitAnd (b2i a) (Builtin.bitNot (b2i b)) = b2i (a && !b) := by cases a <;> cases b <;> rfl
theorem or_b2i (a b : Bool) : Builtin.bitOr (b2i a) (b2i b) = b2i (a || b) := by cases a <;> cases b <;> rfl
def lnK : List Str := ["broken", "marked", "left", "ahead", "behind", "blank", "two", "over", "overmarked", "overbehind", "overboth", "every", "first", "afterbroken", "afterbehind"]
def nm (i : Nat) : Str := lnK.getD i ""
theorem nm_inj : ∀ i < 15, ∀ j < 15, nm i = nm j → i = j := by decide +kernel
abbrev LS := Nat → Bool
def kvN (g : Bool → V) (n : Nat) (L : LS) : List (Key × V) := (List.range n).map fun i => (Sum.inr (nm i), g (L i))
def setL (L : LS) (i : Nat) (v : Bool) : LS := fun j => if j = i then v else L j
theorem kv_len {g : Bool → V} {n : Nat} {L : LS} : (kvN g n L).length = n := by
  unfold kvN
  rw [List.length_map, List.length_range]
theorem val_is {g : Bool → V} {L : LS} {i : Nat} : ∀ is : List Nat, (∀ j ∈ is, nm j = nm i → j = i) → i ∈ is → valV (is.map fun j => ((Sum.inr (nm j) : Key), g (L j))) (.inr (nm i)) = some (g (L i))
  | [], _, h => (List.not_mem_nil h).elim
  | j :: is, u, h => by
    rw [List.map_cons]
    by_cases e : nm j = nm i
    · have e2 := u j List.mem_cons_self e
      subst e2
      exact valV_pos rfl
    · rw [valV_neg (fun z => e (Sum.inr.inj z))]
      refine val_is is (fun k hk => u k (List.mem_cons_of_mem _ hk)) ?_
      rcases List.mem_cons.mp h with rfl | h
      · exact absurd rfl e
      · exact h
theorem val_kv {g : Bool → V} {n : Nat} {L : LS} {i : Nat} (hi : i < n) (hn : n ≤ 15) : valV (kvN g n L) (.inr (nm i)) = some (g (L i)) :=
  val_is _ (fun j hj e => nm_inj j (by have := List.mem_range.mp hj; omega) i (by omega) e) (List.mem_range.mpr hi)
theorem put_kv {g : Bool → V} {n : Nat} {L : LS} {i : Nat} {v : Bool} (hi : i < n) (hn : n ≤ 15) : putK (kvN g n L) (.inr (nm i)) (g v) = kvN g n (setL L i v) := by
  have a : (kvN g n L).any (fun kv => decide (kv.1 = (Sum.inr (nm i) : Key))) = true := by
    rw [valV_any, val_kv hi hn]
    rfl
  unfold putK
  rw [if_pos a]
  unfold kvN
  rw [List.map_map]
  refine List.map_congr_left fun j hj => ?_
  have hj := List.mem_range.mp hj
  show (if (Sum.inr (nm j) : Key) = Sum.inr (nm i) then ((Sum.inr (nm j) : Key), g v) else (Sum.inr (nm j), g (L j))) = (Sum.inr (nm j), g (setL L i v j))
  unfold setL
  by_cases e : j = i
  · subst e
    rw [if_pos rfl, if_pos rfl]
  · rw [if_neg e, if_neg fun z => e (nm_inj j (by omega) i (by omega) (Sum.inr.inj z))]
theorem put_new {g : Bool → V} {i : Nat} {L : LS} (hi : i < 15) : putK (kvN g i L) (.inr (nm i)) (g (L i)) = kvN g (i + 1) L := by
  have a : (kvN g i L).any (fun kv => decide (kv.1 = (Sum.inr (nm i) : Key))) = false := by
    rw [List.any_eq_false]
    intro kv hkv
    unfold kvN at hkv
    obtain ⟨j, hj, rfl⟩ := List.mem_map.mp hkv
    have hj := List.mem_range.mp hj
    rw [decide_eq_true_eq]
    intro z
    have := nm_inj j (by omega) i (by omega) (Sum.inr.inj z)
    omega
  unfold putK
  rw [a, if_neg Bool.false_ne_true]
  unfold kvN
  rw [List.range_succ, List.map_append]
  rfl
theorem merge_kv {g : Bool → V} {L : LS} : ∀ n, n ≤ 15 → mergeK [] (kvN g n L) = kvN g n L
  | 0, _ => rfl
  | n + 1, h => by
    have e : kvN g (n + 1) L = kvN g n L ++ [(Sum.inr (nm n), g (L n))] := by
      unfold kvN
      rw [List.range_succ, List.map_append]
      rfl
    rw [e]
    unfold mergeK
    rw [List.foldl_append]
    have ih := merge_kv (g := g) (L := L) n (by omega)
    unfold mergeK at ih
    rw [ih]
    show putK (kvN g n L) (.inr (nm n)) (g (L n)) = _
    rw [put_new (by omega), e]
/-- at l lanes of n names -/
def LnAt (n : Nat) (H : Hp) (l : Addr) (L : LS) : Prop := H l = some (.dK (kvN (fun b => .int (b2i b)) n L))
def FcAt (H : Hp) (l : Addr) (L : LS) : Prop := H l = some (.dK (kvN V.bl 11 L))
theorem LnAt.same {n : Nat} {H H' : Hp} {l : Addr} {L : LS} (s : Same H H') (h : LnAt n H l L) : LnAt n H' l L := s _ _ h
theorem LnAt.get {n : Nat} {H : Hp} {l : Addr} {L : LS} (h : LnAt n H l L) (i : Nat) (hi : i < n) (hn : n ≤ 15) : DGet H l (.str (nm i)) (some (.int (b2i (L i)))) := by
  have q := DGet.k (k := .inr (nm i)) h
  rw [val_kv hi hn] at q
  exact q
theorem LnAt.put {n : Nat} {H : Hp} {l : Addr} {L : LS} {v : Bool} (h : LnAt n H l L) (i : Nat) (hi : i < n) (hn : n ≤ 15) : DPut H l (.str (nm i)) (.int (b2i v)) (upd H l (.dK (kvN (fun b => .int (b2i b)) n (setL L i v)))) := by
  have q := DPut.k (k := .inr (nm i)) (v := .int (b2i v)) h (by rw [kv_len, sizeLine_eq]; omega)
  rw [put_kv (g := fun b => .int (b2i b)) hi hn] at q
  exact q
theorem LnAt.set {n : Nat} {H : Hp} {l : Addr} {L : LS} : LnAt n (upd H l (.dK (kvN (fun b => .int (b2i b)) n L))) l L := upd_same
theorem FcAt.get {H : Hp} {l : Addr} {L : LS} (h : FcAt H l L) (i : Nat) (hi : i < 11) : DGet H l (.str (nm i)) (some (.bl (L i))) := by
  have q := DGet.k (k := .inr (nm i)) h
  rw [val_kv hi (by omega)] at q
  exact q
/-! ### what tests and deeds come to -/
def longL (L : LS) : Bool := L 7 || (L 1 && L 8) || (L 4 && L 9) || ((L 1 && L 4) && L 10)
/-- the place of a test's word among the names -/
def wordN (z : Str) : Nat := lnK.idxOf z
def holdL (L : LS) (t : Str) : Bool :=
  let z := Txt.removeprefix t "not "
  let f := if z = "long" then longL L else L (wordN z)
  if z = t then f else L 11 && !f
def whereL (L : LS) : List Str → Bool → Bool
  | [], w => w
  | t :: ts, w => whereL L ts (w && holdL L t)
def doL (i : Nat) (w : Bool) (L : LS) : LS := match i with
  | 0 => setL L 0 (L 0 || w)
  | 1 => setL L 0 (L 0 && !w)
  | 2 => setL L 1 (L 1 || w)
  | 3 => setL L 1 (L 1 && !w)
  | 4 => setL (setL L 3 (L 3 || ((w && L 4) && !L 3))) 4 (L 4 && !((w && L 4) && !L 3))
  | 5 => setL (setL L 4 (L 4 || ((w && L 3) && !L 4))) 3 (L 3 && !((w && L 3) && !L 4))
  | 6 => setL (setL L 5 (L 5 || w)) 6 (L 6 && !w)
  | _ => setL (setL L 5 (L 5 && !w)) 6 (L 6 && !w)
def deedN (z : Str) : Nat := deedL.idxOf z
def deedsL (w : Bool) : List Str → LS → LS
  | [], L => L
  | d :: ds, L => deedsL w ds (doL (deedN d) w L)
def rowL (r : RD) (L : LS) : LS := deedsL (whereL L r.ws (L 11)) r.us L
def rowsL : List RD → LS → LS
  | [], L => L
  | r :: rs, L => rowsL rs (rowL r L)
end Lay
set_option Elab.async false
set_option linter.all false
set_option maxRecDepth 100000
set_option maxHeartbeats 400000
set_option pp.maxSteps 900
namespace Lay
open PySem PySem.Spec PyProof.Rows L2 KwX StX
section
variable {X : Cx}
theorem ip_or : PIp X .BitOr (ipI fun i j => Builtin.bitOr i j) := fun pins s σ H x y v u Q I rx ry h => iop_or pins s σ H x y v u Q I rx ry (by
  obtain ⟨i, j, e1, e2, q⟩ := h
  exact ⟨i, j, e1, e2, q⟩)
def rAndB : R2 := fun x y H Q => ∃ a b, x = .int (b2i a) ∧ y = .int (b2i b) ∧ Q (.int (b2i (a && b))) H
def rAndN : R2 := fun x y H Q => ∃ a b, x = .int (b2i a) ∧ y = .int (Builtin.bitNot (b2i b)) ∧ Q (.int (b2i (a && !b))) H
def rOrB : R2 := fun x y H Q => ∃ a b, x = .int (b2i a) ∧ y = .int (b2i b) ∧ Q (.int (b2i (a || b))) H
theorem op_andB : OpR X (binaryOp .BitAnd) rAndB := fun pins s σ H x y v u Q I rx ry ⟨a, b, e1, e2, q⟩ => op_and pins s σ H x y v u Q I rx ry ⟨_, _, e1, e2, by show Q (.int (Builtin.bitAnd _ _)) H; rw [and_b2i]; exact q⟩
theorem op_andN : OpR X (binaryOp .BitAnd) rAndN := fun pins s σ H x y v u Q I rx ry ⟨a, b, e1, e2, q⟩ => op_and pins s σ H x y v u Q I rx ry ⟨_, _, e1, e2, by show Q (.int (Builtin.bitAnd _ _)) H; rw [andn_b2i]; exact q⟩
theorem op_orB : OpR X (binaryOp .BitOr) rOrB := fun pins s σ H x y v u Q I rx ry ⟨a, b, e1, e2, q⟩ => op_or pins s σ H x y v u Q I rx ry ⟨_, _, e1, e2, by show Q (.int (Builtin.bitOr _ _)) H; rw [or_b2i]; exact q⟩
theorem in_orB : InOp X .BitOr rOrB := fun pins s σ H x y u v Q I rx ry ⟨a, b, e1, e2, q⟩ => iop_or pins s σ H x y u v Q I rx ry ⟨_, _, e1, e2, by show Q (.int (Builtin.bitOr _ _)) H; rw [or_b2i]; exact q⟩
theorem in_andN : InOp X .BitAnd rAndN := fun pins s σ H x y u v Q I rx ry ⟨a, b, e1, e2, q⟩ => iop_and pins s σ H x y u v Q I rx ry ⟨_, _, e1, e2, by show Q (.int (Builtin.bitAnd _ _)) H; rw [andn_b2i]; exact q⟩
end
def fcL (b m l a h : Bool) (n : Int) (o1 o2 o3 o4 : Bool) : LS := fun i => match i with
  | 0 => b | 1 => m | 2 => l | 3 => a | 4 => h | 5 => decide (n > 0) | 6 => decide (n > 1) | 7 => o1 | 8 => o2 | 9 => o3 | 10 => o4 | _ => false
abbrev sFacts : Stmt := top 40
abbrev sBits : Stmt := top 42
abbrev sLanes : Stmt := top 43
def spFacts (K : PySem.W.Frag) : Sp := fun vs H Q _ => ∃ (t : Addr) (b m a h l o1 o2 o3 o4 : Bool) (n : Int), vs = [.ref t, .bl o1, .bl o2, .bl o3, .bl o4] ∧ SqT K H t [.bl b, .bl m, .bl a, .bl h, .int n, .bl l] ∧ ∀ p H', Same H H' → FcAt H' p (fcL b m l a h n o1 o2 o3 o4) → Q (.ref p) H'
def spBits (K : PySem.W.Frag) : Sp := fun vs H Q _ => ∃ (a : Addr) (b : Bool), vs = [.ref a] ∧ SqL K H a [.bl b] ∧ ∀ H', Same H H' → Q (.int (b2i b)) H'
def spLanes (K : PySem.W.Frag) : Sp := fun vs H Q _ => ∃ (m f : Addr) (L : LS), vs = [.ref m] ∧ H m = some (.lst [.ref f]) ∧ FcAt H f L ∧ ∀ p H', Same H H' → LnAt 12 H' p (setL L 11 true) → Q (.ref p) H'
section
variable {P : Program} {w : World} {K : PySem.W.Frag} {mg : Str → Option Value} {base : Heap}
def factsN : List Str := ["shape", "over", "overmarked", "overbehind", "overboth", "broken", "marked", "ahead", "behind", "blanks", "left"]
abbrev factsP : List Str := ["shape", "over", "overmarked", "overbehind", "overboth"]
theorem scFacts : FnScope factsN factsP (defScope sFacts) := ⟨rfl, rfl, rfl, by decide +kernel, rfl, by decide +kernel, by decide +kernel⟩
theorem ok_facts {f : Addr} {fd : FuncData} (F : Fun K "facts_of" "facts_of" sFacts f fd) : FnOk P w K mg base CX0 1 f fd factsP (spFacts K) := by
  refine F.ok scFacts (fun vs H Q E h => ?_) (fun cdv A outer s H vs Q E hr h => ?_)
  · obtain ⟨t, b, m, a, h, l, o1, o2, o3, o4, n, rfl, _⟩ := h
    rfl
  · obtain ⟨t, b, m, a, h, l, o1, o2, o3, o4, n, rfl, ht, k⟩ := h
    refine ⟨_, (pss_cons (ps_asg (pv 0) (pg_tup rfl (pgs_cons (pg_name (i := 5) scFacts.nd rfl (.inl rfl)) (pgs_cons (pg_name (i := 6) scFacts.nd rfl (.inl rfl)) (pgs_cons (pg_name (i := 7) scFacts.nd rfl (.inl rfl)) (pgs_cons (pg_name (i := 8) scFacts.nd rfl (.inl rfl)) (pgs_cons (pg_name (i := 9) scFacts.nd rfl (.inl rfl)) (pgs_cons (pg_name (i := 10) scFacts.nd rfl (.inl rfl)) pgs_nil))))))))
    (pss_one (ps_ret (pe_disp (pps_cons pe_str (pv 5) (pps_cons pe_str (pv 6) (pps_cons pe_str (pv 10) (pps_cons pe_str (pv 7) (pps_cons pe_str (pv 8) (pps_cons pe_str (pe_cmpR op_gt (pv 9) pe_int (nomark _)) (pps_cons pe_str (pe_cmpR op_gt (pv 9) pe_int (nomark _)) (pps_cons pe_str (pv 1) (pps_cons pe_str (pv 2) (pps_cons pe_str (pv 3) (pps_cons pe_str (pv 4) pps_nil))))))))))) rfl rfl (by decide) (by decide))))), ?_⟩
    refine ⟨_, rfl, t, _, rfl, ht, rfl, _, _, rfl, _, _, rfl, _, _, rfl, _, _, rfl, _, _, rfl, _, _, rfl, rfl, fun p np => ?_⟩
    refine ⟨_, rfl, _, rfl, _, rfl, _, rfl, _, rfl, _, rfl, _, _, rfl, rfl, _, rfl, _, _, rfl, rfl, _, rfl, _, rfl, _, rfl, _, rfl, upd_same, kvN V.bl 11 (fcL b m l a h n o1 o2 o3 o4), rfl, by rw [kv_len]; decide, ?_⟩
    rw [merge_kv 11 (by decide), upd_upd]
    exact k p _ (Same.new np) upd_same
theorem scBits : FnScope ["answers", "number", "at", "answer"] ["answers"] (defScope sBits) := ⟨rfl, rfl, rfl, by decide +kernel, rfl, by decide +kernel, by decide +kernel⟩
theorem ok_bits {f : Addr} {fd : FuncData} (F : Fun K "bits_of" "bits_of" sBits f fd) (B : Bt mg) : FnOk P w K mg base CX0 1 f fd ["answers"] (spBits K) := by
  refine F.ok scBits (fun vs H Q E h => ?_) (fun cdv A outer s H vs Q E hr h => ?_)
  · obtain ⟨a, b, rfl, _⟩ := h
    rfl
  · obtain ⟨a, b, rfl, ha, k⟩ := h
    refine ⟨_, (pss_cons (ps_set (i := 1) scBits.nd rfl (.inl rfl) pe_int)
    (pss_cons (ps_for PassesOwn.never rfl (pi_enum (by rfl) B.enumerate (pa_cons (pv 0) pa_nil)) (pg_tup rfl (pgs_cons (pg_name (i := 2) scBits.nd rfl (.inl rfl)) (pgs_cons (pg_name (i := 3) scBits.nd rfl (.inl rfl)) pgs_nil)))
      (pss_one (ps_if (pt_val (pv 3))
        (pss_one (ps_aug (i := 1) scBits.nd rfl (.inl rfl) (pe_op op_shl pe_int (pv 2)) ip_or))
        pss_nil)))
    (pss_one (ps_ret (pv 1))))), ?_⟩
    refine ⟨_, rfl, a, _, rfl, ha, for_it walk_enum (fun i σ G => ∃ (x2 x3 : Option V), σ = [some (.ref a), some (.int (if i = 0 then 0 else b2i b)), x2, x3] ∧ Same H G) ⟨none, none, rfl, Same.rfl⟩ (fun i σ G _ z => by
      obtain ⟨_, _, _, z⟩ := z
      exact z.seq ha) ?_ ?_⟩
    · rintro i x σ G G' hi ⟨x2, x3, rfl, sG⟩ ⟨T, x, y, rfl, nT, rfl, e1, e2⟩
      have hi : i = 0 := by
        have : i < 1 := hi
        omega
      subst hi
      cases e1
      cases e2
      refine ⟨T, _, rfl, SqT.of upd_same, rfl, _, _, rfl, _, _, rfl, rfl, _, rfl, b, rfl, ?_⟩
      cases b with
      | true => exact iteY rfl ⟨_, rfl, _, rfl, _, _, rfl, rfl, ⟨by decide, by decide, by decide⟩, _, _, rfl, rfl, _, _, rfl, sG.trans (Same.new nT)⟩
      | false => exact iteN rfl ⟨_, _, rfl, sG.trans (Same.new nT)⟩
    · rintro σ G ⟨x2, x3, rfl, sG⟩
      exact ⟨_, rfl, k G sG⟩
end
end Lay
set_option Elab.async false
set_option linter.all false
set_option maxRecDepth 100000
set_option maxHeartbeats 400000
set_option pp.maxSteps 900
namespace Lay
open PySem PySem.Spec PyProof.Rows L2 KwX StX
section
variable {X : Cx}
theorem sw_trueD {kx vx : Expr} {gs : List Comprehension} {scope : Scope} {pos py : Pos} {y : Str} {l : Nat} {env : Env} (hk : env.scope.kind = .function) (hy : env.scope.names.lookup y = some .local) (hl : (py.line == pos.line) = true)
    (ha : (scope.names.any fun (n, k) => n == y && (k == .local || k == .cell)) = false) : swapsWith (.DictComp kx vx gs scope pos) (some (.Name y py)) l env = pure true := by
  have ky : env.kindOf y = some .local := hy
  have hb : env.blockKind = .function := by unfold Env.blockKind; rw [hk]; rfl
  unfold swapsWith
  simp only [hb, ky, ha, Expr.pos, hl]
  rfl
/-- name = {k: v for ..} on one line, the name a local -/
theorem ps_setDc {i : Nat} {y : Str} {py : Pos} {kx vx tg iter : Expr} {ifs : List Expr} {scope : Scope} {own : List (Str × Nat)} {pos spos : Pos} {wi : TI} {g : TG} {tt : TT} {tk tv : TE} (hc : X.calm = true) (hN : X.N.Nodup) (hy : X.N[i]? = some y) (hyl : X.env.scope.names.lookup y = some .local)
    (hsw : swapsWith (.DictComp kx vx [⟨tg, iter, ifs, 0⟩] scope pos) (some (.Name y py)) spos.line X.env = pure true) (hi : PI X tg iter wi) (ok : BlkOk X.N X.env.scope scope own)
    (hg : ∀ (s : Shared) (H : Hp) (C : Addr) (cl : List (Str × Addr)) (fp : List Addr), PG (X.blk s H scope (compEnvC scope cl C X.env) fp) tg g) (ht : ∀ (s : Shared) (H : Hp) (C : Addr) (cl : List (Str × Addr)) (fp : List Addr), PTs (X.blk s H scope (compEnvC scope cl C X.env) fp) ifs tt)
    (hk : ∀ (s : Shared) (H : Hp) (C : Addr) (cl : List (Str × Addr)) (fp : List Addr), PE (X.blk s H scope (compEnvC scope cl C X.env) fp) kx tk)
    (he : ∀ (s : Shared) (H : Hp) (C : Addr) (cl : List (Str × Addr)) (fp : List Addr), PE (X.blk s H scope (compEnvC scope cl C X.env) fp) vx tv) (hs : ∀ x, foldedSetIterable iter X.env x = pure x := by intro _; rfl) :
    PS X (.Assign [.Name y py] (.DictComp kx vx [⟨tg, iter, ifs, 0⟩] scope pos) spos) (tAsg (tDc wi g tt tk tv (own.map (·.2))) (gName i)) := by
  refine ⟨fun pins s σ H D I h => ?_⟩
  rw [exec_Assign_Name_used _ _ _ _ hsw]
  refine wpAny_bind (wpAny_standAt (wpAny_bind ?_))
  show wpAny _ X.A (do let _ ← comprehension (.DictComp kx vx [⟨tg, iter, ifs, 0⟩] scope pos) scope X.env (firstIterPos [⟨tg, iter, ifs, 0⟩] pos) newDict false (eval iter X.env) (some (assign (.Name y py) X.env))) _ _ s
  have h : tDc wi g tt tk tv (own.map (·.2)) σ H (fun x H1 => gName i x σ H1 D.nx) := h
  refine wpAny_bind (thn (dc_core (Qf := fun _ s' => SP X pins D .next s') hc hN I hi ok hg ht hk he hs h fun L C s' m H' I' q hn f => ?_) fun _ s' hq => wpAny_pure (wpAny_pure hq))
  show wpAny _ _ (assign (.Name y py) X.env (.ref L)) _ _ _
  refine wpAny_assign_Name (store_ok2 (v := V.ref L) I' hN hy (.inl hyl) rfl (fun s2 I2 ⟨a, sb, ha⟩ => ?_) (.inr hyl))
  obtain ⟨f0, f1, f2, f3, f4, f5⟩ := f
  have haC : C ≠ a := by
    rcases ha with z | z
    · rw [z]; exact f1
    · exact fun e => f4 y a z e.symm
  refine ⟨m, hn.sameBut sb haC, fun h3 sb3 => ?_⟩
  exact ⟨_, H', I2.turned (t' := s2.toks) (fun b o hb e => (sb3.2 b hb).trans e) f0 f1 f3 f4 f5, q⟩
end
/-- a dict comprehension over what is walked -/
theorem dc_it {J : It} {n : Nat} {G : Hp → Prop} {Y : Nat → Hp → V → Hp → Prop} (w : Walk J n G Y) {g : TG} {tt : TT} {tk tv : TE} {vs : List Nat} {σ : L2.St} {H1 : Hp} {D : Addr} {Qd : Hp → Prop} (Pv : Nat → Hp → Prop) (h0 : Pv 0 (upd H1 D (.dK []))) (hG : ∀ i H, i ≤ n → Pv i H → G H)
    (hs : ∀ i x H H', i < n → Pv i H → Y i H x H' → g x (wipe σ vs) H' fun σ2 H2 => wipe σ2 vs = wipe σ vs ∧ tt σ2 H2 fun b H3 =>
      if b = true then tk σ2 H3 fun y H4 => tv σ2 H4 fun z H5 => ∃ kvs k, y = kV k ∧ H5 D = some (.dK kvs) ∧ kvs.length < sizeLine ∧ Pv (i + 1) (upd H5 D (.dK (putK kvs k z))) else Pv (i + 1) H3) (hd : ∀ H, Pv n H → Qd H) :
    ∃ W : Nat → Nat → Hp → Prop, (∃ m, W 0 m (upd H1 D (.dK []))) ∧ ∀ i m H, W i m H →
      (J.stop i H ∧ Qd H) ∨ (J.go i H ∧ ∃ Nx : Hp → Prop, (∀ H', Nx H' → ∃ m', m' < m ∧ W (i + 1) m' H') ∧ ∀ x H', J.yld i H x H' → g x (wipe σ vs) H' fun σ2 H2 => wipe σ2 vs = wipe σ vs ∧ tt σ2 H2 fun b H3 =>
        if b = true then tk σ2 H3 fun y H4 => tv σ2 H4 fun z H5 => ∃ kvs k, y = kV k ∧ H5 D = some (.dK kvs) ∧ kvs.length < sizeLine ∧ Nx (upd H5 D (.dK (putK kvs k z))) else Nx H3) := by
  refine ⟨fun i m H => m = n - i ∧ i ≤ n ∧ Pv i H, ⟨n, by simp, Nat.zero_le _, h0⟩, ?_⟩
  rintro i m H ⟨rfl, hi, p⟩
  have q := hG i H hi p
  by_cases hlt : i < n
  · refine .inr ⟨w.goes i H hlt q, Pv (i + 1), fun H' p' => ⟨n - (i + 1), by omega, rfl, hlt, p'⟩, fun x H' y => hs i x H H' hlt p (w.yields i H x H' hlt q y)⟩
  · have e : i = n := by omega
    subst e
    exact .inl ⟨w.stops H q, hd H p⟩
theorem kv_at {g : Bool → V} {n : Nat} {L : LS} {i : Nat} (h : i < n) : (kvN g n L)[i]? = some (Sum.inr (nm i), g (L i)) := by
  unfold kvN
  rw [List.getElem?_map, List.getElem?_range h]
  rfl
theorem kv_congr {g : Bool → V} {n : Nat} {L L' : LS} (h : ∀ j, j < n → L j = L' j) : kvN g n L = kvN g n L' := by
  unfold kvN
  refine List.map_congr_left fun j hj => ?_
  rw [h j (List.mem_range.mp hj)]
theorem put_every {g : Bool → V} {L : LS} {v : Bool} {n : Nat} (hn : n < 15) : putK (kvN g n L) (.inr (nm n)) (g v) = kvN g (n + 1) (setL L n v) := by
  have e : kvN g n L = kvN g n (setL L n v) := kv_congr fun j hj => by
    unfold setL
    rw [if_neg (by omega)]
  have e2 : setL L n v n = v := if_pos rfl
  rw [e]
  have := put_new (g := g) (L := setL L n v) hn
  rw [e2] at this
  exact this
/-- all stays but f -/
def ButF (f : Addr) (H H' : Hp) : Prop := ∀ c o, c ≠ f → H c = some o → H' c = some o
theorem ButF.same {f : Addr} {H H1 H2 : Hp} (k : ButF f H H1) (s : Same H1 H2) : ButF f H H2 := fun c o n e => s _ _ (k c o n e)
theorem ButF.put {f D : Addr} {H H1 : Hp} {o : HO} (k : ButF f H H1) (n : H D = none) : ButF f H (upd H1 D o) := fun c u ne e => by
  rw [upd_ne (ne_of_none e n)]
  exact k c u ne e
theorem ButF.unlock {f : Addr} {H H1 : Hp} {u : HO} (k : ButF f H H1) (e : H f = some u) : Same H (upd H1 f u) := fun c o h => by
  by_cases q : c = f
  · subst q
    rw [upd_same, ← e, h]
  · rw [upd_ne q]
    exact k c o q h
def lanesN : List Str := ["many", "lanes", "facts", "word", "_"]
def dcScope (st : Stmt) : Scope := match defBody st with
  | .Assign _ (.DictComp _ _ _ sc _) _ :: _ => sc
  | _ => defScope st
def dcScope2 : Scope := { dcScope sLanes with names := (dcScope sLanes).names.map fun p => if p.2 = .free then (p.1, .cell) else p }
section
variable {P : Program} {w : World} {K : PySem.W.Frag} {mg : Str → Option Value} {base : Heap}
theorem scLanes : FnScope lanesN ["many"] (defScope sLanes) := ⟨rfl, rfl, rfl, by decide +kernel, rfl, by decide +kernel, by decide +kernel⟩
theorem ok_lanes {f : Addr} {fd : FuncData} (F : Fun K "lanes_of" "lanes_of" sLanes f fd) (DB : Has P w K mg base CX0 1 "bits_of" ["answers"] (spBits K)) : FnOk P w K mg base CX0 2 f fd ["many"] (spLanes K) := by
  refine F.ok scLanes (fun vs H Q E h => ?_) (fun cdv A outer s H vs Q E hr h => ?_)
  · obtain ⟨m, f, L, rfl, _⟩ := h
    rfl
  · obtain ⟨m, f, L, rfl, hm, hf, k⟩ := h
    have hu := hu_of hr
    refine ⟨_, (C8.pss_cut (ps_lock (ps_setDc (i := 1) (own := [("word", 3)]) (g := gName 3) (tt := tYes) rfl scLanes.nd rfl rfl (sw_trueD rfl rfl rfl (by decide +kernel)) (pi_keys (pe_ix ix_list (pv 0) pe_int (fun _ _ => rfl))) (blkOk_by (N := lanesN) (sc := defScope sLanes) (by decide +kernel)) (fun _ _ _ _ _ => pg_name (i := 3) scLanes.nd rfl (Or.inr rfl)) (fun _ _ _ _ _ => pts_nil) (fun _ _ _ _ _ => pv 3)
        (fun _ _ _ _ _ => pe_callH DB hr (by rfl) pass0 (pa_cons (pe_lc (own := [("facts", 2)]) (g := gName 2) (tt := tYes) (by rfl) scLanes.nd (pi_sq (K := K) rfl (pv 0)) (blkOk_by (N := lanesN) (sc := dcScope2) (by decide +kernel)) (fun _ _ _ _ _ => pg_name (i := 2) scLanes.nd rfl (Or.inl rfl)) (fun _ _ _ _ _ => pts_nil) (fun _ _ _ _ _ => pe_dget hu (pv 2) (pv 3) (fun _ _ => rfl))) pa_nil))))
    (pss_cons (ps_dput hu (pv 1) pe_str (pe_callH DB hr (by rfl) pass0 (pa_cons (pe_lc (own := [("_", 4)]) (g := gName 4) (tt := tYes) (by rfl) scLanes.nd (pi_list (pv 0)) (blkOk_by (N := lanesN) (sc := defScope sLanes) (by decide +kernel)) (fun _ _ _ _ _ => pg_name (i := 4) scLanes.nd rfl (Or.inl rfl)) (fun _ _ _ _ _ => pts_nil) (fun _ _ _ _ _ => pe_bl)) pa_nil)) (by rfl))
    (pss_one (ps_ret (pv 1))))), ?_⟩
    have nmf : m ≠ f := ne_of hm hf (fun z => nomatch z)
    refine ⟨fun σ G => ∃ D, σ = [some (.ref m), some (.ref D), none, none, none] ∧ Same H G ∧ LnAt 11 G D L ∧ H D = none, ?_, ?_⟩
    · refine ⟨f, _, hf, trivial, fun od => ?_⟩
      have k0 : ButF f H (upd H f (.frz od (.dK (kvN V.bl 11 L)))) := fun c o n e => by rw [upd_ne n]; exact e
      have z0 : upd H f (.frz od (.dK (kvN V.bl 11 L))) f = some (.frz od (.dK (kvN V.bl 11 L))) := upd_same
      have n0 : ∀ D, upd H f (.frz od (.dK (kvN V.bl 11 L))) D = none → H D = none := fun D e => by
        by_cases q : D = f
        · rw [q, z0] at e
          cases e
        · rw [upd_ne q] at e
          exact e
      generalize upd H f (.frz od (.dK (kvN V.bl 11 L))) = G0 at k0 z0 n0 ⊢
      refine ⟨_, rfl, m, _, _, _, rfl, rfl, SqL.of (k0 _ _ nmf hm), rfl, f, od, rfl, .inl ⟨_, z0, fun D nD => dc_it walk_keys (fun i G => ButF f H G ∧ G f = some (.frz od (.dK (kvN V.bl 11 L))) ∧ LnAt i G D L) ⟨k0.same (Same.new nD), Same.new nD _ _ z0, upd_same⟩ (fun i G _ p => p.2.1) ?_ ?_⟩⟩
      · rintro i x G G' hi ⟨k1, z1, hD⟩ ⟨rfl, key, v, ek, rfl⟩
        have hi : i < 11 := hi
        rw [kv_at hi] at ek
        cases ek
        refine ⟨rfl, _, rfl, _, rfl, m, [.ref f], false, rfl, SqL.of (k1 _ _ nmf hm), fun J wk D2 nD2 => lc_it wk (fun j G2 => Same G' G2 ∧ G2 D2 = some (.lst (if j = 0 then [] else [V.bl (L i)]))) ⟨Same.new nD2, upd_same⟩ (fun j G2 _ q => SqL.of (q.1 _ _ (k1 _ _ nmf hm))) ?_ ?_⟩
        · rintro j x G2 G3 hj ⟨s2, h2⟩ ⟨rfl, ex⟩
          have hj : j = 0 := by
            have : j < 1 := hj
            omega
          subst hj
          cases ex
          refine ⟨rfl, _, rfl, _, rfl, f, _, rfl, .inl ⟨_, .inr (nm i), .inr ⟨od, s2 _ _ z1⟩, rfl, (val_kv hi (by decide)).symm⟩, _, h2, (by show 0 < sizeLine; decide), same_put s2 nD2, upd_same⟩
        · rintro G2 ⟨s2, h2⟩
          refine ⟨D2, L i, rfl, SqL.of h2, fun G3 s3 => ⟨_, .inr (nm i), rfl, s3 _ _ (s2 _ _ hD), by rw [kv_len, sizeLine_eq]; omega, ?_, ?_, ?_⟩⟩
          · exact (k1.same (s2.trans s3)).put (n0 D nD)
          · rw [upd_ne (ne_of_none z0 nD)]
            exact s3 _ _ (s2 _ _ z1)
          · show upd G3 D _ D = _
            rw [upd_same, put_new (g := fun b => .int (b2i b)) (by omega)]
      · rintro G ⟨k1, z1, hD⟩
        refine ⟨z1, D, rfl, k1.unlock hf, ?_, n0 D nD⟩
        show upd G f _ D = _
        rw [upd_ne (Ne.symm (ne_of_none z0 nD))]
        exact hD
    rintro σ G ⟨D, rfl, s1, hD, nDH⟩
    have hm1 := s1 _ _ hm
    refine ⟨_, rfl, m, rfl, ⟨_, SqL.of hm1⟩, fun D2 nD2 => lc_list (K := K) (a := m) (xs := [.ref f]) (fun j G2 => Same G G2 ∧ G2 D2 = some (.lst (if j = 0 then [] else [V.bl true]))) ⟨Same.new nD2, upd_same⟩ (fun j G2 _ q => SqL.of (q.1 _ _ hm1)) ?_ ?_⟩
    · rintro j x G2 hj ⟨s2, h2⟩
      have hj : j = 0 := by
        have : j < 1 := (List.getElem?_eq_some_iff.mp hj).1
        omega
      subst hj
      exact ⟨rfl, _, h2, (by show 0 < sizeLine; decide), same_put s2 nD2, upd_same⟩
    · rintro G2 ⟨s2, h2⟩
      refine ⟨D2, true, rfl, SqL.of h2, fun G3 s3 => ⟨_, rfl, D, _, rfl, DPut.k (k := .inr (nm 11)) (v := .int (b2i true)) (s3 _ _ (s2 _ _ hD)) (by rw [kv_len, sizeLine_eq]; omega), ?_⟩⟩
      rw [put_every (g := fun b => .int (b2i b)) (by decide)]
      exact ⟨_, rfl, k D _ (same_put (s1.trans (s2.trans s3)) nDH) upd_same⟩
end
end Lay
set_option Elab.async false
set_option linter.all false
set_option maxRecDepth 100000
set_option maxHeartbeats 400000
set_option pp.maxSteps 900
namespace Lay
open PySem PySem.Spec PyProof.Rows L2 KwX StX
theorem ip_andB {X : Cx} : PIp X .BitAnd rAndB := fun pins s σ H x y v u Q I rx ry ⟨a, b, e1, e2, q⟩ => iop_and pins s σ H x y v u Q I rx ry ⟨_, _, e1, e2, by show Q (.int (Builtin.bitAnd _ _)) H; rw [and_b2i]; exact q⟩
theorem test_word : ∀ z ∈ testL, z = "long" ∨ (wordN z < 15 ∧ nm (wordN z) = z) := by decide +kernel
theorem inV_mem {z : Str} {zs : List Str} (h : inV (.str z) (zs.map V.str) = true) : z ∈ zs := by
  unfold inV at h
  rw [List.any_map, List.any_eq_true] at h
  obtain ⟨y, hy, e⟩ := h
  have : y = z := by
    have e : (y == z) = true := e
    exact beq_iff_eq.mp e
  exact this ▸ hy
theorem progT_word {t : Str} (h : progT t = true) : Txt.removeprefix t "not " ∈ testL := inV_mem h
def bfV : Option (Bool × Bool) → List V
  | none => []
  | some p => [.bl p.1, .bl p.2]
def bf1 : Option (Bool × Bool) → Bool
  | none => false
  | some p => p.1
def bf2 : Option (Bool × Bool) → Bool
  | none => false
  | some p => p.2
def behL (L : LS) (bf : Option (Bool × Bool)) : LS := setL (setL (setL L 12 (L 11 && bf.isNone)) 13 (L 11 && bf1 bf)) 14 (L 11 && bf2 bf)
theorem merge_more {x y z : V} : mergeK [] [((Sum.inr (nm 12) : Key), x), (.inr (nm 13), y), (.inr (nm 14), z)] = [(.inr (nm 12), x), (.inr (nm 13), y), (.inr (nm 14), z)] := by
  have e1 : ¬ (Sum.inr (nm 12) : Key) = Sum.inr (nm 13) := by decide +kernel
  have e2 : ¬ (Sum.inr (nm 12) : Key) = Sum.inr (nm 14) := by decide +kernel
  have e3 : ¬ (Sum.inr (nm 13) : Key) = Sum.inr (nm 14) := by decide +kernel
  simp [mergeK, putK, e1, e2, e3]
theorem merge_beh {g : Bool → V} {L : LS} {u v w : Bool} : mergeK (kvN g 12 L) [(.inr (nm 12), g u), (.inr (nm 13), g v), (.inr (nm 14), g w)] = kvN g 15 (setL (setL (setL L 12 u) 13 v) 14 w) := by
  unfold mergeK
  simp only [List.foldl_cons, List.foldl_nil]
  rw [put_every (by decide), put_every (by decide), put_every (by decide)]
abbrev sBeh : Stmt := top 45
abbrev sLong : Stmt := top 46
abbrev sHolds : Stmt := top 47
abbrev sDone : Stmt := top 48
def spBeh (K : PySem.W.Frag) : Sp := fun vs H Q _ => ∃ (t l : Addr) (bf : Option (Bool × Bool)) (L : LS), vs = [.ref t, .ref l] ∧ SqT K H t (bfV bf) ∧ LnAt 12 H l L ∧ ∀ p H', Same H H' → H p = none → LnAt 15 H' p (behL L bf) → Q (.ref p) H'
def spLong : Sp := fun vs H Q _ => ∃ (l : Addr) (L : LS), vs = [.ref l] ∧ LnAt 15 H l L ∧ Q (.int (b2i (longL L))) H
def spHolds : Sp := fun vs H Q _ => ∃ (l : Addr) (L : LS) (t : Str), vs = [.ref l, .str t] ∧ LnAt 15 H l L ∧ progT t = true ∧ t.length ≤ 20 ∧ Q (.int (b2i (holdL L t))) H
def spDone (C : Addr) : Sp := fun vs H Q _ => ∃ (l p : Addr) (L : LS) (r : RD), vs = [.ref l, .ref p] ∧ LnAt 15 H l L ∧ RowAt C H p r ∧ r.Ok ∧ (∀ z ∈ r.ws, progT z = true) ∧ Q (.int (b2i (whereL L r.ws (L 11)))) H
theorem if_lane {i j : Nat} {b e : Bool} {σ : L2.St} {H : Hp} {Q : VK} (h1 : σ[i]? = some (some (.bl b))) (h2 : σ[j]? = some (some (.int (b2i e)))) (k : Q (.int (b2i (e && b))) H) : tIf (tB (tVar i)) (tVar j) (tC (.int 0)) σ H Q := by
  refine ⟨_, h1, b, rfl, ?_⟩
  cases b with
  | true =>
    rw [Bool.and_true] at k
    exact iteY rfl ⟨_, h2, k⟩
  | false =>
    rw [Bool.and_false] at k
    exact iteN rfl k
section
variable {P : Program} {w : World} {K : PySem.W.Frag} {mg : Str → Option Value} {base : Heap}
theorem scBeh : FnScope ["before", "lanes", "every", "first", "broken", "behind"] ["before", "lanes"] (defScope sBeh) := ⟨rfl, rfl, rfl, by decide +kernel, rfl, by decide +kernel, by decide +kernel⟩
theorem ok_beh {f : Addr} {fd : FuncData} (F : Fun K "put_behind" "put_behind" sBeh f fd) (B : Bt mg) : FnOk P w K mg base CX0 1 f fd ["before", "lanes"] (spBeh K) := by
  refine F.ok scBeh (fun vs H Q E h => ?_) (fun cdv A outer s H vs Q E hr h => ?_)
  · obtain ⟨t, l, bf, L, rfl, _⟩ := h
    rfl
  · obtain ⟨t, l, bf, L, rfl, ht, hl, k⟩ := h
    have hu := hu_of hr
    refine ⟨_, (pss_cons (ps_set (i := 2) scBeh.nd rfl (.inl rfl) (pe_dget hu (pv 1) pe_str (fun _ _ => rfl)))
    (pss_cons (ps_set (i := 3) scBeh.nd rfl (.inl rfl) (pe_cmpR op_eq (pe_callB (call_lenK (K := K) rfl) (by rfl) B.len PySem.boot_len (pa_cons (pv 0) pa_nil)) pe_int (nomark _)))
    (C8.pss_cut (ps_asg (pe_ifExp (pt_val (pv 3)) (pe_tup (pa_cons pe_bl (pa_cons pe_bl pa_nil))) (pv 0)) (pg_tup rfl (pgs_cons (pg_name (i := 4) scBeh.nd rfl (.inl rfl)) (pgs_cons (pg_name (i := 5) scBeh.nd rfl (.inl rfl)) pgs_nil))))
    (pss_one (ps_ret (pe_star (pv 1) (pps_cons pe_str (pe_ifExp (pt_val (pv 3)) (pv 2) pe_int) (pps_cons pe_str (pe_ifExp (pt_val (pv 4)) (pv 2) pe_int) (pps_cons pe_str (pe_ifExp (pt_val (pv 5)) (pv 2) pe_int) pps_nil))) rfl rfl (by decide) (by decide))))))), ?_⟩
    refine ⟨_, rfl, l, _, rfl, hl.get 11 (by decide) (by decide), _, rfl, t, _, rfl, .inr ht, rfl, ?_⟩
    have e0 : decide (V.int ((bfV bf).length : Int) = V.int 0) = bf.isNone := by cases bf <;> rfl
    rw [e0]
    refine ⟨fun σ G => σ = [some (.ref t), some (.ref l), some (.int (b2i (L 11))), some (.bl bf.isNone), some (.bl (bf1 bf)), some (.bl (bf2 bf))] ∧ Same H G, ?_, ?_⟩
    · refine ⟨_, rfl, _, rfl, ?_⟩
      cases bf with
      | none => exact iteY rfl ⟨(by show 2 ≤ sizeLine; decide), fun q nq => ⟨q, _, rfl, SqT.of upd_same, rfl, _, _, rfl, _, _, rfl, rfl, rfl, Same.new nq⟩⟩
      | some p => exact iteN rfl ⟨_, rfl, t, _, rfl, ht, rfl, _, _, rfl, _, _, rfl, rfl, rfl, Same.rfl⟩
    rintro σ G ⟨rfl, sG⟩
    refine fun p np => ⟨_, rfl, l, _, rfl, upd_same, Same.new np _ _ (sG _ _ hl), ?_, by rw [kv_len]; decide, fun q nq => ?_⟩
    · exact ne_of_none (sG _ _ hl) np
    rw [merge_kv 12 (by decide)] at nq ⊢
    rw [upd_upd] at nq ⊢
    have v1 := Same.new np (o := .dK (kvN (fun b => .int (b2i b)) 12 L))
    have v2 := v1.trans (Same.new nq (o := .dK []))
    have pq : p ≠ q := ne_of_none upd_same nq
    refine if_lane rfl rfl ?_
    refine if_lane rfl rfl ?_
    refine if_lane rfl rfl ?_
    refine ⟨upd_same, by rw [upd_ne pq]; exact upd_same, [(.inr (nm 12), .int (b2i (L 11 && bf.isNone))), (.inr (nm 13), .int (b2i (L 11 && bf1 bf))), (.inr (nm 14), .int (b2i (L 11 && bf2 bf)))], rfl, (by show 3 ≤ 15; decide), ?_⟩
    rw [merge_more, merge_beh (g := fun b => .int (b2i b))]
    refine k p _ ?_ (sG.free np) upd_same
    exact same_put (sG.trans (same_put v2 (v1.free nq))) (sG.free np)
theorem scLong : FnScope ["lanes", "marked", "behind", "with_both"] ["lanes"] (defScope sLong) := ⟨rfl, rfl, rfl, by decide +kernel, rfl, by decide +kernel, by decide +kernel⟩
theorem ok_long {f : Addr} {fd : FuncData} (F : Fun K "where_long" "where_long" sLong f fd) : FnOk P w K mg base CX0 1 f fd ["lanes"] spLong := by
  refine F.ok scLong (fun vs H Q E h => ?_) (fun cdv A outer s H vs Q E hr h => ?_)
  · obtain ⟨l, L, rfl, _⟩ := h
    rfl
  · obtain ⟨l, L, rfl, hl, k⟩ := h
    have hu := hu_of hr
    refine ⟨_, (pss_cons (ps_set (i := 1) scLong.nd rfl (.inl rfl) (pe_dget hu (pv 0) pe_str (fun _ _ => rfl)))
    (pss_cons (ps_set (i := 2) scLong.nd rfl (.inl rfl) (pe_dget hu (pv 0) pe_str (fun _ _ => rfl)))
    (pss_cons (ps_set (i := 3) scLong.nd rfl (.inl rfl) (pe_op op_andB (pe_op op_andB (pv 1) (pv 2)) (pe_dget hu (pv 0) pe_str (fun _ _ => rfl))))
    (pss_one (ps_ret (pe_op op_orB (pe_op op_orB (pe_op op_orB (pe_dget hu (pv 0) pe_str (fun _ _ => rfl)) (pe_op op_andB (pv 1) (pe_dget hu (pv 0) pe_str (fun _ _ => rfl)))) (pe_op op_andB (pv 2) (pe_dget hu (pv 0) pe_str (fun _ _ => rfl)))) (pv 3))))))), ?_⟩
    have g := fun i hi => hl.get i hi (by decide)
    refine ⟨_, rfl, l, _, rfl, g 1 (by decide), _, rfl, l, _, rfl, g 4 (by decide), ?_⟩
    refine ⟨_, rfl, _, rfl, _, _, rfl, rfl, _, rfl, l, _, rfl, g 10 (by decide), _, _, rfl, rfl, ?_⟩
    refine ⟨_, rfl, l, _, rfl, g 7 (by decide), _, rfl, _, rfl, l, _, rfl, g 8 (by decide), _, _, rfl, rfl, _, _, rfl, rfl, _, rfl, _, rfl, l, _, rfl, g 9 (by decide), _, _, rfl, rfl, _, _, rfl, rfl, _, rfl, _, _, rfl, rfl, k⟩
theorem scHolds : FnScope ["lanes", "test", "word", "found"] ["lanes", "test"] (defScope sHolds) := ⟨rfl, rfl, rfl, by decide +kernel, rfl, by decide +kernel, by decide +kernel⟩
theorem ok_holds {f : Addr} {fd : FuncData} (F : Fun K "where_holds" "where_holds" sHolds f fd) (DL : Has P w K mg base CX0 1 "where_long" ["lanes"] spLong) : FnOk P w K mg base CX0 2 f fd ["lanes", "test"] spHolds := by
  refine F.ok scHolds (fun vs H Q E h => ?_) (fun cdv A outer s H vs Q E hr h => ?_)
  · obtain ⟨l, L, t, rfl, _⟩ := h
    rfl
  · obtain ⟨l, L, t, rfl, hl, pt, lt, k⟩ := h
    have hu := hu_of hr
    refine ⟨_, (pss_cons (ps_set (i := 2) scHolds.nd rfl (.inl rfl) (pe_bm PySem.F.plainAttrs_str PySem.F.slot_str_removeprefix PySem.F.type_str_removeprefix mt_removeprefix (pv 1) (pa_cons pe_str pa_nil)))
    (C8.pss_cut (ps_set (i := 3) scHolds.nd rfl (.inl rfl) (pe_ifExp (pt_cmpR op_eq (pv 2) pe_str (nomark _)) (pe_callH DL hr (by rfl) pass0 (pa_cons (pv 0) pa_nil)) (pe_dget hu (pv 0) (pv 2) (fun _ _ => rfl))))
    (pss_one (ps_ret (pe_ifExp (pt_cmpR op_eq (pv 2) (pv 1) (nomark _)) (pv 3) (pe_op op_andN (pe_dget hu (pv 0) pe_str (fun _ _ => rfl)) (pe_un un_inv (pv 3)))))))), ?_⟩
    have g := fun i hi => hl.get i hi (by decide)
    refine ⟨_, rfl, rfl, t, "not ", rfl, rfl, fitsW (by omega), ?_⟩
    have hw := progT_word pt
    generalize ez : Txt.removeprefix t "not " = z at hw ⊢
    refine ⟨fun σ G => σ = [some (.ref l), some (.str t), some (.str z), some (.int (b2i (if z = "long" then longL L else L (wordN z))))] ∧ G = H, ?_, ?_⟩
    · refine ⟨_, rfl, rfl, _, rfl, ?_⟩
      by_cases e : z = "long"
      · rw [if_pos e]
        exact iteY (by rw [e]; simp) ⟨_, rfl, l, L, rfl, hl, rfl, rfl⟩
      · rw [if_neg e]
        rcases test_word z hw with e2 | ⟨n1, n2⟩
        · exact absurd e2 e
        refine iteN (by simp [e]) ⟨_, rfl, _, rfl, l, _, rfl, ?_, rfl, rfl⟩
        have := g (wordN z) n1
        rw [n2] at this
        exact this
    rintro σ G ⟨rfl, rfl⟩
    refine ⟨_, rfl, _, rfl, rfl, _, rfl, ?_⟩
    unfold holdL at k
    simp only [ez] at k
    by_cases e : z = t
    · rw [if_pos e] at k
      exact iteY (by rw [e]; simp) ⟨_, rfl, k⟩
    · rw [if_neg e] at k
      exact iteN (by simp [e]) ⟨_, rfl, l, _, rfl, g 11 (by decide), _, rfl, _, rfl, _, _, rfl, rfl, k⟩
theorem scDone : FnScope ["lanes", "row", "where", "test"] ["lanes", "row"] (defScope sDone) := ⟨rfl, rfl, rfl, by decide +kernel, rfl, by decide +kernel, by decide +kernel⟩
theorem ok_done {f C : Addr} {fd : FuncData} (F : Fun K "where_done" "where_done" sDone f fd) (Z : RowC K C) (DH : Has P w K mg base CX0 2 "where_holds" ["lanes", "test"] spHolds) : FnOk P w K mg base CX0 3 f fd ["lanes", "row"] (spDone C) := by
  refine F.ok scDone (fun vs H Q E h => ?_) (fun cdv A outer s H vs Q E hr h => ?_)
  · obtain ⟨l, p, L, r, rfl, _⟩ := h
    rfl
  · obtain ⟨l, p, L, r, rfl, hl, ⟨dx, t, d, hp, ht, hd⟩, o, pt, k⟩ := h
    have hu := hu_of hr
    refine ⟨_, (pss_cons (ps_set (i := 2) scDone.nd rfl (.inl rfl) (pe_dget hu (pv 0) pe_str (fun _ _ => rfl)))
    (pss_cons (ps_for PassesOwn.never rfl (pi_tup (pe_fld (pv 1) rfl)) (pg_name (i := 3) scDone.nd rfl (.inl rfl))
      (pss_one (ps_aug (i := 2) scDone.nd rfl (.inl rfl) (pe_callH DH hr (by rfl) pass0 (pa_cons (pv 0) (pa_cons (pv 3) pa_nil))) ip_andB)))
    (pss_one (ps_ret (pv 2))))), ?_⟩
    refine ⟨_, rfl, l, _, rfl, hl.get 11 (by decide) (by decide), _, rfl, p, C, dx, _, _, rfl, hp, Z.cl, Z.tests, rfl, t, rfl, ⟨_, SqT.of ht⟩, for_tup (K := K) (xs := r.ws.map V.str) (fun i σ G => ∃ (b : Bool) (x3 : Option V), σ = [some (.ref l), some (.ref p), some (.int (b2i b)), x3] ∧ G = H ∧ whereL L (r.ws.drop i) b = whereL L r.ws (L 11)) ⟨_, _, rfl, rfl, rfl⟩ (fun i σ G _ z => by
      obtain ⟨_, _, _, z, _⟩ := z
      rw [z]
      exact SqT.of ht) ?_ ?_⟩
    · rintro i x σ G hi ⟨b, x3, rfl, rfl, e⟩
      obtain ⟨z, ez, rfl⟩ := str_at hi
      have hz := List.mem_of_getElem? ez
      have li := (List.getElem?_eq_some_iff.mp ez).1
      refine ⟨_, rfl, _, rfl, _, rfl, l, L, z, rfl, hl, pt z hz, o.w z hz, _, _, rfl, rfl, _, _, rfl, rfl, ?_⟩
      rw [List.drop_eq_getElem_cons li] at e
      have e3 : r.ws[i] = z := (List.getElem?_eq_some_iff.mp ez).2
      rw [e3] at e
      exact e
    · rintro σ G ⟨b, x3, rfl, rfl, e⟩
      rw [List.length_map, List.drop_length] at e
      have e : b = whereL L r.ws (L 11) := e
      subst e
      exact ⟨_, rfl, k⟩
end
end Lay
set_option Elab.async false
set_option linter.all false
set_option maxRecDepth 100000
set_option maxHeartbeats 400000
set_option pp.maxSteps 900
namespace Lay
open PySem PySem.Spec PyProof.Rows L2 KwX StX
/-! ### what is done to lanes -/
def lnO (L : LS) : HO := .dK (kvN (fun b => .int (b2i b)) 15 L)
def spDo (i : Nat) : Sp := fun vs H Q _ => ∃ (l : Addr) (L : LS) (w : Bool), vs = [.ref l, .int (b2i w)] ∧ LnAt 15 H l L ∧ Q .non (upd H l (lnO (doL i w L)))
section
variable {P : Program} {w : World} {K : PySem.W.Frag} {mg : Str → Option Value} {base : Heap}
abbrev sBreak : Stmt := top 49
theorem scBreak : FnScope ["lanes", "where"] ["lanes", "where"] (defScope sBreak) := ⟨rfl, rfl, rfl, by decide +kernel, rfl, by decide +kernel, by decide +kernel⟩
theorem ok_break {f : Addr} {fd : FuncData} (F : Fun K "do_break" "do_break" sBreak f fd) : FnOk P w K mg base CX0 1 f fd ["lanes", "where"] (spDo 0) := by
  refine F.ok scBreak (fun vs H Q E h => ?_) (fun cdv A outer s H vs Q E hr h => ?_)
  · obtain ⟨l, L, w0, rfl, _⟩ := h
    rfl
  · obtain ⟨l, L, w0, rfl, hl, k⟩ := h
    have hu := hu_of hr
    refine ⟨_, pss_one (ps_daug hu (pv 0) pe_str (pv 1) in_orB (fun _ _ _ => rfl)), ?_⟩
    refine ⟨_, rfl, l, _, rfl, hl.get 0 (by decide) (by decide), _, rfl, _, _, rfl, rfl, _, hl.put 0 (by decide) (by decide), ?_⟩
    exact k
abbrev sJoin : Stmt := top 50
theorem scJoin : FnScope ["lanes", "where"] ["lanes", "where"] (defScope sJoin) := ⟨rfl, rfl, rfl, by decide +kernel, rfl, by decide +kernel, by decide +kernel⟩
theorem ok_join {f : Addr} {fd : FuncData} (F : Fun K "do_join" "do_join" sJoin f fd) : FnOk P w K mg base CX0 1 f fd ["lanes", "where"] (spDo 1) := by
  refine F.ok scJoin (fun vs H Q E h => ?_) (fun cdv A outer s H vs Q E hr h => ?_)
  · obtain ⟨l, L, w0, rfl, _⟩ := h
    rfl
  · obtain ⟨l, L, w0, rfl, hl, k⟩ := h
    have hu := hu_of hr
    refine ⟨_, pss_one (ps_daug hu (pv 0) pe_str (pe_un un_inv (pv 1)) in_andN (fun _ _ _ => rfl)), ?_⟩
    refine ⟨_, rfl, l, _, rfl, hl.get 0 (by decide) (by decide), _, rfl, _, rfl, _, _, rfl, rfl, _, hl.put 0 (by decide) (by decide), ?_⟩
    exact k
abbrev sMark : Stmt := top 51
theorem scMark : FnScope ["lanes", "where"] ["lanes", "where"] (defScope sMark) := ⟨rfl, rfl, rfl, by decide +kernel, rfl, by decide +kernel, by decide +kernel⟩
theorem ok_mark {f : Addr} {fd : FuncData} (F : Fun K "do_mark" "do_mark" sMark f fd) : FnOk P w K mg base CX0 1 f fd ["lanes", "where"] (spDo 2) := by
  refine F.ok scMark (fun vs H Q E h => ?_) (fun cdv A outer s H vs Q E hr h => ?_)
  · obtain ⟨l, L, w0, rfl, _⟩ := h
    rfl
  · obtain ⟨l, L, w0, rfl, hl, k⟩ := h
    have hu := hu_of hr
    refine ⟨_, pss_one (ps_daug hu (pv 0) pe_str (pv 1) in_orB (fun _ _ _ => rfl)), ?_⟩
    refine ⟨_, rfl, l, _, rfl, hl.get 1 (by decide) (by decide), _, rfl, _, _, rfl, rfl, _, hl.put 1 (by decide) (by decide), ?_⟩
    exact k
abbrev sUnmark : Stmt := top 52
theorem scUnmark : FnScope ["lanes", "where"] ["lanes", "where"] (defScope sUnmark) := ⟨rfl, rfl, rfl, by decide +kernel, rfl, by decide +kernel, by decide +kernel⟩
theorem ok_unmark {f : Addr} {fd : FuncData} (F : Fun K "do_unmark" "do_unmark" sUnmark f fd) : FnOk P w K mg base CX0 1 f fd ["lanes", "where"] (spDo 3) := by
  refine F.ok scUnmark (fun vs H Q E h => ?_) (fun cdv A outer s H vs Q E hr h => ?_)
  · obtain ⟨l, L, w0, rfl, _⟩ := h
    rfl
  · obtain ⟨l, L, w0, rfl, hl, k⟩ := h
    have hu := hu_of hr
    refine ⟨_, pss_one (ps_daug hu (pv 0) pe_str (pe_un un_inv (pv 1)) in_andN (fun _ _ _ => rfl)), ?_⟩
    refine ⟨_, rfl, l, _, rfl, hl.get 1 (by decide) (by decide), _, rfl, _, rfl, _, _, rfl, rfl, _, hl.put 1 (by decide) (by decide), ?_⟩
    exact k
abbrev sLift : Stmt := top 53
theorem scLift : FnScope ["lanes", "where", "moved"] ["lanes", "where"] (defScope sLift) := ⟨rfl, rfl, rfl, by decide +kernel, rfl, by decide +kernel, by decide +kernel⟩
theorem ok_lift {f : Addr} {fd : FuncData} (F : Fun K "do_lift" "do_lift" sLift f fd) : FnOk P w K mg base CX0 1 f fd ["lanes", "where"] (spDo 4) := by
  refine F.ok scLift (fun vs H Q E h => ?_) (fun cdv A outer s H vs Q E hr h => ?_)
  · obtain ⟨l, L, w0, rfl, _⟩ := h
    rfl
  · obtain ⟨l, L, w0, rfl, hl, k⟩ := h
    have hu := hu_of hr
    refine ⟨_, pss_cons (ps_set (i := 2) scLift.nd rfl (.inl rfl) (pe_op op_andN (pe_op op_andB (pv 1) (pe_dget hu (pv 0) pe_str (fun _ _ => rfl))) (pe_un un_inv (pe_dget hu (pv 0) pe_str (fun _ _ => rfl)))))
      (pss_cons (ps_daug hu (pv 0) pe_str (pv 2) in_orB (fun _ _ _ => rfl))
      (pss_one (ps_daug hu (pv 0) pe_str (pe_un un_inv (pv 2)) in_andN (fun _ _ _ => rfl)))), ?_⟩
    refine ⟨_, rfl, _, rfl, l, _, rfl, hl.get 4 (by decide) (by decide), _, _, rfl, rfl, _, rfl, l, _, rfl, hl.get 3 (by decide) (by decide), _, rfl, _, _, rfl, rfl, ?_⟩
    refine ⟨_, rfl, l, _, rfl, hl.get 3 (by decide) (by decide), _, rfl, _, _, rfl, rfl, _, hl.put 3 (by decide) (by decide), ?_⟩
    refine ⟨_, rfl, l, _, rfl, (LnAt.set (n := 15)).get 4 (by decide) (by decide), _, rfl, _, rfl, _, _, rfl, rfl, _, (LnAt.set (n := 15)).put 4 (by decide) (by decide), ?_⟩
    rw [upd_upd]
    exact k
abbrev sLower : Stmt := top 54
theorem scLower : FnScope ["lanes", "where", "moved"] ["lanes", "where"] (defScope sLower) := ⟨rfl, rfl, rfl, by decide +kernel, rfl, by decide +kernel, by decide +kernel⟩
theorem ok_lower {f : Addr} {fd : FuncData} (F : Fun K "do_lower" "do_lower" sLower f fd) : FnOk P w K mg base CX0 1 f fd ["lanes", "where"] (spDo 5) := by
  refine F.ok scLower (fun vs H Q E h => ?_) (fun cdv A outer s H vs Q E hr h => ?_)
  · obtain ⟨l, L, w0, rfl, _⟩ := h
    rfl
  · obtain ⟨l, L, w0, rfl, hl, k⟩ := h
    have hu := hu_of hr
    refine ⟨_, pss_cons (ps_set (i := 2) scLower.nd rfl (.inl rfl) (pe_op op_andN (pe_op op_andB (pv 1) (pe_dget hu (pv 0) pe_str (fun _ _ => rfl))) (pe_un un_inv (pe_dget hu (pv 0) pe_str (fun _ _ => rfl)))))
      (pss_cons (ps_daug hu (pv 0) pe_str (pv 2) in_orB (fun _ _ _ => rfl))
      (pss_one (ps_daug hu (pv 0) pe_str (pe_un un_inv (pv 2)) in_andN (fun _ _ _ => rfl)))), ?_⟩
    refine ⟨_, rfl, _, rfl, l, _, rfl, hl.get 3 (by decide) (by decide), _, _, rfl, rfl, _, rfl, l, _, rfl, hl.get 4 (by decide) (by decide), _, rfl, _, _, rfl, rfl, ?_⟩
    refine ⟨_, rfl, l, _, rfl, hl.get 4 (by decide) (by decide), _, rfl, _, _, rfl, rfl, _, hl.put 4 (by decide) (by decide), ?_⟩
    refine ⟨_, rfl, l, _, rfl, (LnAt.set (n := 15)).get 3 (by decide) (by decide), _, rfl, _, rfl, _, _, rfl, rfl, _, (LnAt.set (n := 15)).put 3 (by decide) (by decide), ?_⟩
    rw [upd_upd]
    exact k
abbrev sSpace : Stmt := top 55
theorem scSpace : FnScope ["lanes", "where"] ["lanes", "where"] (defScope sSpace) := ⟨rfl, rfl, rfl, by decide +kernel, rfl, by decide +kernel, by decide +kernel⟩
theorem ok_space {f : Addr} {fd : FuncData} (F : Fun K "do_space" "do_space" sSpace f fd) : FnOk P w K mg base CX0 1 f fd ["lanes", "where"] (spDo 6) := by
  refine F.ok scSpace (fun vs H Q E h => ?_) (fun cdv A outer s H vs Q E hr h => ?_)
  · obtain ⟨l, L, w0, rfl, _⟩ := h
    rfl
  · obtain ⟨l, L, w0, rfl, hl, k⟩ := h
    have hu := hu_of hr
    refine ⟨_, pss_cons (ps_daug hu (pv 0) pe_str (pv 1) in_orB (fun _ _ _ => rfl))
      (pss_one (ps_daug hu (pv 0) pe_str (pe_un un_inv (pv 1)) in_andN (fun _ _ _ => rfl))), ?_⟩
    refine ⟨_, rfl, l, _, rfl, hl.get 5 (by decide) (by decide), _, rfl, _, _, rfl, rfl, _, hl.put 5 (by decide) (by decide), ?_⟩
    refine ⟨_, rfl, l, _, rfl, (LnAt.set (n := 15)).get 6 (by decide) (by decide), _, rfl, _, rfl, _, _, rfl, rfl, _, (LnAt.set (n := 15)).put 6 (by decide) (by decide), ?_⟩
    rw [upd_upd]
    exact k
abbrev sClose : Stmt := top 56
theorem scClose : FnScope ["lanes", "where"] ["lanes", "where"] (defScope sClose) := ⟨rfl, rfl, rfl, by decide +kernel, rfl, by decide +kernel, by decide +kernel⟩
theorem ok_close {f : Addr} {fd : FuncData} (F : Fun K "do_close" "do_close" sClose f fd) : FnOk P w K mg base CX0 1 f fd ["lanes", "where"] (spDo 7) := by
  refine F.ok scClose (fun vs H Q E h => ?_) (fun cdv A outer s H vs Q E hr h => ?_)
  · obtain ⟨l, L, w0, rfl, _⟩ := h
    rfl
  · obtain ⟨l, L, w0, rfl, hl, k⟩ := h
    have hu := hu_of hr
    refine ⟨_, pss_cons (ps_daug hu (pv 0) pe_str (pe_un un_inv (pv 1)) in_andN (fun _ _ _ => rfl))
      (pss_one (ps_daug hu (pv 0) pe_str (pe_un un_inv (pv 1)) in_andN (fun _ _ _ => rfl))), ?_⟩
    refine ⟨_, rfl, l, _, rfl, hl.get 5 (by decide) (by decide), _, rfl, _, rfl, _, _, rfl, rfl, _, hl.put 5 (by decide) (by decide), ?_⟩
    refine ⟨_, rfl, l, _, rfl, (LnAt.set (n := 15)).get 6 (by decide) (by decide), _, rfl, _, rfl, _, _, rfl, rfl, _, (LnAt.set (n := 15)).put 6 (by decide) (by decide), ?_⟩
    rw [upd_upd]
    exact k
end
end Lay
set_option Elab.async false
set_option linter.all false
set_option maxRecDepth 100000
set_option maxHeartbeats 400000
set_option pp.maxSteps 900
namespace Lay
open PySem PySem.Spec PyProof.Rows L2 KwX StX
/-! ### rows done -/
theorem pe_any {X : Cx} {e : Expr} {ι : Type} {t : ι → TE} (h : ∀ i, PE X e (t i)) : PE X e (fun σ H Q => ∃ i, t i σ H Q) := ⟨fun pins s σ H Q I ⟨i, q⟩ => (h i).run pins s σ H Q I q⟩
theorem upd_id {H : Hp} {a : Addr} {o : HO} (h : H a = some o) : upd H a o = H := funext fun b => by
  by_cases e : b = a
  · rw [e, upd_same, h]
  · rw [upd_ne e]
def dm (i : Nat) : Str := deedL.getD i ""
theorem deed_word : ∀ z ∈ deedL, deedN z < 8 ∧ dm (deedN z) = z := by decide +kernel
theorem progD_mem {z : Str} (h : progD z = true) : z ∈ deedL := inV_mem h
/-- the defs that stand in DOING -/
structure DoF (P : Program) (w : World) (K : PySem.W.Frag) (mg : Str → Option Value) (base : Heap) (DO : Addr) (fa : Nat → Addr) : Prop where
  ok : ∀ i < 8, FnR P w K mg base CX0 1 (fa i) (spDo i)
  kp : ∀ i < 8, PySem.W.keepIn K (.ref (fa i)) = true
  at_ : ∀ i < 8, KDct K w DO (dm i) (.ref (fa i))
theorem RowAt.put {C : Addr} {H : Hp} {p l : Addr} {r : RD} {L : LS} {o : HO} (h : RowAt C H p r) (hl : LnAt 15 H l L) : RowAt C (upd H l o) p r := by
  obtain ⟨dx, t, d, h1, h2, h3⟩ := h
  refine ⟨dx, t, d, ?_, ?_, ?_⟩
  · rw [upd_ne (ne_of h1 hl (fun z => nomatch z))]
    exact h1
  · rw [upd_ne (ne_of h2 hl (fun z => nomatch z))]
    exact h2
  · rw [upd_ne (ne_of h3 hl (fun z => nomatch z))]
    exact h3
abbrev sRow : Stmt := top 58
abbrev sRows : Stmt := top 59
def GoodR (r : RD) : Prop := r.Ok ∧ (∀ z ∈ r.ws, progT z = true) ∧ ∀ z ∈ r.us, progD z = true
def spRow (C : Addr) : Sp := fun vs H Q _ => ∃ (l p : Addr) (L : LS) (r : RD), vs = [.ref l, .ref p] ∧ LnAt 15 H l L ∧ RowAt C H p r ∧ GoodR r ∧ Q .non (upd H l (lnO (rowL r L)))
def spRows (K : PySem.W.Frag) (C : Addr) : Sp := fun vs H Q _ => ∃ (t b l : Addr) (xs : List V) (rs : List RD) (bf : Option (Bool × Bool)) (L : LS), vs = [.ref t, .ref b, .ref l] ∧ SqT K H t xs ∧ RowsAt C H xs rs ∧ (∀ r ∈ rs, GoodR r) ∧ SqT K H b (bfV bf) ∧ LnAt 12 H l L ∧
  ∀ p H', Same H H' → LnAt 15 H' p (rowsL rs (behL L bf)) → Q (.ref p) H'
section
variable {P : Program} {w : World} {K : PySem.W.Frag} {mg : Str → Option Value} {base : Heap}
theorem scRow : FnScope ["lanes", "row", "where", "word", "deed"] ["lanes", "row"] (defScope sRow) := ⟨rfl, rfl, rfl, by decide +kernel, rfl, by decide +kernel, by decide +kernel⟩
theorem ok_row {f C DO : Addr} {fa : Nat → Addr} {fd : FuncData} (F : Fun K "do_row" "do_row" sRow f fd) (Z : RowC K C) (D : DoF P w K mg base DO fa) (gDO : mg "DOING" = some (.ref DO)) (DW : Has P w K mg base CX0 3 "where_done" ["lanes", "row"] (spDone C)) : FnOk P w K mg base CX0 4 f fd ["lanes", "row"] (spRow C) := by
  refine F.ok scRow (fun vs H Q E h => ?_) (fun cdv A outer s H vs Q E hr h => ?_)
  · obtain ⟨l, p, L, r, rfl, _⟩ := h
    rfl
  · obtain ⟨l, p, L, r, rfl, hl, hp, ⟨o, pt, pd⟩, k⟩ := h
    have hr1 := hr.mono (show 1 ≤ 3 by decide)
    refine ⟨_, (pss_cons (ps_set (i := 2) scRow.nd rfl (.inl rfl) (pe_callH DW hr (by rfl) pass0 (pa_cons (pv 0) (pa_cons (pv 1) pa_nil))))
    (pss_one (ps_for PassesOwn.never rfl (pi_tup (pe_fld (pv 1) rfl)) (pg_name (i := 3) scRow.nd rfl (.inl rfl))
      (pss_cons (ps_set (i := 4) scRow.nd rfl (.inl rfl) (pe_ix ix_kdict (pe_glob (v := .ref DO) (by rfl) gDO rfl) (pv 3) (fun _ _ => rfl)))
      (pss_one (ps_expr (pe_any fun i : Fin 8 => ItX.pe_callV (i := 4) (D.ok i.1 i.2) hr1 (D.kp i.1 i.2) pass0 rfl (.inl rfl) (pa_cons (pv 0) (pa_cons (pv 2) pa_nil))))))))), ?_⟩
    refine ⟨_, rfl, _, rfl, l, p, L, r, rfl, hl, hp, o, pt, ?_⟩
    obtain ⟨dx, t, d, h1, h2, h3⟩ := id hp
    have e0 : upd H l (lnO L) = H := upd_id hl
    refine ⟨_, rfl, p, C, dx, _, _, rfl, h1, Z.cl, Z.deeds, rfl, d, rfl, ⟨_, SqT.of h3⟩, for_tup (K := K) (xs := r.us.map V.str) (fun i σ G => ∃ (M : LS) (x3 x4 : Option V), σ = [some (.ref l), some (.ref p), some (.int (b2i (whereL L r.ws (L 11)))), x3, x4] ∧ G = upd H l (lnO M) ∧ deedsL (whereL L r.ws (L 11)) (r.us.drop i) M = rowL r L) ⟨L, _, _, rfl, e0.symm, rfl⟩ (fun i σ G _ z => by
      obtain ⟨M, _, _, _, z, _⟩ := z
      rw [z]
      have h4 : upd H l (lnO M) d = some (.tup (r.us.map V.str)) := by
        rw [upd_ne (ne_of h3 hl (fun z => nomatch z))]
        exact h3
      exact SqT.of h4) ?_ ?_⟩
    · rintro i x σ G hi ⟨M, x3, x4, rfl, rfl, e⟩
      obtain ⟨z, ez, rfl⟩ := str_at hi
      have hz := List.mem_of_getElem? ez
      have li := (List.getElem?_eq_some_iff.mp ez).1
      obtain ⟨n8, nz⟩ := deed_word z (progD_mem (pd z hz))
      have ka := D.at_ _ n8
      rw [nz] at ka
      refine ⟨_, rfl, DO, z, _, rfl, rfl, ka, ⟨deedN z, n8⟩, rfl, _, rfl, _, rfl, l, M, _, rfl, upd_same, ?_⟩
      rw [upd_upd]
      rw [List.drop_eq_getElem_cons li, (List.getElem?_eq_some_iff.mp ez).2] at e
      exact ⟨_, _, _, rfl, rfl, e⟩
    · rintro σ G ⟨M, x3, x4, rfl, rfl, e⟩
      rw [List.length_map, List.drop_length] at e
      have e : M = rowL r L := e
      subst e
      exact k
theorem scRows : FnScope ["rows", "before", "lanes", "now", "row"] ["rows", "before", "lanes"] (defScope sRows) := ⟨rfl, rfl, rfl, by decide +kernel, rfl, by decide +kernel, by decide +kernel⟩
theorem ok_rows {f C : Addr} {fd : FuncData} (F : Fun K "rows_done" "rows_done" sRows f fd) (DB : Has P w K mg base CX0 1 "put_behind" ["before", "lanes"] (spBeh K)) (DR : Has P w K mg base CX0 4 "do_row" ["lanes", "row"] (spRow C)) : FnOk P w K mg base CX0 5 f fd ["rows", "before", "lanes"] (spRows K C) := by
  refine F.ok scRows (fun vs H Q E h => ?_) (fun cdv A outer s H vs Q E hr h => ?_)
  · obtain ⟨t, b, l, xs, rs, bf, L, rfl, _⟩ := h
    rfl
  · obtain ⟨t, b, l, xs, rs, bf, L, rfl, ht, hx, gd, hb, hl, k⟩ := h
    have hr1 := hr.mono (show 1 ≤ 4 by decide)
    refine ⟨_, (pss_cons (ps_set (i := 3) scRows.nd rfl (.inl rfl) (pe_callH DB hr1 (by rfl) pass0 (pa_cons (pv 1) (pa_cons (pv 2) pa_nil))))
    (pss_cons (ps_for PassesOwn.never rfl (pi_tup (pv 0)) (pg_name (i := 4) scRows.nd rfl (.inl rfl))
      (pss_one (ps_expr (pe_callH DR hr (by rfl) pass0 (pa_cons (pv 3) (pa_cons (pv 4) pa_nil))))))
    (pss_one (ps_ret (pv 3))))), ?_⟩
    refine ⟨_, rfl, _, rfl, b, l, bf, L, rfl, hb, hl, fun p H1 s1 np hp => ?_⟩
    refine ⟨_, rfl, t, rfl, ⟨_, SqT.same s1 ht⟩, for_tup (K := K) (xs := xs) (fun i σ G => ∃ (M : LS) (x4 : Option V), σ = [some (.ref t), some (.ref b), some (.ref l), some (.ref p), x4] ∧ Same H G ∧ LnAt 15 G p M ∧ rowsL (rs.drop i) M = rowsL rs (behL L bf)) ⟨_, _, rfl, s1, hp, rfl⟩ (fun i σ G _ z => by
      obtain ⟨_, _, _, z, _⟩ := z
      exact SqT.same z ht) ?_ ?_⟩
    · rintro i x σ G hi ⟨M, x4, rfl, sG, hG, e⟩
      have li := (List.getElem?_eq_some_iff.mp hi).1
      rw [hx.1] at li
      obtain ⟨r, er⟩ : ∃ r, rs[i]? = some r := ⟨_, List.getElem?_eq_getElem li⟩
      obtain ⟨q, rfl, hq⟩ := hx.2.2 i x r hi er
      refine ⟨_, rfl, _, rfl, p, q, M, r, rfl, hG, hq.same sG, gd r (List.mem_of_getElem? er), ?_⟩
      rw [List.drop_eq_getElem_cons li, (List.getElem?_eq_some_iff.mp er).2] at e
      exact ⟨_, _, rfl, same_put sG np, upd_same, e⟩
    · rintro σ G ⟨M, x4, rfl, sG, hG, e⟩
      rw [hx.1, List.drop_length] at e
      have e : M = rowsL rs (behL L bf) := e
      subst e
      exact ⟨_, rfl, k p G sG hG⟩
end
end Lay
set_option Elab.async false
set_option linter.all false
set_option maxRecDepth 100000
set_option maxHeartbeats 8000000
set_option pp.maxSteps 900
namespace Lay
open PySem PySem.Spec PyProof.Rows L2
/-! the forms, as data -/
structure Fm where
  sz : Nat
  b : Bool
  m : Bool
  a : Bool
  h : Bool
  n : Nat
  l : Bool
  deriving DecidableEq
/-- sizes in the order of texts -/
def sizeS : Nat → Str
  | 0 => "even"
  | 1 => "just"
  | 2 => "over"
  | 3 => "tight"
  | _ => "wide"
def Fm.data (f : Fm) : PyData := .tuple [.str (sizeS f.sz), .bool f.b, .bool f.m, .bool f.a, .bool f.h, .int f.n, .bool f.l]
/-- what the law makes of one number -/
def codeForms (c : Nat) : List Fm :=
  ([2, 0, 4] ++ (if (c / 4 % 2 == 1 || c / 8 % 2 == 1) = true then [3, 1] else [])).map fun s => ⟨s, c % 2 == 1, c / 2 % 2 == 1, c / 4 % 2 == 1, c / 8 % 2 == 1, c / 32, c / 16 % 2 == 1⟩
def lawForms : List Fm := (List.range 96).flatMap codeForms
theorem law_len : lawForms.length = 432 := by decide +kernel
theorem law_ok : (lawForms.all fun f => decide (f.sz < 5) && decide (f.n < 3)) = true := by decide +kernel
theorem law_fm {f : Fm} (h : f ∈ lawForms) : f.sz < 5 ∧ f.n < 3 := by
  have := law_ok
  rw [List.all_eq_true] at this
  have := this f h
  rw [Bool.and_eq_true] at this
  exact ⟨of_decide_eq_true this.1, of_decide_eq_true this.2⟩
end Lay
set_option Elab.async false
set_option linter.all false
set_option maxRecDepth 100000
set_option maxHeartbeats 4000000
set_option pp.maxSteps 1500
namespace Lay
open PySem PySem.Spec PyProof.Rows L2 KwX
/-! forms of pieces, as the package tells them -/
def remS (d : PD) : Str := if d.behind.length = 0 then d.ahead else d.behind
def gapN (d : PD) : Int := if (remS d).length = 0 then 0 else 4 + ((remS d).length : Int)
def szOf (d : PD) (w : Int) : Nat := if w - bareN d < 0 then 2 else if w - bareN d = 0 then 0 else if w - bareN d = gapN d then 1 else if w - bareN d < gapN d then 3 else 4
def hasS (z : Str) : Bool := !decide (z.length = 0)
def fmOf (d : PD) (w : Int) : Fm := ⟨szOf d w, d.broken, d.marked, hasS d.ahead, hasS d.behind, d.blanks.toNat, d.left⟩
def shapeL (d : PD) : List V := [.bl d.broken, .bl d.marked, .bl (hasS d.ahead), .bl (hasS d.behind), .int d.blanks, .bl d.left]
abbrev sGap : Stmt := top 38
abbrev sShape : Stmt := top 39
abbrev sSize : Stmt := top 67
abbrev sForm : Stmt := top 68
def spGap (K : PySem.W.Frag) (C : Addr) : Sp := fun vs H Q _ => ∃ (p : Addr) (d : PD), vs = [.ref p] ∧ PieceAt K C H p d ∧ d.Ok ∧ Q (.int (gapN d)) H
def spShape (K : PySem.W.Frag) (C : Addr) : Sp := fun vs H Q _ => ∃ (p : Addr) (d : PD), vs = [.ref p] ∧ PieceAt K C H p d ∧ d.Ok ∧ ∀ t, H t = none → Q (.ref t) (upd H t (.tup (shapeL d)))
def spSize (K : PySem.W.Frag) (C : Addr) : Sp := fun vs H Q _ => ∃ (p : Addr) (d : PD) (w : Int), vs = [.ref p, .int w] ∧ PieceAt K C H p d ∧ d.Ok ∧ d.parts.length ≤ 30 ∧ Q (.str (sizeS (szOf d w))) H
def spForm (K : PySem.W.Frag) (C : Addr) : Sp := fun vs H Q _ => ∃ (p : Addr) (d : PD) (w : Int), vs = [.ref p, .int w] ∧ PieceAt K C H p d ∧ d.Ok ∧ d.parts.length ≤ 30 ∧ ∀ t H', Same H H' → Dp K H' (.ref t) (fmOf d w).data → Q (.ref t) H'
theorem szOf_lt (d : PD) (w : Int) : szOf d w < 5 := by
  unfold szOf
  repeat' split
  all_goals omega
theorem ne_emp {z : Str} : (!decide (V.str z = V.str "")) = hasS z := by
  unfold hasS
  rw [str_ne]
theorem data_of {K : PySem.W.Frag} {H : Hp} {d : PD} {t : Addr} {w : Int} (o : d.Ok) (h : H t = some (.tup (.str (sizeS (szOf d w)) :: shapeL d))) : Dp K H (.ref t) (fmOf d w).data := by
  have e : ((d.blanks.toNat : Nat) : Int) = d.blanks := Int.toNat_of_nonneg o.b0
  refine .tup (SqT.of h) ?_
  show DpAll K H _ [.str (sizeS (szOf d w)), .bool d.broken, .bool d.marked, .bool (hasS d.ahead), .bool (hasS d.behind), .int ((d.blanks.toNat : Nat) : Int), .bool d.left]
  rw [e]
  exact .cons (.str _) (.cons (.bl _) (.cons (.bl _) (.cons (.bl _) (.cons (.bl _) (.cons (.int _) (.cons (.bl _) .nil))))))
section
variable {P : Program} {w : World} {K : PySem.W.Frag} {mg : Str → Option Value} {base : Heap}
theorem scGap : FnScope ["piece", "remark"] ["piece"] (defScope sGap) := ⟨rfl, rfl, rfl, by decide +kernel, rfl, by decide +kernel, by decide +kernel⟩
theorem ok_gap {f C : Addr} {fd : FuncData} {u4 : Nat} (F : Fun K "gap_of" "gap_of" sGap f fd) (B : Bt mg) (Z : PieceC K C) (gS : mg "SIGN_LENGTH" = some (.int 4 u4)) : FnOk P w K mg base CX0 1 f fd ["piece"] (spGap K C) := by
  refine F.ok scGap (fun vs H Q E h => ?_) (fun cdv A outer s H vs Q E hr h => ?_)
  · obtain ⟨p, d, rfl, _⟩ := h
    rfl
  · obtain ⟨p, d, rfl, hP, o, k⟩ := h
    refine ⟨_, (C8.pss_cut (ps_set (i := 1) scGap.nd rfl (.inl rfl) (pe_orT (pe_fld (pv 0) rfl) (pe_one (pe_fld (pv 0) rfl))))
      (pss_one (ps_ret (pe_ifExp (pt_truth (pv 1) (fun _ => rfl)) (pe_op op_add (pe_glob (v := .int 4) (by rfl) gS ⟨_, rfl⟩) (pe_callB call_len_str (by rfl) B.len PySem.boot_len (pa_cons (pv 1) pa_nil))) pe_int)))), ?_⟩
    obtain ⟨dx, t, hp, ht⟩ := id hP
    have lb := remarkB_len o.behind
    have la := remarkB_len o.ahead
    refine ⟨fun σ G => σ = [some (.ref p), some (.str (remS d))] ∧ G = H, ?_, ?_⟩
    · refine ⟨_, rfl, p, C, dx, _, _, rfl, hp, Z.cl, Z.behind, rfl, _, ⟨Lay.fitsN (by omega), rfl⟩, ?_⟩
      by_cases e : d.behind.length = 0
      · rw [if_neg (by simp [e])]
        refine ⟨_, rfl, p, C, dx, _, _, rfl, hp, Z.cl, Z.ahead, rfl, ?_, rfl⟩
        unfold remS
        rw [if_pos e]
        rfl
      · rw [if_pos (by simp; omega)]
        refine ⟨?_, rfl⟩
        unfold remS
        rw [if_neg e]
        rfl
    rintro σ G ⟨rfl, rfl⟩
    have lr : (remS d).length ≤ 6 := by
      unfold remS
      split
      · exact la
      · exact lb
    refine ⟨_, rfl, _, ⟨Lay.fitsN (by omega), rfl⟩, ?_⟩
    unfold gapN at k
    by_cases e : (remS d).length = 0
    · rw [if_pos e] at k
      exact iteN (by simp [e]) k
    · rw [if_neg e] at k
      refine iteY (by simp; omega) ⟨_, rfl, _, rfl, Lay.fitsN (by omega), _, _, rfl, rfl, k⟩
theorem scShape : FnScope ["piece"] ["piece"] (defScope sShape) := ⟨rfl, rfl, rfl, by decide +kernel, rfl, by decide +kernel, by decide +kernel⟩
theorem ok_shape {f C : Addr} {fd : FuncData} (F : Fun K "shape_of" "shape_of" sShape f fd) (Z : PieceC K C) : FnOk P w K mg base CX0 1 f fd ["piece"] (spShape K C) := by
  refine F.ok scShape (fun vs H Q E h => ?_) (fun cdv A outer s H vs Q E hr h => ?_)
  · obtain ⟨p, d, rfl, _⟩ := h
    rfl
  · obtain ⟨p, d, rfl, hP, o, k⟩ := h
    refine ⟨_, pss_one (ps_ret (pe_tup (pa_cons (pe_fld (pv 0) rfl) (pa_cons (pe_fld (pv 0) rfl) (pa_cons (pe_cmpR op_ne (pe_fld (pv 0) rfl) pe_str (nomark _)) (pa_cons (pe_cmpR op_ne (pe_fld (pv 0) rfl) pe_str (nomark _)) (pa_cons (pe_fld (pv 0) rfl) (pa_cons (pe_fld (pv 0) rfl) pa_nil)))))))), ?_⟩
    obtain ⟨dx, t, hp, ht⟩ := id hP
    refine ⟨_, rfl, p, C, dx, _, _, rfl, hp, Z.cl, Z.broken, rfl, _, rfl, p, C, dx, _, _, rfl, hp, Z.cl, Z.marked, rfl, _, rfl, p, C, dx, _, _, rfl, hp, Z.cl, Z.ahead, rfl, rfl, _, rfl, p, C, dx, _, _, rfl, hp, Z.cl, Z.behind, rfl, rfl, _, rfl, p, C, dx, _, _, rfl, hp, Z.cl, Z.blanks, rfl, _, rfl, p, C, dx, _, _, rfl, hp, Z.cl, Z.left, rfl, (by show 6 ≤ sizeLine; decide), fun t2 nt => ?_⟩
    rw [ne_emp, ne_emp]
    exact k t2 nt
end
end Lay
set_option Elab.async false
set_option linter.all false
set_option maxRecDepth 100000
set_option maxHeartbeats 4000000
set_option pp.maxSteps 1500
namespace Lay
open PySem PySem.Spec PyProof.Rows L2 KwX StX
/-- the bare length as a property of the class -/
def BareP (P : Program) (w : World) (K : PySem.W.Frag) (mg : Str → Option Value) (base : Heap) (C : Addr) : Prop := ∃ p g fd, PropOf K C "bare" p g ∧ FnOk P w K mg base CX0 2 g fd ["self"] (spBare K C) ∧ Binds K fd ["self"] []
theorem pe_bareP {X : Cx} {C : Addr} {e : Expr} {ta : TE} {pos : Pos} (c : Cls X.K C) (T : BareP X.prog X.w X.K X.mg X.base C) (hr : Room 3 X.A) (he : PE X e ta) (hab : attributeBase e "bare" X.env (eval e X.env) = eval e X.env) : PE X (.Attribute e "bare" pos) (tProp C (spBare X.K C) [] E0 ta) := by
  obtain ⟨p, g, fd, hp, ok, b⟩ := T
  exact pe_prop (E := E0) he c hp ok hr b .nil pass0 hab
section
variable {P : Program} {w : World} {K : PySem.W.Frag} {mg : Str → Option Value} {base : Heap}
end
end Lay
set_option Elab.async false
set_option linter.all false
set_option maxRecDepth 100000
set_option maxHeartbeats 400000
set_option pp.maxSteps 900
namespace Lay
open PySem PySem.Spec PyProof.Rows L2 KwX StX
/-! ### a form laid out -/
def blanksN (L : LS) : Int := if L 6 = true then 2 else if L 5 = true then 1 else 0
def shapeV (L : LS) : List V := [.bl (L 0), .bl (L 1), .bl (L 3), .bl (L 4), .int (blanksN L), .bl (L 2)]
theorem bit_one (a : Bool) : decide (V.int (b2i (a && true)) = V.int 1) = a := by cases a <;> rfl
abbrev sShapeIn : Stmt := top 44
def spShapeIn : Sp := fun vs H Q _ => ∃ (l : Addr) (L : LS), vs = [.ref l] ∧ LnAt 15 H l L ∧ ∀ p H', Same H H' → H' p = some (.tup (shapeV L)) → Q (.ref p) H'
section
variable {P : Program} {w : World} {K : PySem.W.Frag} {mg : Str → Option Value} {base : Heap}
def shN : List Str := ["lanes", "told", "blanks", "word", "number"]
theorem scShapeIn : FnScope shN ["lanes"] (defScope sShapeIn) := ⟨rfl, rfl, rfl, by decide +kernel, rfl, by decide +kernel, by decide +kernel⟩
theorem ok_shapeIn {f : Addr} {fd : FuncData} (F : Fun K "shape_in" "shape_in" sShapeIn f fd) (B : Bt mg) : FnOk P w K mg base CX0 1 f fd ["lanes"] spShapeIn := by
  refine F.ok scShapeIn (fun vs H Q E h => ?_) (fun cdv A outer s H vs Q E hr h => ?_)
  · obtain ⟨l, L, rfl, _⟩ := h
    rfl
  · obtain ⟨l, L, rfl, hl, k⟩ := h
    have hu := hu_of hr
    refine ⟨_, (C8.pss_cut (ps_lock (ps_setDc (i := 1) (own := [("word", 3), ("number", 4)]) (g := gTup K 2 (gCons (gName 3) (gCons (gName 4) gNil))) (tt := tYes) rfl scShapeIn.nd rfl rfl (sw_trueD rfl rfl rfl (by decide +kernel)) (pi_items (pv 0)) (blkOk_by (N := shN) (sc := defScope sShapeIn) (by decide +kernel)) (fun _ _ _ _ _ => pg_tup rfl (pgs_cons (pg_name (i := 3) scShapeIn.nd rfl (Or.inl rfl)) (pgs_cons (pg_name (i := 4) scShapeIn.nd rfl (Or.inl rfl)) pgs_nil))) (fun _ _ _ _ _ => pts_nil) (fun _ _ _ _ _ => pv 3)
        (fun _ _ _ _ _ => pe_cmpR op_eq (pe_op op_andB (pv 4) pe_int) pe_int (nomark _))))
    (C8.pss_cut (ps_set (i := 2) scShapeIn.nd rfl (.inl rfl) (pe_ifExp (pt_val (pe_dget hu (pv 1) pe_str (fun _ _ => rfl))) pe_int (pe_callTy call_int1 (by rfl) B.int (by decide +kernel) (pa_cons (pe_dget hu (pv 1) pe_str (fun _ _ => rfl)) pa_nil))))
    (pss_one (ps_ret (pe_tup (pa_cons (pe_dget hu (pv 1) pe_str (fun _ _ => rfl)) (pa_cons (pe_dget hu (pv 1) pe_str (fun _ _ => rfl)) (pa_cons (pe_dget hu (pv 1) pe_str (fun _ _ => rfl)) (pa_cons (pe_dget hu (pv 1) pe_str (fun _ _ => rfl)) (pa_cons (pv 2) (pa_cons (pe_dget hu (pv 1) pe_str (fun _ _ => rfl)) pa_nil))))))))))), ?_⟩
    refine ⟨fun σ G => ∃ D, σ = [some (.ref l), some (.ref D), none, none, none] ∧ Same H G ∧ G D = some (.dK (kvN V.bl 15 L)), ?_, ?_⟩
    · refine ⟨l, _, hl, trivial, fun od => ?_⟩
      have k0 : ButF l H (upd H l (.frz od (lnO L))) := fun c o n e => by rw [upd_ne n]; exact e
      have z0 : upd H l (.frz od (lnO L)) l = some (.frz od (lnO L)) := upd_same
      have n0 : ∀ D, upd H l (.frz od (lnO L)) D = none → H D = none := fun D e => by
        by_cases q : D = l
        · rw [q, z0] at e
          cases e
        · rw [upd_ne q] at e
          exact e
      change tAsg _ _ _ _ (upd H l (.frz od (lnO L)))
      generalize upd H l (.frz od (lnO L)) = G0 at k0 z0 n0 ⊢
      refine ⟨_, rfl, l, od, _, rfl, z0, fun D nD => dc_it walk_items (fun i G => ButF l H G ∧ G l = some (.frz od (lnO L)) ∧ G D = some (.dK (kvN V.bl i L))) ⟨k0.same (Same.new nD), Same.new nD _ _ z0, upd_same⟩ (fun i G _ p => p.2.1) ?_ ?_⟩
      · rintro i x G G' hi ⟨k1, z1, hD⟩ ⟨T, x, y, rfl, nT, rfl, e1, e2⟩
        have hi : i < 15 := hi
        dsimp only at e1 e2
        rw [kv_at hi] at e1 e2
        cases e1
        cases e2
        have s1 := Same.new nT (o := .tup [kV (.inr (nm i)), .int (b2i (L i))])
        refine ⟨T, _, rfl, SqT.of upd_same, rfl, _, _, rfl, _, _, rfl, rfl, rfl, _, rfl, _, rfl, _, true, rfl, rfl, rfl, ?_⟩
        rw [bit_one]
        refine ⟨_, .inr (nm i), rfl, s1 _ _ hD, by rw [kv_len, sizeLine_eq]; omega, ?_, ?_, ?_⟩
        · exact (k1.same s1).put (n0 D nD)
        · rw [upd_ne (ne_of_none z0 nD)]
          exact s1 _ _ z1
        · rw [upd_same, put_new (g := V.bl) hi]
      · rintro G ⟨k1, z1, hD⟩
        refine ⟨z1, D, rfl, k1.unlock hl, ?_⟩
        rw [upd_ne (Ne.symm (ne_of_none z0 nD))]
        exact hD
    rintro σ G ⟨D, rfl, s1, hD⟩
    have g : ∀ i, i < 15 → DGet G D (.str (nm i)) (some (.bl (L i))) := fun i hi => by
      have q := DGet.k (k := .inr (nm i)) hD
      rw [val_kv hi (by decide)] at q
      exact q
    refine ⟨fun σ G' => σ = [some (.ref l), some (.ref D), some (.int (blanksN L)), none, none] ∧ G' = G, ?_, ?_⟩
    · refine ⟨_, rfl, D, _, rfl, g 6 (by decide), _, rfl, ?_⟩
      unfold blanksN
      refine ite2 (fun e => ?_) (fun e => ?_)
      · rw [if_pos e]
        exact ⟨rfl, rfl⟩
      · rw [if_neg e]
        exact ⟨_, rfl, D, _, rfl, g 5 (by decide), .inr ⟨_, rfl, rfl, rfl⟩⟩
    rintro σ G' ⟨rfl, rfl⟩
    refine ⟨_, rfl, D, _, rfl, g 0 (by decide), _, rfl, D, _, rfl, g 1 (by decide), _, rfl, D, _, rfl, g 3 (by decide), _, rfl, D, _, rfl, g 4 (by decide), _, rfl, _, rfl, D, _, rfl, g 2 (by decide), (by show 6 ≤ sizeLine; decide), fun t nt => ?_⟩
    exact k t _ (s1.trans (Same.new nt)) upd_same
end
end Lay
set_option Elab.async false
set_option linter.all false
set_option maxRecDepth 100000
set_option maxHeartbeats 800000
set_option pp.maxSteps 900
namespace Lay
open PySem PySem.Spec PyProof.Rows L2 KwX StX
/-! ### a piece laid out -/
abbrev sFP : Stmt := top 41
abbrev sLayP : Stmt := top 60
abbrev sAhead : Stmt := top 61
def fcP (d : PD) (w : Int) : LS := fcL d.broken d.marked d.left (hasS d.ahead) (hasS d.behind) d.blanks (decide (w - bareN d < 0)) (decide (w - bareN d < 1)) (decide (w - bareN d < gapN d)) (decide (w - bareN d < gapN d + 1))
def orS (a b : Str) : Str := if a.length = 0 then b else a
/-- lanes of a piece when all is done -/
def layLP (rs : List RD) (bf : Option (Bool × Bool)) (d : PD) (w : Int) : LS := rowsL rs (behL (setL (fcP d w) 11 true) bf)
def putP (L : LS) (d : PD) : PD := ⟨d.word, d.parts, L 0, L 1, if L 3 = true then orS d.ahead d.behind else "", if L 4 = true then orS d.behind d.ahead else "", blanksN L, d.left⟩
def layP (rs : List RD) (bf : Option (Bool × Bool)) (w : Int) (d : PD) : PD := putP (layLP rs bf d w) d
theorem orS_rem {a b : Str} (h : remarkB a = true) (g : remarkB b = true) : remarkB (orS a b) = true := by
  unfold orS
  split
  · exact g
  · exact h
theorem blanksN_ok (L : LS) : 0 ≤ blanksN L ∧ blanksN L < 3 := by
  unfold blanksN
  split
  · decide
  · split <;> decide
theorem putP_ok {L : LS} {d : PD} (o : d.Ok) : (putP L d).Ok := by
  have e0 : remarkB "" = true := by decide +kernel
  refine ⟨o.word, o.some, o.few, o.parts, ?_, ?_, (blanksN_ok L).1, (blanksN_ok L).2⟩
  · show remarkB (if L 3 = true then orS d.ahead d.behind else "") = true
    split
    · exact orS_rem o.ahead o.behind
    · exact e0
  · show remarkB (if L 4 = true then orS d.behind d.ahead else "") = true
    split
    · exact orS_rem o.behind o.ahead
    · exact e0
def ksL : List Str := ["broken", "marked", "ahead", "behind", "blanks"]
def spFP (K : PySem.W.Frag) (C : Addr) : Sp := fun vs H Q _ => ∃ (p : Addr) (d : PD) (w : Int), vs = [.ref p, .int w] ∧ PieceAt K C H p d ∧ d.Ok ∧ d.parts.length ≤ 30 ∧ ∀ q H', Same H H' → FcAt H' q (fcP d w) → Q (.ref q) H'
def spAhead (K : PySem.W.Frag) (C : Addr) : Sp := fun vs H Q _ => ∃ (p : Addr) (d : PD), vs = [.ref p] ∧ PieceAt K C H p d ∧ ∀ t, H t = none → Q (.ref t) (upd H t (.tup [.bl d.broken, .bl (hasS d.behind)]))
def spLayP (K : PySem.W.Frag) (CR C : Addr) : Sp := fun vs H Q _ => ∃ (R t p : Addr) (w : Int) (xs : List V) (rs : List RD) (bf : Option (Bool × Bool)) (d : PD), vs = [.ref R, .int w, .ref t, .ref p] ∧ SqT K H R xs ∧ RowsAt CR H xs rs ∧ (∀ r ∈ rs, GoodR r) ∧ SqT K H t (bfV bf) ∧ PieceAt K C H p d ∧ d.Ok ∧ d.parts.length ≤ 30 ∧
  ∀ y H', Same H H' → H y = none → PieceAt K C H' y (layP rs bf w d) → Q (.ref y) H'
/-- piece.f1 or piece.f2 if flag else '' -/
theorem tIf_or {K : PySem.W.Frag} {σ : L2.St} {H : Hp} {Q : VK} {fl pc : Nat} {p C dx : Addr} {fs : List (Str × V)} {c : Bool} {f1 f2 z1 z2 : Str} (hfl : σ[fl]? = some (some (.bl c))) (hpc : σ[pc]? = some (some (.ref p))) (hp : H p = some (.ins C dx fs)) (cl : Cls K C) (n1 : NoAttr K C f1) (n2 : NoAttr K C f2)
    (l1 : fs.lookup f1 = some (.str z1)) (l2 : fs.lookup f2 = some (.str z2)) (few : z1.length ≤ 6) (k : Q (.str (if c = true then orS z1 z2 else "")) H) : tIf (tB (tVar fl)) (tOrT K (tFld K (tVar pc) f1) (tFld K (tVar pc) f2)) (tC (.str "")) σ H Q := by
  refine ⟨_, hfl, c, rfl, ?_⟩
  cases c with
  | false => exact iteN rfl k
  | true =>
    refine iteY rfl ⟨_, hpc, p, C, dx, _, _, rfl, hp, cl, n1, l1, _, ⟨Lay.fitsN (by omega), rfl⟩, ?_⟩
    unfold orS at k
    by_cases e : z1.length = 0
    · rw [if_pos rfl, if_pos e] at k
      rw [if_neg (by simp [e])]
      exact ⟨_, hpc, p, C, dx, _, _, rfl, hp, cl, n2, l2, k⟩
    · rw [if_pos rfl, if_neg e] at k
      rw [if_pos (by simp; omega)]
      exact k
section
variable {P : Program} {w : World} {K : PySem.W.Frag} {mg : Str → Option Value} {base : Heap}
theorem scFP : FnScope ["piece", "width", "spare", "gap"] ["piece", "width"] (defScope sFP) := ⟨rfl, rfl, rfl, by decide +kernel, rfl, by decide +kernel, by decide +kernel⟩
theorem ok_fp {f C : Addr} {fd : FuncData} (F : Fun K "facts_of_piece" "facts_of_piece" sFP f fd) (Z : PieceC K C) (T : BareP P w K mg base C) (G : Has P w K mg base CX0 1 "gap_of" ["piece"] (spGap K C)) (GS : Has P w K mg base CX0 1 "shape_of" ["piece"] (spShape K C)) (DF : Has P w K mg base CX0 1 "facts_of" factsP (spFacts K)) : FnOk P w K mg base CX0 4 f fd ["piece", "width"] (spFP K C) := by
  refine F.ok scFP (fun vs H Q E h => ?_) (fun cdv A outer s H vs Q E hr h => ?_)
  · obtain ⟨p, d, w0, rfl, _⟩ := h
    rfl
  · obtain ⟨p, d, w0, rfl, hP, o, few, k⟩ := h
    have hr1 := hr.mono (show 1 ≤ 3 by decide)
    refine ⟨_, (pss_cons (ps_set (i := 2) scFP.nd rfl (.inl rfl) (pe_op op_sub (pv 1) (pe_bareP Z.cl T hr (pv 0) rfl)))
    (pss_cons (ps_set (i := 3) scFP.nd rfl (.inl rfl) (pe_callH G hr1 (by rfl) pass0 (pa_cons (pv 0) pa_nil)))
    (pss_one (ps_ret (pe_callH DF hr1 (by rfl) pass0 (pa_cons (pe_callH GS hr1 (by rfl) pass0 (pa_cons (pv 0) pa_nil)) (pa_cons (pe_cmpR op_lt (pv 2) pe_int (nomark _)) (pa_cons (pe_cmpR op_lt (pv 2) pe_int (nomark _)) (pa_cons (pe_cmpR op_lt (pv 2) (pv 3) (nomark _)) (pa_cons (pe_cmpR op_lt (pv 2) (pe_op op_add (pv 3) pe_int) (nomark _)) pa_nil)))))))))), ?_⟩
    obtain ⟨dx, t, hp, ht⟩ := id hP
    refine ⟨_, rfl, _, rfl, p, dx, _, rfl, hp, p, d, rfl, hP, o, few, _, _, rfl, rfl, ?_⟩
    refine ⟨_, rfl, p, d, rfl, hP, o, ?_⟩
    refine ⟨_, rfl, p, d, rfl, hP, o, fun t2 n2 => ?_⟩
    refine ⟨_, rfl, _, _, rfl, rfl, _, rfl, _, _, rfl, rfl, _, rfl, _, rfl, _, _, rfl, rfl, _, rfl, _, rfl, _, _, rfl, rfl, _, _, rfl, rfl, ?_⟩
    exact ⟨t2, d.broken, d.marked, hasS d.ahead, hasS d.behind, d.left, _, _, _, _, d.blanks, rfl, SqT.of upd_same, fun q H' s' hq => k q H' ((Same.new n2).trans s') hq⟩
theorem scAhead : FnScope ["piece"] ["piece"] (defScope sAhead) := ⟨rfl, rfl, rfl, by decide +kernel, rfl, by decide +kernel, by decide +kernel⟩
theorem ok_ahead {f C : Addr} {fd : FuncData} (F : Fun K "stands_ahead" "stands_ahead" sAhead f fd) (Z : PieceC K C) : FnOk P w K mg base CX0 1 f fd ["piece"] (spAhead K C) := by
  refine F.ok scAhead (fun vs H Q E h => ?_) (fun cdv A outer s H vs Q E hr h => ?_)
  · obtain ⟨p, d, rfl, _⟩ := h
    rfl
  · obtain ⟨p, d, rfl, ⟨dx, t, hp, ht⟩, k⟩ := h
    refine ⟨_, (pss_one (ps_ret (pe_tup (pa_cons (pe_fld (pv 0) rfl) (pa_cons (pe_cmpR op_ne (pe_fld (pv 0) rfl) pe_str (nomark _)) pa_nil))))), ?_⟩
    refine ⟨_, rfl, p, C, dx, _, _, rfl, hp, Z.cl, Z.broken, rfl, _, rfl, p, C, dx, _, _, rfl, hp, Z.cl, Z.behind, rfl, rfl, (by show 2 ≤ sizeLine; decide), fun t2 nt => ?_⟩
    rw [ne_emp]
    exact k t2 nt
def layN : List Str := ["rows", "width", "before", "piece", "lanes", "broken", "marked", "ahead", "behind", "blanks", "_"]
abbrev layPs : List Str := ["rows", "width", "before", "piece"]
theorem scLayP : FnScope layN layPs (defScope sLayP) := ⟨rfl, rfl, rfl, by decide +kernel, rfl, by decide +kernel, by decide +kernel⟩
theorem ok_layP {f C CR fU : Addr} {fd : FuncData} (F : Fun K "lay_piece" "lay_piece" sLayP f fd) (Z : PieceC K C) (DFP : Has P w K mg base CX0 4 "facts_of_piece" ["piece", "width"] (spFP K C)) (DL : Has P w K mg base CX0 2 "lanes_of" ["many"] (spLanes K)) (DR : Has P w K mg base CX0 5 "rows_done" ["rows", "before", "lanes"] (spRows K CR)) (DS : Has P w K mg base CX0 1 "shape_in" ["lanes"] spShapeIn)
    (hU : Meth K C "but" fU) (FU : FnRK P w K mg base CX0 5 fU ksL (spButN K C ksL)) : FnOk P w K mg base CX0 6 f fd layPs (spLayP K CR C) := by
  refine F.ok scLayP (fun vs H Q E h => ?_) (fun cdv A outer s H vs Q E hr h => ?_)
  · obtain ⟨R, t, p, w0, xs, rs, bf, d, rfl, _⟩ := h
    rfl
  · obtain ⟨R, t, p, w0, xs, rs, bf, d, rfl, hR, hx, gd, ht, hP, o, few, k⟩ := h
    have hr1 := hr.mono (show 1 ≤ 5 by decide)
    have hr2 := hr.mono (show 2 ≤ 5 by decide)
    have hr4 := hr.mono (show 4 ≤ 5 by decide)
    refine ⟨_, (pss_cons (ps_set (i := 4) scLayP.nd rfl (.inl rfl) (pe_callH DR hr (by rfl) pass0 (pa_cons (pv 0) (pa_cons (pv 2) (pa_cons (pe_callH DL hr2 (by rfl) pass0 (pa_cons (pe_lst (pa_cons (pe_callH DFP hr4 (by rfl) pass0 (pa_cons (pv 3) (pa_cons (pv 1) pa_nil))) pa_nil)) pa_nil)) pa_nil)))))
    (pss_cons (ps_asg (pe_callH DS hr1 (by rfl) pass0 (pa_cons (pv 4) pa_nil)) (pg_tup rfl (pgs_cons (pg_name (i := 5) scLayP.nd rfl (.inl rfl)) (pgs_cons (pg_name (i := 6) scLayP.nd rfl (.inl rfl)) (pgs_cons (pg_name (i := 7) scLayP.nd rfl (.inl rfl)) (pgs_cons (pg_name (i := 8) scLayP.nd rfl (.inl rfl)) (pgs_cons (pg_name (i := 9) scLayP.nd rfl (.inl rfl)) (pgs_cons (pg_name (i := 10) scLayP.nd rfl (.inl rfl)) pgs_nil))))))))
    (pss_one (ps_ret (pe_methKw (E := E0) (pv 3) Z.cl hU FU hr pass0 (pk_cons (pv 5) (pk_cons (pv 6) (pk_cons (pe_ifExp (pt_val (pv 7)) (pe_orT (pe_fld (pv 3) rfl) (pe_one (pe_fld (pv 3) rfl))) pe_str) (pk_cons (pe_ifExp (pt_val (pv 8)) (pe_orT (pe_fld (pv 3) rfl) (pe_one (pe_fld (pv 3) rfl))) pe_str) (pk_cons (pv 9) pk_nil)))))))))), ?_⟩
    refine ⟨_, rfl, _, rfl, _, rfl, _, rfl, p, d, w0, rfl, hP, o, few, fun p1 H1 s1 h1 => ⟨(by show 1 ≤ sizeLine; decide), fun m nm => ?_⟩⟩
    have s2 := Same.new nm (o := .lst [.ref p1])
    refine ⟨m, p1, _, rfl, upd_same, s2 _ _ h1, fun l H3 s3 h3 => ?_⟩
    have s13 := (s1.trans s2).trans s3
    refine ⟨R, t, l, xs, rs, bf, _, rfl, SqT.same s13 hR, hx.same s13, gd, SqT.same s13 ht, h3, fun l2 H4 s4 h4 => ?_⟩
    have s14 := s13.trans s4
    refine ⟨_, rfl, l2, _, rfl, h4, fun p5 H5 s5 h5 => ?_⟩
    have s15 := s14.trans s5
    change LnAt 15 H4 l2 (layLP rs bf d w0) at h4
    change H5 p5 = some (.tup (shapeV (layLP rs bf d w0))) at h5
    generalize hL : layLP rs bf d w0 = L at h4 h5
    refine ⟨p5, _, rfl, SqT.of h5, rfl, _, _, rfl, _, _, rfl, _, _, rfl, _, _, rfl, _, _, rfl, _, _, rfl, rfl, ?_⟩
    obtain ⟨dx, tt, hp, htt⟩ := id hP
    have hp5 := s15 _ _ hp
    refine ⟨_, rfl, p, dx, _, rfl, hp5, rfl, _, rfl, _, rfl, ?_⟩
    refine tIf_or rfl rfl hp5 Z.cl Z.ahead Z.behind rfl rfl (remarkB_len o.ahead) ?_
    refine tIf_or rfl rfl hp5 Z.cl Z.behind Z.ahead rfl rfl (remarkB_len o.behind) ?_
    refine ⟨_, rfl, rfl, rfl, fun u nu => ?_⟩
    have s6 := Same.new nu (o := .dK (kvK ksL [.bl (L 0), .bl (L 1), .str (if L 3 = true then orS d.ahead d.behind else ""), .str (if L 4 = true then orS d.behind d.ahead else ""), .int (blanksN L)]))
    refine ⟨p, u, tt, dx, tt, d, putP L d, _, rfl, s6 _ _ hp5, upd_same, by decide, rfl, rfl, putP_ok o, .inr (s6 _ _ (s15 _ _ htt)), fun y H7 s7 n7 h7 => ?_⟩
    refine k y H7 ((s15.trans s6).trans s7) ((s15.trans s6).free n7) ?_
    unfold layP
    rw [hL]
    exact h7
end
end Lay
set_option Elab.async false
set_option linter.all false
set_option maxRecDepth 100000
set_option maxHeartbeats 800000
set_option pp.maxSteps 900
namespace Lay
open PySem PySem.Spec PyProof.Rows L2 KwX StX
/-! ### a program is run -/
abbrev sRun : Stmt := top 65
def TlAt (K : PySem.W.Frag) (C CT : Addr) (H : Hp) (p : Addr) (rs : List RD) (s : Bool) : Prop := ∃ dx t xs, H p = some (.ins CT dx (toolF t (.bl s))) ∧ TupG K H t xs ∧ RowsAt C H xs rs
theorem TlAt.same {K : PySem.W.Frag} {C CT : Addr} {H H' : Hp} {p : Addr} {rs : List RD} {s : Bool} (e : Same H H') (h : TlAt K C CT H p rs s) : TlAt K C CT H' p rs s := by
  obtain ⟨dx, t, xs, h1, h2, h3⟩ := h
  exact ⟨dx, t, xs, e _ _ h1, h2.same e, h3.same e⟩
/-- what stands before the next piece -/
def bfP (d : PD) : Option (Bool × Bool) := some (d.broken, hasS d.behind)
def runL (rs : List RD) (w : Int) : List PD → Option (Bool × Bool) → List PD
  | [], _ => []
  | d :: ds, bf => layP rs bf w d :: runL rs w ds (bfP (layP rs bf w d))
theorem runL_len {rs : List RD} {w : Int} : ∀ {ds : List PD} {bf : Option (Bool × Bool)}, (runL rs w ds bf).length = ds.length
  | [], _ => rfl
  | d :: ds, bf => congrArg (· + 1) (runL_len (ds := ds))
theorem pe_no {X : Cx} {e : Expr} : PE X e (fun _ _ _ => False) := ⟨fun _ _ _ _ _ _ h => h.elim⟩
theorem ne_lst {H : Hp} {l p : Addr} {ys : List V} {o : HO} (hl : H l = some (.lst ys)) (hp : H p = some o) (n : o ≠ .lst ys) : p ≠ l := fun z => by
  rw [z, hl] at hp
  exact n (Option.some.inj hp).symm
theorem PieceAt.put {K : PySem.W.Frag} {C p l : Addr} {H : Hp} {d : PD} {ys : List V} {o : HO} (hl : H l = some (.lst ys)) (h : PieceAt K C H p d) : PieceAt K C (upd H l o) p d := by
  obtain ⟨dx, t, h1, h2⟩ := h
  refine ⟨dx, t, ?_, ?_⟩
  · rw [upd_ne (ne_lst hl h1 (fun z => nomatch z))]
    exact h1
  · rw [upd_ne (ne_lst hl h2 (fun z => nomatch z))]
    exact h2
theorem PcsAt.put {K : PySem.W.Frag} {C l : Addr} {H : Hp} {xs : List V} {ds : List PD} {ys : List V} {o : HO} (hl : H l = some (.lst ys)) (h : PcsAt K C H xs ds) : PcsAt K C (upd H l o) xs ds :=
  ⟨h.1, h.2.1, fun i x d hx hd => by
    obtain ⟨p, e, hp⟩ := h.2.2 i x d hx hd
    exact ⟨p, e, hp.put hl⟩⟩
theorem PcsAt.one {K : PySem.W.Frag} {C p : Addr} {H : Hp} {d : PD} (h : PieceAt K C H p d) (o : d.Ok) (few : d.parts.length ≤ 30) : PcsAt K C H [.ref p] [d] :=
  ⟨rfl, fun e he => by
    rw [List.mem_singleton.mp he]
    exact ⟨o, few⟩, fun i x e hx he => by
    cases i with
    | zero =>
      cases hx
      cases he
      exact ⟨p, rfl, h⟩
    | succ i => cases hx⟩
def spRun (K : PySem.W.Frag) (CR CT C CP : Addr) : Sp := fun vs H Q _ => ∃ (a p : Addr) (w : Int) (rs : List RD) (ds : List PD), vs = [.ref a, .int w, .ref p] ∧ TlAt K CR CT H a rs false ∧ (∀ r ∈ rs, GoodR r) ∧ PP K C CP H p ds ∧
  ∀ c H', Same H H' → H c = none → PP K C CP H' c (runL rs w ds none) → Q (.ref c) H'
section
variable {P : Program} {w : World} {K : PySem.W.Frag} {mg : Str → Option Value} {base : Heap}
def runN : List Str := ["tool", "width", "program", "pieces", "laid", "before", "piece", "found"]
theorem scRun : FnScope runN ["tool", "width", "program"] (defScope sRun) := ⟨rfl, rfl, rfl, by decide +kernel, rfl, by decide +kernel, by decide +kernel⟩
theorem ok_run {f C CR CT CP : Addr} {fd : FuncData} (F : Fun K "run" "run" sRun f fd) (T : Pg P w K mg base C CP) (ZT : ToolC K CT) (DL : Has P w K mg base CX0 6 "lay_piece" layPs (spLayP K CR C)) (DA : Has P w K mg base CX0 1 "stands_ahead" ["piece"] (spAhead K C)) : FnOk P w K mg base CX0 7 f fd ["tool", "width", "program"] (spRun K CR CT C CP) := by
  refine F.ok scRun (fun vs H Q E h => ?_) (fun cdv A outer s H vs Q E hr h => ?_)
  · obtain ⟨a, p, w0, rs, ds, rfl, _⟩ := h
    rfl
  · obtain ⟨a, p, w0, rs, ds, rfl, hT, gd, hP, k⟩ := h
    have hr1 := hr.mono (show 1 ≤ 6 by decide)
    have hr4 := hr.mono (show 4 ≤ 6 by decide)
    refine ⟨_, (pss_cons (ps_set (i := 3) scRun.nd rfl (.inl rfl) (pe_ifExp (pt_val (pe_fld (pv 0) rfl)) pe_no (pe_fld (pv 2) rfl)))
    (pss_cons (ps_set (i := 4) scRun.nd rfl (.inl rfl) (pe_lst pa_nil))
    (pss_cons (ps_set (i := 5) scRun.nd rfl (.inl rfl) (pe_tup pa_nil))
    (pss_cons (ps_for PassesOwn.never rfl (pi_tup (pv 3)) (pg_name (i := 6) scRun.nd rfl (.inl rfl))
      (pss_cons (ps_set (i := 7) scRun.nd rfl (.inl rfl) (pe_callH DL hr (by rfl) pass0 (pa_cons (pe_fld (pv 0) rfl) (pa_cons (pv 1) (pa_cons (pv 5) (pa_cons (pv 6) pa_nil))))))
      (pss_cons (ps_expr (pe_bm PySem.F.plainAttrs_list PySem.F.slot_list_append PySem.F.type_list_append mt_append (pv 4) (pa_cons (pv 7) pa_nil)))
      (pss_one (ps_set (i := 5) scRun.nd rfl (.inl rfl) (pe_callH DA hr1 (by rfl) pass0 (pa_cons (pv 7) pa_nil)))))))
    (pss_one (ps_ret (pe_mkPg (K := K) (C := C) (CP := CP) rfl T rfl hr4 (by rfl) (pa_cons (pv 4) pa_nil)))))))), ?_⟩
    obtain ⟨dx, tr, xr, ha, htr, hxr⟩ := hT
    obtain ⟨tp, xs, dp, hp, ht, hx, few⟩ := hP
    refine ⟨_, rfl, a, CT, dx, _, _, rfl, ha, ZT.cl, ZT.sorts, rfl, false, rfl, iteN rfl ⟨_, rfl, p, CP, dp, _, _, rfl, hp, T.ZP.cl, T.ZP.pieces, rfl, ?_⟩⟩
    refine ⟨(by show 0 ≤ sizeLine; exact Nat.zero_le _), fun l nl => ⟨(by show 0 ≤ sizeLine; exact Nat.zero_le _), fun t0 n0 => ?_⟩⟩
    have s0 := (Same.new nl (o := .lst [])).trans (Same.new n0 (o := .tup []))
    have nl0 : l ≠ t0 := fun z => by
      rw [← z, upd_same] at n0
      cases n0
    refine ⟨_, rfl, tp, rfl, ⟨_, (ht.same s0).sqT⟩, for_tup (K := K) (xs := xs) (fun i σ G => ∃ (ys : List V) (es : List PD) (t0 : Addr) (bf : Option (Bool × Bool)) (x6 x7 : Option V), σ = [some (.ref a), some (.int w0), some (.ref p), some (.ref tp), some (.ref l), some (.ref t0), x6, x7] ∧ Same H G ∧ G l = some (.lst ys) ∧ PcsAt K C G ys es ∧ SqT K G t0 (bfV bf) ∧ es.length = i ∧ es ++ runL rs w0 (ds.drop i) bf = runL rs w0 ds none)
      ⟨[], [], t0, none, _, _, rfl, s0, (by rw [upd_ne nl0]; exact upd_same), ⟨rfl, fun d hd => (nomatch hd), fun i x d hxx => (nomatch hxx)⟩, SqT.of upd_same, rfl, rfl⟩ (fun i σ G _ z => by
      obtain ⟨_, _, _, _, _, _, _, z, _⟩ := z
      exact (ht.same z).sqT) ?_ ?_⟩
    · rintro i x σ G hi ⟨ys, es, t1, bf, x6, x7, rfl, sG, hl, hE, hb, le, e⟩
      have li := (List.getElem?_eq_some_iff.mp hi).1
      rw [hx.1] at li
      obtain ⟨d, ed⟩ : ∃ d, ds[i]? = some d := ⟨_, List.getElem?_eq_getElem li⟩
      obtain ⟨q, rfl, hq⟩ := hx.2.2 i x d hi ed
      obtain ⟨od, fd2⟩ := hx.2.1 d (List.mem_of_getElem? ed)
      refine ⟨_, rfl, a, CT, dx, _, _, rfl, sG _ _ ha, ZT.cl, ZT.rows, rfl, _, rfl, _, rfl, _, rfl, tr, t1, q, w0, xr, rs, bf, d, rfl, (htr.same sG).sqT, hxr.same sG, gd, hb, hq.same sG, od, fd2, fun y G1 s1 n1 hy => ?_⟩
      have hl1 := s1 _ _ hl
      have ly : ys.length < sizeLine := by
        rw [hE.1, le]
        exact Nat.lt_of_lt_of_le (Nat.lt_of_lt_of_le li few) (by decide)
      refine ⟨_, rfl, .inl ⟨rfl, _, SqL.of hl1⟩, _, rfl, l, ys, _, rfl, rfl, hl1, ly, ?_⟩
      refine ⟨_, rfl, y, _, rfl, hy.put hl1, fun t2 n2 => ?_⟩
      have hG : PcsAt K C (upd G1 l (.lst (ys ++ [.ref y]))) (ys ++ [.ref y]) (es ++ [layP rs bf w0 d]) := ((hE.same s1).put hl1).append (PcsAt.one (hy.put hl1) (putP_ok od) fd2)
      have nn : H l = none := nl
      have sP : Same H (upd G1 l (.lst (ys ++ [.ref y]))) := same_put (sG.trans s1) nn
      have nl2 : l ≠ t2 := fun z => by
        rw [← z, upd_same] at n2
        cases n2
      have s2 := Same.new n2 (o := .tup [.bl (layP rs bf w0 d).broken, .bl (hasS (layP rs bf w0 d).behind)])
      refine ⟨ys ++ [.ref y], es ++ [layP rs bf w0 d], t2, bfP (layP rs bf w0 d), _, _, rfl, sP.trans s2, (by rw [upd_ne nl2]; exact upd_same), hG.same s2, SqT.of upd_same, by rw [List.length_append, le]; rfl, ?_⟩
      rw [List.drop_eq_getElem_cons li, (List.getElem?_eq_some_iff.mp ed).2] at e
      rw [List.append_assoc]
      exact e
    · rintro σ G ⟨ys, es, t1, bf, x6, x7, rfl, sG, hl, hE, hb, le, e⟩
      rw [hx.1, List.drop_length] at e
      have e : es = runL rs w0 ds none := by
        rw [← e]
        exact (List.append_nil es).symm
      subst e
      exact ⟨_, rfl, l, ys, _, rfl, .inl hl, hE, by rw [runL_len]; exact few, fun c H' s n hc => k c H' (sG.trans s) (sG.free n) hc⟩
end
end Lay
set_option Elab.async false
set_option linter.all false
set_option maxRecDepth 100000
set_option maxHeartbeats 800000
set_option pp.maxSteps 900
namespace Lay
open PySem PySem.Spec PyProof.Rows L2 KwX StX
/-! ### tests, deeds and rows that the law draws -/
def tAll : List Str := testL ++ testL.map fun z => ("not " : Str) ++ z
theorem tAll_ok : ∀ z ∈ tAll, progT z = true ∧ z.length ≤ 20 ∧ PyData.strOk z = true := by decide +kernel
theorem dAll_ok : ∀ z ∈ deedL, progD z = true ∧ z.length ≤ 20 := by decide +kernel
structure Dr (r : RD) : Prop where
  w : ∀ z ∈ r.ws, z ∈ tAll
  u : ∀ z ∈ r.us, z ∈ deedL
  lw : r.ws.length ≤ 10
  lu : r.us.length ≤ 10
  nu : 0 < r.us.length
theorem Dr.good {r : RD} (h : Dr r) : GoodR r :=
  ⟨⟨fun z hz => (tAll_ok z (h.w z hz)).2.1, fun z hz => (dAll_ok z (h.u z hz)).2, by have := h.lw; omega, by have := h.lu; omega, h.nu, fun z hz => (tAll_ok z (h.w z hz)).2.2⟩, fun z hz => (tAll_ok z (h.w z hz)).1, fun z hz => (dAll_ok z (h.u z hz)).1⟩
def PrAt (H : Hp) (p : Addr) (r : RD) : Prop := ∃ t d, H p = some (.tup [.ref t, .ref d]) ∧ H t = some (.tup (r.ws.map V.str)) ∧ H d = some (.tup (r.us.map V.str))
theorem PrAt.same {H H' : Hp} {p : Addr} {r : RD} (s : Same H H') (h : PrAt H p r) : PrAt H' p r := by
  obtain ⟨t, d, h1, h2, h3⟩ := h
  exact ⟨t, d, s _ _ h1, s _ _ h2, s _ _ h3⟩
/-- a mutable list changes -/
theorem PrAt.put {H : Hp} {p b : Addr} {r : RD} {xs : List V} {o : HO} (hb : H b = some (.lst xs)) (h : PrAt H p r) : PrAt (upd H b o) p r := by
  obtain ⟨t, d, h1, h2, h3⟩ := h
  exact ⟨t, d, by rw [upd_ne (ne_of h1 hb (fun z => nomatch z))]; exact h1, by rw [upd_ne (ne_of h2 hb (fun z => nomatch z))]; exact h2, by rw [upd_ne (ne_of h3 hb (fun z => nomatch z))]; exact h3⟩
theorem tup_box {H : Hp} {a b : Addr} {xs : List V} (h : H a = some (.tup xs)) (bx : BoxAt H b) : a ≠ b := by
  obtain ⟨o, hb, g, s, n, rfl⟩ := bx
  exact ne_of h hb (fun z => nomatch z)
theorem PrAt.kept {H H' : Hp} {p b : Addr} {r : RD} (bx : BoxAt H b) (k : Kept b H H') (h : PrAt H p r) : PrAt H' p r := by
  obtain ⟨t, d, h1, h2, h3⟩ := h
  exact ⟨t, d, k _ _ (tup_box h1 bx) h1, k _ _ (tup_box h2 bx) h2, k _ _ (tup_box h3 bx) h3⟩
theorem BoxAt.same {b : Addr} {G G' : Hp} (s : Same G G') (h : BoxAt G b) : BoxAt G' b := by
  obtain ⟨o, e, y⟩ := h
  exact ⟨o, s _ _ e, y⟩
theorem BoxAt.at {b : Addr} {G : Hp} (h : BoxAt G b) : ∃ xs, G b = some (.lst xs) := by
  obtain ⟨o, e, g, s, n, rfl⟩ := h
  exact ⟨_, e⟩
theorem Kept.put {b D : Addr} {H G : Hp} {o : HO} (k : Kept b H G) (n : H D = none) : Kept b H (upd G D o) := fun a u ne e => by
  rw [upd_ne (ne_of_none e n)]
  exact k a u ne e
theorem Kept.free {b D : Addr} {H G : Hp} (k : Kept b H G) (hb : ∃ u, H b = some u) (bx : ∃ u, G b = some u) (n : G D = none) : H D = none := by
  cases e : H D with
  | none => rfl
  | some o =>
    by_cases q : D = b
    · obtain ⟨u, hu⟩ := bx
      rw [q, hu] at n
      cases n
    · rw [k D o q e] at n
      cases n
abbrev sLTest : Stmt := top 87
abbrev sLRow : Stmt := top 88
abbrev sLTool : Stmt := top 89
def spLTest : Sp := fun vs H Q _ => ∃ (b : Addr), vs = [.ref b] ∧ BoxAt H b ∧ ∀ z G, Kept b H G → BoxAt G b → z ∈ tAll → Q (.str z) G
def spLRow : Sp := fun vs H Q _ => ∃ (b : Addr), vs = [.ref b] ∧ BoxAt H b ∧ ∀ p r G, Kept b H G → BoxAt G b → PrAt G p r → Dr r → Q (.ref p) G
section
variable {P : Program} {w : World} {K : PySem.W.Frag} {mg : Str → Option Value} {base : Heap}
theorem scLTest : FnScope ["_law_box_here", "_law_some", "_law_test_here"] ["_law_box_here"] (defScope sLTest) := ⟨rfl, rfl, rfl, by decide +kernel, rfl, by decide +kernel, by decide +kernel⟩
theorem ok_ltest {f : Addr} {fd : FuncData} (F : Fun K "_law_test" "_law_test" sLTest f fd) (DK : Has P w K mg base CX0 2 "_law_pick" ["_law_box_here", "_law_items"] (spPick K)) (DT : Has P w K mg base CX0 1 "_law_take" ["_law_box_here", "_law_many"] spTake) : FnOk P w K mg base CX0 3 f fd ["_law_box_here"] spLTest := by
  refine F.ok scLTest (fun vs H Q E h => ?_) (fun cdv A outer s H vs Q E hr h => ?_)
  · obtain ⟨b, rfl, _⟩ := h
    rfl
  · obtain ⟨b, rfl, bx, k⟩ := h
    have hr1 := hr.mono (show 1 ≤ 2 by decide)
    refine ⟨_, (pss_cons (ps_set (i := 1) scLTest.nd rfl (.inl rfl) (pe_lst (pa_cons pe_str (pa_cons pe_str (pa_cons pe_str (pa_cons pe_str (pa_cons pe_str (pa_cons pe_str (pa_cons pe_str (pa_cons pe_str (pa_cons pe_str (pa_cons pe_str pa_nil))))))))))))
    (pss_cons (ps_set (i := 2) scLTest.nd rfl (.inl rfl) (pe_callH DK hr (by rfl) pass0 (pa_cons (pv 0) (pa_cons (pe_op op_cat (pv 1) (pe_lst (pa_cons pe_str (pa_cons pe_str (pa_cons pe_str pa_nil))))) pa_nil))))
    (pss_one (ps_ret (pe_ifExp (pt_cmpR op_eq (pe_callH DT hr1 (by rfl) pass0 (pa_cons (pv 0) (pa_cons pe_int pa_nil))) pe_int (nomark _)) (pe_op op_add_str pe_str (pv 2)) (pv 2)))))), ?_⟩
    refine ⟨(by show 10 ≤ sizeLine; decide), fun l nl => ?_⟩
    have s1 := Same.new nl (o := .lst (testL.map V.str))
    have hl : upd H l (.lst (testL.map V.str)) l = some (.lst (testL.map V.str)) := upd_same
    change tSeq _ _ _ _ (upd H l (.lst (testL.map V.str)))
    generalize upd H l (.lst (testL.map V.str)) = H1 at s1 hl ⊢
    refine ⟨_, rfl, _, rfl, (by show 3 ≤ sizeLine; decide), fun l2 n2 => ?_⟩
    have s2 := Same.new n2 (o := .lst [.str "long", .str "long", .str "marked"])
    refine ⟨l, l2, _, _, rfl, rfl, s2 _ _ hl, upd_same, (by show 13 ≤ sizeLine; decide), fun l3 n3 => ?_⟩
    have s3 := Same.new n3 (o := .lst (testL.map V.str ++ [.str "long", .str "long", .str "marked"]))
    have s13 := (s1.trans s2).trans s3
    have b3 := BoxAt.same s13 bx
    obtain ⟨xb, hxb⟩ := (BoxAt.same (s1.trans s2) bx).at
    refine ⟨b, l3, _, rfl, b3, (ne_of_none hxb n3).symm, SqL.of upd_same, (by show 0 < 13; decide), (by show 13 ≤ 1000; decide), fun v o hv ho => ?_⟩
    have hv : v ∈ (testL ++ (["long", "long", "marked"] : List Str)).map V.str := hv
    obtain ⟨z, hz, rfl⟩ := List.mem_map.mp hv
    have hz : z ∈ testL := (by decide +kernel : ∀ z ∈ testL ++ (["long", "long", "marked"] : List Str), z ∈ testL) z hz
    refine ⟨_, rfl, b, 3, rfl, BoxAt.box ho, by decide, by decide, fun r o2 r0 r1 ho2 => ?_⟩
    have kk : Kept b H _ := ((Kept.of_same s13).trans (Kept.box (o := o))).trans (Kept.box (o := o2))
    refine ⟨rfl, _, rfl, ?_⟩
    refine ite2 (fun _ => ?_) (fun _ => ?_)
    · have l20 := (tAll_ok z (List.mem_append_left _ hz)).2.1
      have j4 : (Str.ofString "not ").length = 4 := by decide
      exact ⟨_, rfl, _, _, rfl, rfl, by rw [j4]; exact fitsW (by omega), k _ _ kk (BoxAt.box ho2) (List.mem_append_right _ (List.mem_map_of_mem hz))⟩
    · exact ⟨_, rfl, k _ _ kk (BoxAt.box ho2) (List.mem_append_left _ hz)⟩
def lrowN : List Str := ["_law_box_here", "_law_deeds", "_law_tests", "_law_turn"]
theorem scLRow : FnScope lrowN ["_law_box_here"] (defScope sLRow) := ⟨rfl, rfl, rfl, by decide +kernel, rfl, by decide +kernel, by decide +kernel⟩
theorem ok_lrow {f : Addr} {fd : FuncData} (F : Fun K "_law_row" "_law_row" sLRow f fd) (B : Bt mg) (DX : Has P w K mg base CX0 3 "_law_test" ["_law_box_here"] spLTest) (DK : Has P w K mg base CX0 2 "_law_pick" ["_law_box_here", "_law_items"] (spPick K)) (DT : Has P w K mg base CX0 1 "_law_take" ["_law_box_here", "_law_many"] spTake) : FnOk P w K mg base CX0 4 f fd ["_law_box_here"] spLRow := by
  refine F.ok scLRow (fun vs H Q E h => ?_) (fun cdv A outer s H vs Q E hr h => ?_)
  · obtain ⟨b, rfl, _⟩ := h
    rfl
  · obtain ⟨b, rfl, bx, k⟩ := h
    have hr1 := hr.mono (show 1 ≤ 3 by decide)
    have hr2 := hr.mono (show 2 ≤ 3 by decide)
    refine ⟨_, (pss_cons (ps_set (i := 1) scLRow.nd rfl (.inr rfl) (pe_lst (pa_cons pe_str (pa_cons pe_str (pa_cons pe_str (pa_cons pe_str (pa_cons pe_str (pa_cons pe_str (pa_cons pe_str (pa_cons pe_str pa_nil))))))))))
    (C8.pss_cut (ps_setLc (i := 2) (own := [("_law_turn", 3)]) (g := gName 3) (tt := tYes) rfl scLRow.nd rfl rfl (sw_true rfl rfl rfl (by decide +kernel)) (pi_range1 (by rfl) B.range (pa_cons (pe_callH DT hr1 (by rfl) pass0 (pa_cons (pv 0) (pa_cons pe_int pa_nil))) pa_nil)) (blkOk_by (N := lrowN) (sc := defScope sLRow) (by decide +kernel)) (fun _ _ _ _ _ => pg_name (i := 3) scLRow.nd rfl (Or.inl rfl)) (fun _ _ _ _ _ => pts_nil) (fun _ _ _ _ _ => pe_callH DX hr (by rfl) pass0 (pa_cons (pv 0) pa_nil)))
    (pss_one (ps_ret (pe_tup (pa_cons (pe_callTy call_tuple_of (by rfl) B.tuple (by decide +kernel) (pa_cons (pv 2) pa_nil)) (pa_cons (pe_callTy call_tuple_of (by rfl) B.tuple (by decide +kernel) (pa_cons (pe_lc (own := [("_law_turn", 3)]) (g := gName 3) (tt := tYes) (by rfl) scLRow.nd (pi_range1 (by rfl) B.range (pa_cons (pe_op op_add pe_int (pe_callH DT hr1 (by rfl) pass0 (pa_cons (pv 0) (pa_cons pe_int pa_nil)))) pa_nil)) (blkOk_by (N := lrowN) (sc := defScope sLRow) (by decide +kernel)) (fun _ _ _ _ _ => pg_name (i := 3) scLRow.nd rfl (Or.inl rfl)) (fun _ _ _ _ _ => pts_nil) (fun _ _ _ _ _ => pe_callH DK hr2 (by rfl) pass0 (pa_cons (pv 0) (pa_cons (pv 1) pa_nil)))) pa_nil)) pa_nil))))))), ?_⟩
    obtain ⟨xb, hxb⟩ := bx.at
    refine ⟨(by show 8 ≤ sizeLine; decide), fun l nl => ?_⟩
    have s1 := Same.new nl (o := .lst (deedL.map V.str))
    have hl : upd H l (.lst (deedL.map V.str)) l = some (.lst (deedL.map V.str)) := upd_same
    change C8.tCut _ _ _ _ (upd H l (.lst (deedL.map V.str)))
    have b1 := BoxAt.same s1 bx
    have lb : l ≠ b := (ne_of_none hxb nl).symm
    generalize upd H l (.lst (deedL.map V.str)) = H1 at s1 hl b1 ⊢
    refine ⟨fun σ G => ∃ (D : Addr) (ws : List Str), σ = [some (.ref b), some (.ref l), some (.ref D), none] ∧ Kept b H1 G ∧ BoxAt G b ∧ G D = some (.lst (ws.map V.str)) ∧ D ≠ b ∧ ws.length ≤ 10 ∧ (∀ z ∈ ws, z ∈ tAll), ?_, ?_⟩
    · refine ⟨_, rfl, b, 3, rfl, b1, by decide, by decide, fun r o r0 r1 ho => ⟨r, rfl, by omega, by omega, fun D nD => ?_⟩⟩
      have bo : BoxAt (upd H1 b o) b := BoxAt.box ho
      have ko : Kept b H1 (upd H1 b o) := Kept.box
      generalize upd H1 b o = H2 at bo ko nD ⊢
      obtain ⟨xo, hxo⟩ := bo.at
      obtain ⟨x1, hx1⟩ := b1.at
      have nDb : D ≠ b := (ne_of_none hxo nD).symm
      have nD1 : H1 D = none := ko.free ⟨_, hx1⟩ ⟨_, hxo⟩ nD
      refine lc_range (lo := 0) (n := r.toNat) (fun i G => ∃ ws : List Str, Kept b H1 G ∧ BoxAt G b ∧ G D = some (.lst (ws.map V.str)) ∧ ws.length = i ∧ ∀ z ∈ ws, z ∈ tAll) ⟨[], ko.put nD1, BoxAt.same (Same.new nD) bo, upd_same, rfl, fun z hz => (List.not_mem_nil hz).elim⟩ ?_ ?_
      · rintro i G hi ⟨ws, kG, bG, hD, lw, hw⟩
        refine ⟨rfl, _, rfl, b, rfl, bG, fun z G2 k2 b2 hz => ?_⟩
        have hD2 := k2 _ _ nDb hD
        refine ⟨_, hD2, ?_, ws ++ [z], (kG.trans k2).put nD1, ?_, ?_, ?_, ?_⟩
        · rw [List.length_map]
          exact small1000 (by omega)
        · obtain ⟨ob, eb, yb⟩ := b2
          exact ⟨ob, by rw [upd_ne (Ne.symm nDb)]; exact eb, yb⟩
        · rw [upd_same, List.map_append]
          rfl
        · rw [List.length_append, lw]
          rfl
        · intro y hy
          rcases List.mem_append.mp hy with hy | hy
          · exact hw y hy
          · rw [List.mem_singleton] at hy
            rw [hy]
            exact hz
      · rintro G ⟨ws, kG, bG, hD, lw, hw⟩
        exact ⟨D, ws, rfl, kG, bG, hD, nDb, by omega, hw⟩
    rintro σ G ⟨D, ws, rfl, kG, bG, hD, nDb, lw, hw⟩
    have hlG := kG _ _ lb hl
    obtain ⟨xg, hxg⟩ := bG.at
    refine ⟨_, rfl, D, _, rfl, .inl ⟨SqL.of hD, fun t nt => ?_⟩⟩
    have st := Same.new nt (o := .tup (ws.map V.str))
    have b3 := BoxAt.same st bG
    have ht : upd G t (.tup (ws.map V.str)) t = some (.tup (ws.map V.str)) := upd_same
    have hl3 := st _ _ hlG
    have k3 := kG.trans (Kept.of_same (b := b) st)
    generalize upd G t (.tup (ws.map V.str)) = G3 at b3 ht hl3 k3 ⊢
    have tb := tup_box ht b3
    refine ⟨_, rfl, b, 2, rfl, b3, by decide, by decide, fun r o r0 r1 ho => ⟨_, _, rfl, rfl, 1 + r, rfl, by omega, by omega, fun D2 nD2 => ?_⟩⟩
    have bo : BoxAt (upd G3 b o) b := BoxAt.box ho
    have ko : Kept b G3 (upd G3 b o) := Kept.box
    generalize upd G3 b o = G4 at bo ko nD2 ⊢
    obtain ⟨xo, hxo⟩ := bo.at
    obtain ⟨x3, hx3⟩ := b3.at
    have nD2b : D2 ≠ b := (ne_of_none hxo nD2).symm
    have nD3 : G3 D2 = none := ko.free ⟨_, hx3⟩ ⟨_, hxo⟩ nD2
    refine lc_range (lo := 0) (n := (1 + r).toNat) (fun i G => ∃ us : List Str, Kept b G3 G ∧ BoxAt G b ∧ G D2 = some (.lst (us.map V.str)) ∧ us.length = i ∧ ∀ z ∈ us, z ∈ deedL) ⟨[], ko.put nD3, BoxAt.same (Same.new nD2) bo, upd_same, rfl, fun z hz => (List.not_mem_nil hz).elim⟩ ?_ ?_
    · rintro i G hi ⟨us, kG2, bG2, hD2, lu, hu⟩
      refine ⟨rfl, _, rfl, _, rfl, b, l, _, rfl, bG2, lb, SqL.of (kG2 _ _ lb hl3), (by show 0 < 8; decide), (by show 8 ≤ 1000; decide), fun v o2 hv ho2 => ?_⟩
      obtain ⟨z, hz, rfl⟩ := List.mem_map.mp hv
      refine ⟨_, by rw [upd_ne nD2b]; exact hD2, ?_, us ++ [z], (kG2.trans Kept.box).put nD3, ?_, ?_, ?_, ?_⟩
      · rw [List.length_map]
        exact small1000 (by omega)
      · exact ⟨o2, by rw [upd_ne (Ne.symm nD2b)]; exact upd_same, ho2⟩
      · rw [upd_same, List.map_append]
        rfl
      · rw [List.length_append, lu]
        rfl
      · intro y hy
        rcases List.mem_append.mp hy with hy | hy
        · exact hu y hy
        · rw [List.mem_singleton] at hy
          rw [hy]
          exact hz
    · rintro G5 ⟨us, k5, b5, h5, lu, hu⟩
      refine ⟨D2, _, rfl, .inl ⟨SqL.of h5, fun t2 nt2 => ⟨(by show 2 ≤ sizeLine; decide), fun p np => ?_⟩⟩⟩
      have s6 := Same.new nt2 (o := .tup (us.map V.str))
      have s7 := Same.new np (o := .tup [.ref t, .ref t2])
      have s67 := s6.trans s7
      refine k p ⟨ws, us⟩ _ ?_ (BoxAt.same s67 b5) ⟨t, t2, upd_same, s67 _ _ (k5 _ _ tb ht), s7 _ _ upd_same⟩ ⟨hw, hu, lw, by show us.length ≤ 10; omega, by show 0 < us.length; omega⟩
      exact (((Kept.of_same s1).trans k3).trans k5).trans (Kept.of_same s67)
end
end Lay
set_option Elab.async false
set_option linter.all false
set_option maxRecDepth 100000
set_option maxHeartbeats 800000
set_option pp.maxSteps 900
namespace Lay
open PySem PySem.Spec PyProof.Rows L2 KwX StX
/-! ### tools that the law draws -/
def PrG (G : Hp) (v : V) (r : RD) : Prop := ∃ p, v = .ref p ∧ PrAt G p r ∧ Dr r
def PrX (G : Hp) (v : V) : Prop := ∃ r, PrG G v r
theorem PrX.same {G G' : Hp} {v : V} (s : Same G G') (h : PrX G v) : PrX G' v := by
  obtain ⟨r, p, e, h1, h2⟩ := h
  exact ⟨r, p, e, h1.same s, h2⟩
theorem PrX.put {G : Hp} {b : Addr} {v : V} {xs : List V} {o : HO} (hb : G b = some (.lst xs)) (h : PrX G v) : PrX (upd G b o) v := by
  obtain ⟨r, p, e, h1, h2⟩ := h
  exact ⟨r, p, e, h1.put hb, h2⟩
theorem PrX.kept {G G' : Hp} {b : Addr} {v : V} (bx : BoxAt G b) (k : Kept b G G') (h : PrX G v) : PrX G' v := by
  obtain ⟨r, p, e, h1, h2⟩ := h
  exact ⟨r, p, e, h1.kept bx k, h2⟩
theorem pair_of {α β : Type} {P : α → β → Prop} : ∀ {xs : List α}, (∀ x ∈ xs, ∃ y, P x y) → ∃ ys : List β, Paired P xs ys
  | [], _ => ⟨[], .nil⟩
  | x :: xs, h => by
    obtain ⟨y, hy⟩ := h x List.mem_cons_self
    obtain ⟨ys, hs⟩ := pair_of (xs := xs) fun z hz => h z (List.mem_cons_of_mem _ hz)
    exact ⟨y :: ys, .cons hy hs⟩
def tStrs : List Str → TA
  | [] => tNil
  | w :: ws => tCons (tC (.str w)) (tStrs ws)
theorem tStrs_of : ∀ (ws : List Str) (σ : L2.St) (H : Hp) (Q : List V → Hp → Prop), Q (ws.map V.str) H → tStrs ws σ H Q
  | [], _, _, _, h => h
  | w :: ws, σ, H, Q, h => tStrs_of ws σ H (fun vs H' => Q (.str w :: vs) H') h
def tPair : TE := fun σ H Q => ∀ p H', Same H H' → PrX H' (.ref p) → Q (.ref p) H'
theorem pe_pair {X : Cx} {es1 es2 : List Expr} {x1 x2 x3} {p1 p2 p3 : Pos} {ws us : List Str} (ha : PA X es1 (tStrs ws)) (hb : PA X es2 (tStrs us)) (gw : ∀ z ∈ ws, z ∈ tAll) (gu : ∀ z ∈ us, z ∈ deedL) (lw : ws.length ≤ 10) (lu : us.length ≤ 10) (nu : 0 < us.length) :
    PE X (.Tuple [.Tuple es1 x1 p1, .Tuple es2 x2 p2] x3 p3) tPair := by
  refine pe_mono (pe_tup (pa_cons (pe_tup ha) (pa_cons (pe_tup hb) pa_nil))) fun σ H Q q => ?_
  refine tStrs_of ws σ H _ ⟨by rw [List.length_map]; exact fitsW (by omega), fun t nt => tStrs_of us σ _ _ ⟨by rw [List.length_map]; exact fitsW (by omega), fun d nd => ⟨by show 2 ≤ sizeLine; decide, fun p np => ?_⟩⟩⟩
  have s1 := Same.new nt (o := .tup (ws.map V.str))
  have s2 := Same.new nd (o := .tup (us.map V.str))
  have s3 := Same.new np (o := .tup [.ref t, .ref d])
  exact q p _ ((s1.trans s2).trans s3) ⟨⟨ws, us⟩, p, rfl, ⟨t, d, upd_same, s3 _ _ (s2 _ _ upd_same), s3 _ _ upd_same⟩, gw, gu, lw, lu, nu⟩
/-- a list of pairs that is new -/
def NewL (H G : Hp) (U : Addr) (n : Nat) : Prop := H U = none ∧ Same H G ∧ ∃ xs : List V, G U = some (.lst xs) ∧ xs.length = n ∧ ∀ v ∈ xs, PrX G v
def spLTool : Sp := fun vs H Q _ => ∃ (b : Addr), vs = [.ref b] ∧ BoxAt H b ∧ ∀ p R (xs : List V) s G, Kept b H G → BoxAt G b → G p = some (.tup [.ref R, .bl s]) → G R = some (.lst xs) → R ≠ b → (∀ v ∈ xs, PrX G v) → xs.length ≤ 4 → Q (.ref p) G
section
variable {P : Program} {w : World} {K : PySem.W.Frag} {mg : Str → Option Value} {base : Heap}
theorem scLTool : FnScope ["_law_box_here", "_law_usual", "_law_rows", "_law_turn"] ["_law_box_here"] (defScope sLTool) := ⟨rfl, rfl, rfl, by decide +kernel, rfl, by decide +kernel, by decide +kernel⟩
theorem ok_ltool {f : Addr} {fd : FuncData} (F : Fun K "_law_tool" "_law_tool" sLTool f fd) (B : Bt mg) (DX : Has P w K mg base CX0 4 "_law_row" ["_law_box_here"] spLRow) (DK : Has P w K mg base CX0 2 "_law_pick" ["_law_box_here", "_law_items"] (spPick K)) (DT : Has P w K mg base CX0 1 "_law_take" ["_law_box_here", "_law_many"] spTake) : FnOk P w K mg base CX0 5 f fd ["_law_box_here"] spLTool := by
  refine F.ok scLTool (fun vs H Q E h => ?_) (fun cdv A outer s H vs Q E hr h => ?_)
  · obtain ⟨b, rfl, _⟩ := h
    rfl
  · obtain ⟨b, rfl, bx, k⟩ := h
    have hr1 := hr.mono (show 1 ≤ 4 by decide)
    have hr2 := hr.mono (show 2 ≤ 4 by decide)
    refine ⟨_, (C8.pss_cut (ps_set (i := 1) scLTool.nd rfl (.inl rfl) (pe_lst (pa_cons (pe_pair (ws := ["long"]) (us := ["break", "mark"]) (pa_cons pe_str pa_nil) (pa_cons pe_str (pa_cons pe_str pa_nil)) (by decide +kernel) (by decide +kernel) (by decide) (by decide) (by decide)) (pa_cons (pe_pair (ws := ["marked"]) (us := ["break"]) (pa_cons pe_str pa_nil) (pa_cons pe_str pa_nil) (by decide +kernel) (by decide +kernel) (by decide) (by decide) (by decide)) (pa_cons (pe_pair (ws := ["not long", "not marked"]) (us := ["join"]) (pa_cons pe_str (pa_cons pe_str pa_nil)) (pa_cons pe_str pa_nil) (by decide +kernel) (by decide +kernel) (by decide) (by decide) (by decide)) pa_nil)))))
    (C8.pss_cut (ps_set (i := 1) scLTool.nd rfl (.inl rfl) (pe_op op_cat (pv 1) (pe_lst (pa_cons (pe_pair (ws := ["long", "behind"]) (us := ["lift"]) (pa_cons pe_str (pa_cons pe_str pa_nil)) (pa_cons pe_str pa_nil) (by decide +kernel) (by decide +kernel) (by decide) (by decide) (by decide)) (pa_cons (pe_pair (ws := ["not long", "ahead"]) (us := ["lower"]) (pa_cons pe_str (pa_cons pe_str pa_nil)) (pa_cons pe_str pa_nil) (by decide +kernel) (by decide +kernel) (by decide) (by decide) (by decide)) pa_nil)))))
    (C8.pss_cut (ps_expr (pe_bm PySem.F.plainAttrs_list PySem.F.slot_list_append PySem.F.type_list_append mt_append (pv 1) (pa_cons (pe_pair (ws := ["afterbroken"]) (us := ["space"]) (pa_cons pe_str pa_nil) (pa_cons pe_str pa_nil) (by decide +kernel) (by decide +kernel) (by decide) (by decide) (by decide)) pa_nil)))
    (C8.pss_cut (ps_set (i := 1) scLTool.nd rfl (.inl rfl) (pe_op op_cat (pv 1) (pe_lst (pa_cons (pe_pair (ws := ["not broken"]) (us := ["unmark"]) (pa_cons pe_str pa_nil) (pa_cons pe_str pa_nil) (by decide +kernel) (by decide +kernel) (by decide) (by decide) (by decide)) (pa_cons (pe_pair (ws := ["broken"]) (us := ["mark"]) (pa_cons pe_str pa_nil) (pa_cons pe_str pa_nil) (by decide +kernel) (by decide +kernel) (by decide) (by decide) (by decide)) (pa_cons (pe_pair (ws := ["blank"]) (us := ["close"]) (pa_cons pe_str pa_nil) (pa_cons pe_str pa_nil) (by decide +kernel) (by decide +kernel) (by decide) (by decide) (by decide)) pa_nil))))))
    (pss_cons (ps_set (i := 2) scLTool.nd rfl (.inl rfl) (pe_lst pa_nil))
    (pss_cons (ps_for PassesOwn.never rfl (pi_range1 (by rfl) B.range (pa_cons (pe_callH DT hr1 (by rfl) pass0 (pa_cons (pv 0) (pa_cons pe_int pa_nil))) pa_nil)) (pg_name (i := 3) scLTool.nd rfl (.inl rfl))
      (pss_one (ps_expr (pe_bm PySem.F.plainAttrs_list PySem.F.slot_list_append PySem.F.type_list_append mt_append (pv 2) (pa_cons (pe_ifExp (pt_cmpR op_gt (pe_callH DT hr1 (by rfl) pass0 (pa_cons (pv 0) (pa_cons pe_int pa_nil))) pe_int (nomark _)) (pe_callH DK hr2 (by rfl) pass0 (pa_cons (pv 0) (pa_cons (pv 1) pa_nil))) (pe_callH DX hr (by rfl) pass0 (pa_cons (pv 0) pa_nil))) pa_nil)))))
    (pss_one (ps_ret (pe_tup (pa_cons (pv 2) (pa_cons (pe_cmpR op_eq (pe_callH DT hr1 (by rfl) pass0 (pa_cons (pv 0) (pa_cons pe_int pa_nil))) pe_int (nomark _)) pa_nil))))))))))), ?_⟩
    refine ⟨fun σ G => ∃ U, σ = [some (.ref b), some (.ref U), none, none] ∧ NewL H G U 3, ?_, ?_⟩
    · refine fun p1 H1 s1 a1 => fun p2 H2 s2 a2 => fun p3 H3 s3 a3 => ⟨(by show 3 ≤ sizeLine; decide), fun U nU => ?_⟩
      have s4 := Same.new nU (o := .lst [.ref p1, .ref p2, .ref p3])
      refine ⟨U, rfl, ((s1.trans s2).trans s3).free nU, ((s1.trans s2).trans s3).trans s4, _, upd_same, rfl, fun v hv => ?_⟩
      simp only [List.mem_cons, List.not_mem_nil, or_false] at hv
      rcases hv with rfl | rfl | rfl
      · exact a1.same ((s2.trans s3).trans s4)
      · exact a2.same (s3.trans s4)
      · exact a3.same s4
    rintro σ G ⟨U0, rfl, nU0, sG, xs, hU, lx, hx⟩
    refine ⟨fun σ G => ∃ U, σ = [some (.ref b), some (.ref U), none, none] ∧ NewL H G U 5, ?_, ?_⟩
    · refine ⟨_, rfl, fun p1 H1 s1 a1 => fun p2 H2 s2 a2 => ⟨(by show 2 ≤ sizeLine; decide), fun l nl => ?_⟩⟩
      have s4 := Same.new nl (o := .lst [.ref p1, .ref p2])
      have s14 := (s1.trans s2).trans s4
      refine ⟨U0, l, xs, _, rfl, rfl, s14 _ _ hU, upd_same, by rw [lx]; show 3 + 2 ≤ sizeLine; decide, fun U nU => ?_⟩
      have s5 := Same.new nU (o := .lst (xs ++ [.ref p1, .ref p2]))
      refine ⟨U, rfl, (sG.trans s14).free nU, (sG.trans s14).trans s5, _, upd_same, by rw [List.length_append, lx]; rfl, fun v hv => ?_⟩
      rcases List.mem_append.mp hv with hv | hv
      · exact (hx v hv).same (s14.trans s5)
      simp only [List.mem_cons, List.not_mem_nil, or_false] at hv
      rcases hv with rfl | rfl
      · exact a1.same ((s2.trans s4).trans s5)
      · exact a2.same (s4.trans s5)
    clear hU hx lx sG nU0
    rintro σ G ⟨U0, rfl, nU0, sG, xs, hU, lx, hx⟩
    refine ⟨fun σ G => ∃ U, σ = [some (.ref b), some (.ref U), none, none] ∧ NewL H G U 6, ?_, ?_⟩
    · refine ⟨_, rfl, .inl ⟨rfl, _, SqL.of hU⟩, fun p1 H1 s1 a1 => ⟨U0, xs, _, rfl, rfl, s1 _ _ hU, by rw [lx]; decide, U0, rfl, nU0, same_put (sG.trans s1) nU0, _, upd_same, by rw [List.length_append, lx]; rfl, fun v hv => ?_⟩⟩
      have hU1 := s1 _ _ hU
      rcases List.mem_append.mp hv with hv | hv
      · exact PrX.put hU1 ((hx v hv).same s1)
      · rw [List.mem_singleton] at hv
        subst hv
        exact PrX.put hU1 a1
    clear hU hx lx sG nU0
    rintro σ G ⟨U0, rfl, nU0, sG, xs, hU, lx, hx⟩
    refine ⟨fun σ G => ∃ U, σ = [some (.ref b), some (.ref U), none, none] ∧ NewL H G U 9, ?_, ?_⟩
    · refine ⟨_, rfl, fun p1 H1 s1 a1 => fun p2 H2 s2 a2 => fun p3 H3 s3 a3 => ⟨(by show 3 ≤ sizeLine; decide), fun l nl => ?_⟩⟩
      have s4 := Same.new nl (o := .lst [.ref p1, .ref p2, .ref p3])
      have s14 := ((s1.trans s2).trans s3).trans s4
      refine ⟨U0, l, xs, _, rfl, rfl, s14 _ _ hU, upd_same, by rw [lx]; show 6 + 3 ≤ sizeLine; decide, fun U nU => ?_⟩
      have s5 := Same.new nU (o := .lst (xs ++ [.ref p1, .ref p2, .ref p3]))
      refine ⟨U, rfl, (sG.trans s14).free nU, (sG.trans s14).trans s5, _, upd_same, by rw [List.length_append, lx]; rfl, fun v hv => ?_⟩
      rcases List.mem_append.mp hv with hv | hv
      · exact (hx v hv).same (s14.trans s5)
      simp only [List.mem_cons, List.not_mem_nil, or_false] at hv
      rcases hv with rfl | rfl | rfl
      · exact a1.same (((s2.trans s3).trans s4).trans s5)
      · exact a2.same ((s3.trans s4).trans s5)
      · exact a3.same (s4.trans s5)
    clear hU hx lx sG nU0
    rintro σ G ⟨U, rfl, nU, sG, xs, hU, lx, hx⟩
    obtain ⟨xb, hxb⟩ := bx.at
    have Ub : U ≠ b := (ne_of_none hxb nU).symm
    have bG := BoxAt.same sG bx
    refine ⟨(by show 0 ≤ sizeLine; exact Nat.zero_le _), fun R nR => ?_⟩
    have sR := Same.new nR (o := .lst [])
    have hR : upd G R (.lst []) R = some (.lst []) := upd_same
    have UR : U ≠ R := ne_of_none hU nR
    have Rb : R ≠ b := (ne_of_none (sG _ _ hxb) nR).symm
    have nR0 := sG.free nR
    have b1 := BoxAt.same sR bG
    have hU1 := sR _ _ hU
    have hx1 : ∀ v ∈ xs, PrX (upd G R (.lst [])) v := fun v hv => (hx v hv).same sR
    have s1 := sG.trans sR
    change tSeq _ _ _ _ (upd G R (.lst []))
    generalize upd G R (.lst []) = G1 at s1 hR b1 hU1 hx1 ⊢
    refine ⟨_, rfl, b, 5, rfl, b1, by decide, by decide, fun r o r0 r1 ho => ⟨r, rfl, by omega, by omega, for_range (lo := 0) (n := r.toNat) (fun i σ G => ∃ (x3 : Option V) (ys : List V), σ = [some (.ref b), some (.ref U), some (.ref R), x3] ∧ Kept b H G ∧ BoxAt G b ∧ G U = some (.lst xs) ∧ (∀ v ∈ xs, PrX G v) ∧ G R = some (.lst ys) ∧ (∀ v ∈ ys, PrX G v) ∧ ys.length = i) ⟨none, [], rfl, (Kept.of_same s1).trans Kept.box, BoxAt.box ho, Kept.box _ _ Ub hU1, fun v hv => (hx1 v hv).kept b1 Kept.box, Kept.box _ _ Rb hR, fun v hv => (List.not_mem_nil hv).elim, rfl⟩ ?_ ?_⟩⟩
    · rintro i σ G2 hi ⟨x3, ys, rfl, k2, b2, hU2, hx2, hR2, hy2, ly⟩
      refine ⟨_, rfl, .inl ⟨rfl, _, SqL.of hR2⟩, _, rfl, b, 3, rfl, b2, by decide, by decide, fun r' o' r0' r1' ho' => ⟨_, _, rfl, rfl, _, rfl, ?_⟩⟩
      have k3 : Kept b G2 (upd G2 b o') := Kept.box
      have b3 : BoxAt (upd G2 b o') b := BoxAt.box ho'
      generalize upd G2 b o' = G3 at k3 b3 ⊢
      have fin : ∀ v G4, Kept b G3 G4 → BoxAt G4 b → PrX G4 v → ∃ (x3 : Option V) (zs : List V), [some (V.ref b), some (.ref U), some (.ref R), some (.int (0 + (i : Int)))] = [some (.ref b), some (.ref U), some (.ref R), x3] ∧ Kept b H (upd G4 R (.lst (ys ++ [v]))) ∧ BoxAt (upd G4 R (.lst (ys ++ [v]))) b ∧ upd G4 R (.lst (ys ++ [v])) U = some (.lst xs) ∧ (∀ v' ∈ xs, PrX (upd G4 R (.lst (ys ++ [v]))) v') ∧ upd G4 R (.lst (ys ++ [v])) R = some (.lst zs) ∧ (∀ v' ∈ zs, PrX (upd G4 R (.lst (ys ++ [v]))) v') ∧ zs.length = i + 1 := fun v G4 k4 b4 hv => by
        have hR4 := k4 _ _ Rb (k3 _ _ Rb hR2)
        refine ⟨_, ys ++ [v], rfl, ((k2.trans k3).trans k4).put nR0, ?_, ?_, fun v' h' => ?_, upd_same, fun v' h' => ?_, by rw [List.length_append, ly]; rfl⟩
        · obtain ⟨ob, eb, yb⟩ := b4
          exact ⟨ob, by rw [upd_ne (Ne.symm Rb)]; exact eb, yb⟩
        · rw [upd_ne UR]
          exact k4 _ _ Ub (k3 _ _ Ub hU2)
        · exact (((hx2 v' h').kept b2 k3).kept b3 k4).put hR4
        · rcases List.mem_append.mp h' with h' | h'
          · exact (((hy2 v' h').kept b2 k3).kept b3 k4).put hR4
          · rw [List.mem_singleton] at h'
            rw [h']
            exact hv.put hR4
      refine ite2 (fun _ => ?_) (fun _ => ?_)
      · refine ⟨_, rfl, _, rfl, b, U, xs, rfl, b3, Ub, SqL.of (k3 _ _ Ub hU2), by rw [lx]; decide, by rw [lx]; decide, fun v ov hv hov => ?_⟩
        refine ⟨R, ys, _, rfl, rfl, Kept.box _ _ Rb (k3 _ _ Rb hR2), small1000 (by omega), fin v _ Kept.box (BoxAt.box hov) ?_⟩
        exact ((hx2 v hv).kept b2 k3).kept b3 Kept.box
      · refine ⟨_, rfl, b, rfl, b3, fun p rd G4 k4 b4 hp hd => ?_⟩
        exact ⟨R, ys, _, rfl, rfl, k4 _ _ Rb (k3 _ _ Rb hR2), small1000 (by omega), fin (.ref p) G4 k4 b4 ⟨rd, p, rfl, hp, hd⟩⟩
    · rintro σ G2 ⟨x3, ys, rfl, k2, b2, hU2, hx2, hR2, hy2, ly⟩
      refine ⟨_, rfl, _, rfl, b, 4, rfl, b2, by decide, by decide, fun r' o' r0' r1' ho' => ⟨rfl, (by show 2 ≤ sizeLine; decide), fun p np => ?_⟩⟩
      have k3 : Kept b G2 (upd G2 b o') := Kept.box
      have b3 : BoxAt (upd G2 b o') b := BoxAt.box ho'
      generalize upd G2 b o' = G3 at k3 b3 np ⊢
      have sp := Same.new np (o := .tup [.ref R, .bl (decide (V.int r' = V.int 0))])
      exact k p R ys _ _ ((k2.trans k3).trans (Kept.of_same sp)) (BoxAt.same sp b3) upd_same (sp _ _ (k3 _ _ Rb hR2)) Rb (fun v hv => ((hy2 v hv).kept b2 k3).same sp) (by omega)
end
end Lay
set_option Elab.async false
set_option linter.all false
set_option maxRecDepth 100000
set_option maxHeartbeats 800000
set_option pp.maxSteps 900
namespace Lay
open PySem PySem.Spec PyProof.Rows L2 KwX StX
theorem RowsAt.append {C : Addr} {H : Hp} {xs ys : List V} {rs qs : List RD} (h : RowsAt C H xs rs) (g : RowsAt C H ys qs) : RowsAt C H (xs ++ ys) (rs ++ qs) := by
  refine ⟨by rw [List.length_append, List.length_append, h.1, g.1], fun r hr => ?_, fun i x r hx hr => ?_⟩
  · rcases List.mem_append.mp hr with hr | hr
    · exact h.2.1 r hr
    · exact g.2.1 r hr
  · by_cases hi : i < xs.length
    · rw [List.getElem?_append_left hi] at hx
      rw [List.getElem?_append_left (by rw [← h.1]; exact hi)] at hr
      exact h.2.2 i x r hx hr
    · rw [List.getElem?_append_right (by omega)] at hx
      rw [List.getElem?_append_right (by rw [← h.1]; omega), ← h.1] at hr
      exact g.2.2 _ x r hx hr
theorem RowsAt.isP {K : PySem.W.Frag} {C : Addr} {H : Hp} {xs : List V} {rs : List RD} (c : ClsI K C) (h : RowsAt C H xs rs) : ∀ v ∈ xs, IsP K C H v true := fun v hv => by
  obtain ⟨i, hi⟩ := List.mem_iff_getElem?.mp hv
  have li := (List.getElem?_eq_some_iff.mp hi).1
  rw [h.1] at li
  obtain ⟨q, rfl, hq⟩ := h.2.2 i v rs[i] hi (by simp [li])
  exact hq.isP c
section
variable {X : Cx} {K : PySem.W.Frag}
theorem pg_tupK {es : List Expr} {k : Nat} {t : TGs} {n : Nat} {pos : Pos} (hK : X.K = K) (hc : X.calm = true) (h : PGs X es t) (hn : (assignEach es X.env).length = n := by rfl) (hst : (assignEach es X.env).findIdx? (·.1) = none := by rfl) : PG X (.Tuple es k pos) (gTup K n t) := by
  subst hK
  exact pg_tup hc h hn hst
end
theorem Paired.nth {α β : Type} {F : α → β → Prop} : ∀ {a : List α} {b : List β}, Paired F a b → ∀ {i : Nat} {x : α}, a[i]? = some x → ∃ y, b[i]? = some y ∧ F x y
  | _, _, .nil, i, x, e => by cases i <;> cases e
  | _, _, .cons h t, 0, x, e => by
    cases e
    exact ⟨_, rfl, h⟩
  | _, _, .cons h t, i + 1, x, e => Paired.nth t (i := i) e
abbrev sToolOf : Stmt := top 90
def spToolOf (K : PySem.W.Frag) (C CT : Addr) : Sp := fun vs H Q _ => ∃ (p R : Addr) (xs : List V) (rs : List RD) (s : Bool), vs = [.ref p] ∧ H p = some (.tup [.ref R, .bl s]) ∧ H R = some (.lst xs) ∧ Paired (PrG H) xs rs ∧ xs.length ≤ 100 ∧
  ∀ y G, Same H G → TlAt K C CT G y rs s → Q (.ref y) G
section
variable {P : Program} {w : World} {K : PySem.W.Frag} {mg : Str → Option Value} {base : Heap}
theorem scToolOf : FnScope ["_law_tool_here", "_law_tests", "_law_deeds"] ["_law_tool_here"] (defScope sToolOf) := ⟨rfl, rfl, rfl, by decide +kernel, rfl, by decide +kernel, by decide +kernel⟩
theorem ok_toolOf {f fR fT C CT : Addr} {fd fdR fdT : FuncData} (F : Fun K "_law_tool_of" "_law_tool_of" sToolOf f fd) (c0 : ClsI K C) (MR : Mk K C fR) (GR : FnOk P w K mg base CX0 3 fR fdR ["self", "tests", "deeds"] (spRowG K C)) (gR : mg "Row" = some (.ref C)) (bR : Binds K fdR ["self", "tests", "deeds"] [])
    (MT : Mk K CT fT) (GT : FnOk P w K mg base CX0 3 fT fdT ["self", "rows", "sorts"] (spToolG K C CT)) (gT : mg "Tool" = some (.ref CT)) (bT : Binds K fdT ["self", "rows", "sorts"] []) : FnOk P w K mg base CX0 5 f fd ["_law_tool_here"] (spToolOf K C CT) := by
  refine F.ok scToolOf (fun vs H Q E h => ?_) (fun cdv A outer s H vs Q E hr h => ?_)
  · obtain ⟨p, R, xs, rs, b, rfl, _⟩ := h
    rfl
  · obtain ⟨p, R, xs, rs, b, rfl, hp, hR, hrs, lx, k⟩ := h
    refine ⟨_, pss_one (ps_ret (pe_make MT GT hr (by rfl) gT bT .nil pass0 (pa_cons
      (pe_lc (own := [("_law_tests", 1), ("_law_deeds", 2)]) (tt := tYes) (by rfl) scToolOf.nd (pi_list (pe_ix ix_tup (pv 0) pe_int (fun _ _ => rfl))) (blkOk_by (N := ["_law_tool_here", "_law_tests", "_law_deeds"]) (sc := defScope sToolOf) (by decide +kernel))
        (fun _ _ _ _ _ => pg_tupK (K := K) (n := 2) rfl rfl (pgs_cons (pg_name (i := 1) scToolOf.nd rfl (Or.inl rfl)) (pgs_cons (pg_name (i := 2) scToolOf.nd rfl (Or.inl rfl)) pgs_nil))) (fun _ _ _ _ _ => pts_nil)
        (fun _ _ _ _ _ => pe_make MR GR hr (by rfl) gR bR .nil pass0 (pa_cons (pv 1) (pa_cons (pv 2) pa_nil))))
      (pa_cons (pe_ix ix_tup (pv 0) pe_int (fun _ _ => rfl)) pa_nil)))), ?_⟩
    have lr := Paired.length hrs
    refine ⟨_, rfl, p, _, 0, .ref R, rfl, rfl, SqT.of hp, rfl, R, rfl, ⟨_, SqL.of hR⟩, fun D nD => lc_list (xs := xs) (fun i G => ∃ acc : List V, Same H G ∧ G D = some (.lst acc) ∧ RowsAt C G acc (rs.take i)) ⟨[], Same.new nD, upd_same, rfl, fun r h => (List.not_mem_nil h).elim, fun i x r h => by simp at h⟩ (fun i G _ q => by obtain ⟨acc, q, _⟩ := q; exact SqL.of (q _ _ hR)) ?_ ?_⟩
    · rintro i x G hi ⟨acc, sG, hD, ra⟩
      obtain ⟨r, er, q, rfl, hq, dr⟩ := Paired.nth hrs hi
      obtain ⟨tt, d, h1, h2, h3⟩ := hq.same sG
      obtain ⟨o, gt, gd⟩ := dr.good
      refine ⟨q, _, rfl, SqT.of h1, rfl, _, _, rfl, _, _, rfl, rfl, rfl, _, rfl, _, rfl, fun y dx ny nd ne => ?_⟩
      have zz := (Same.new nd (o := .own y)).trans (Same.new (fresh_own (o := .own y) ny ne) (o := .ins C dx []))
      refine ⟨y, dx, tt, d, r, rfl, upd_same, .inr (zz _ _ h2), .inr (zz _ _ h3), o, gt, gd, fun G2 kp hy => ⟨rfl, acc, ?_, ?_, acc ++ [.ref y], fun c u e => ?_, upd_same, ?_⟩⟩
      · exact made_same ny nd kp _ _ hD
      · rw [ra.1, List.length_take]
        exact smallT (by omega)
      · rw [upd_ne (ne_of_none e nD)]
        exact made_same ny nd kp _ _ (sG _ _ e)
      · have sm := made_same ny nd kp
        have hD2 := sm _ _ hD
        have r1 : RowsAt C G2 [V.ref y] [r] := ⟨rfl, fun r' h => by
          rw [List.mem_singleton] at h
          rw [h]
          exact o, fun n x r' hx hr => by
          cases n with
          | zero =>
            cases hx
            cases hr
            exact ⟨y, rfl, hy⟩
          | succ n => cases hx⟩
        have r2 := (ra.same sm).append r1
        rw [List.take_succ, er]
        refine ⟨r2.1, r2.2.1, fun n x r' hx hr => ?_⟩
        obtain ⟨q2, e2, dx2, t2, d2, g1, g2, g3⟩ := r2.2.2 n x r' hx hr
        exact ⟨q2, e2, dx2, t2, d2, by rw [upd_ne (ne_of g1 hD2 (fun z => nomatch z))]; exact g1, by rw [upd_ne (ne_of g2 hD2 (fun z => nomatch z))]; exact g2, by rw [upd_ne (ne_of g3 hD2 (fun z => nomatch z))]; exact g3⟩
    · rintro G ⟨acc, sG, hD, ra⟩
      rw [lr, List.take_length] at ra
      refine ⟨_, rfl, p, _, 1, .bl b, rfl, rfl, SqT.of (sG _ _ hp), rfl, fun y dx ny nd ne => ?_⟩
      have zz := (Same.new nd (o := .own y)).trans (Same.new (fresh_own (o := .own y) ny ne) (o := .ins CT dx []))
      refine ⟨y, dx, D, acc, b, rfl, upd_same, .inl (zz _ _ hD), by rw [ra.1]; omega, (ra.same zz).isP c0, fun G2 tt htt kp hy => ⟨rfl, ?_⟩⟩
      have sm := made_same ny nd kp
      exact k y G2 (sG.trans sm) ⟨dx, tt, acc, hy, htt, ra.same sm⟩
end
end Lay
set_option Elab.async false
set_option linter.all false
set_option maxRecDepth 100000
set_option maxHeartbeats 800000
set_option pp.maxSteps 900
namespace Lay
open PySem PySem.Spec PyProof.Rows L2
/-! ### data stay -/
mutual
theorem Dp.same {K : PySem.W.Frag} {H H' : Hp} (s : Same H H') : ∀ {v : V} {d : PyData}, Dp K H v d → Dp K H' v d
  | _, _, .non => .non
  | _, _, .bl b => .bl b
  | _, _, .int i => .int i
  | _, _, .str x => .str x
  | _, _, .lst h t => .lst (s.seq h) (DpAll.same s t)
  | _, _, .tup h t => .tup (SqT.same s h) (DpAll.same s t)
theorem DpAll.same {K : PySem.W.Frag} {H H' : Hp} (s : Same H H') : ∀ {vs : List V} {ds : List PyData}, DpAll K H vs ds → DpAll K H' vs ds
  | _, _, .nil => .nil
  | _, _, .cons h t => .cons (Dp.same s h) (DpAll.same s t)
end
end Lay
set_option Elab.async false
set_option linter.all false
set_option maxRecDepth 100000
set_option maxHeartbeats 800000
set_option pp.maxSteps 900
namespace Lay
open PySem PySem.Spec PyProof.Rows L2
/-! ### sorted(xs, key=f), f a def of one's own that makes no exceptions: its keys are data without lists -/
/-- an object is taken out -/
def hole (h : Heap) (a : Addr) : Heap := h.update a fun o => { o with data := .freed }
theorem hole_at {h : Heap} {a : Addr} : (hole h a).get? a = none := by
  unfold hole Heap.update Heap.get?
  obtain ⟨objs, l⟩ := h
  dsimp only
  rw [Array.getElem?_modify, if_pos rfl]
  cases objs[a]? <;> rfl
theorem hole_ne {h : Heap} {a b : Addr} (n : b ≠ a) : (hole h a).get? b = h.get? b := (Heap.SameBut.update h a _).2 b n
theorem each_vals {R : V → β → Prop} : ∀ {us : List Value} {bs : List β}, PySem.W.EachIs (fun u b => ∃ x, RelV x u ∧ R x b) us bs → ∃ ys : List V, Vals ys us ∧ Paired R ys bs
  | _, _, .nil => ⟨[], .nil, .nil⟩
  | _, _, .cons ⟨x, r, h⟩ t => by
    obtain ⟨ys, h1, h2⟩ := each_vals t
    exact ⟨x :: ys, .cons r h1, .cons h h2⟩
theorem vals_each {R : V → β → Prop} : ∀ {ys : List V} {us : List Value} {bs : List β}, Vals ys us → Paired R ys bs → PySem.W.EachIs (fun u b => ∃ x, RelV x u ∧ R x b) us bs
  | _, _, _, .nil, .nil => .nil
  | _, _, _, .cons r t, .cons h t2 => .cons ⟨_, r, h⟩ (vals_each t t2)
theorem vals_nth : ∀ {xs : List V} {us : List Value} {i : Nat} {u : Value}, Vals xs us → us[i]? = some u → ∃ x, xs[i]? = some x ∧ RelV x u
  | _, _, _, _, .nil, h => by cases h
  | _, _, 0, _, .cons r _, h => by
    cases h
    exact ⟨_, rfl, r⟩
  | _, _, i + 1, _, .cons _ t, h => vals_nth t (i := i) h
theorem dpAll_snoc {K : PySem.W.Frag} {H : Hp} {v : V} {d : PyData} (h : Dp K H v d) : ∀ {vs : List V} {ds : List PyData}, DpAll K H vs ds → DpAll K H (vs ++ [v]) (ds ++ [d])
  | _, _, .nil => .cons h .nil
  | _, _, .cons a t => .cons a (dpAll_snoc h t)
section
variable {X : Cx} {f : Addr} {n : Nat} {fd : FuncData} {p : Str} {sp : Sp} {β : Type}
def rSortK (f : Addr) (K : PySem.W.Frag) (R : Hp → V → β → Prop) (k : β → PyData) : List V → List V → Hp → VK → Prop := fun vs zs H Q => ∃ (a : Addr) (xs : List V) (bs : List β), vs = [.ref a] ∧ zs = [.ref f] ∧ SqL K H a xs ∧ Paired (R H) xs bs ∧ bs.length ≤ 1000 ∧
  ∀ (l : Addr) (ys : List V) (H' : Hp), Same H H' → H l = none → H' l = some (.lst ys) → Paired (R H') ys (bs.mergeSort (PySem.W.dataLe false k)) → Q (.ref l) H'
theorem reads_each {pins : List (Addr × Obj)} {σ : L2.St} {H : Hp} {s : Shared} (I : Inv X pins σ H s) : ∀ {ks : List V} {us : List Value} {ds : List PyData}, Vals ks us → DpAll X.K H ks ds → PySem.W.EachIs (fun v d => ∃ as, Reads s.heap v d as) us ds
  | _, _, _, .nil, .nil => .nil
  | _, _, _, .cons r t, .cons h t2 => .cons (Dp.reads I _ _ _ h r) (reads_each I t t2)
def FreshA (X : Cx) (pins : List (Addr × Obj)) (b : Addr) : Prop := b ≠ X.env.locals ∧ b ∉ X.fs ∧ X.s_0.heap.objs.size ≤ b ∧ (∀ x c, X.env.cells.lookup x = some c → c ≠ b) ∧ ∀ p ∈ X.pn ++ pins, p.1 ≠ b
theorem fresh_of {pins : List (Addr × Obj)} {σ : L2.St} {H : Hp} {s : Shared} {b : Addr} (I : Inv X pins σ H s) (hb : s.heap.objs.size ≤ b) : FreshA X pins b :=
  ⟨(Nat.ne_of_lt (Nat.lt_of_lt_of_le I.lt hb)).symm, I.nofs hb, Nat.le_trans I.sz hb, fun x c e z => by
    obtain ⟨v, o, ho, _⟩ := I.cell x c e
    rw [z] at ho
    exact absurd (Heap.lt_size ho) (Nat.not_lt.mpr hb), fun p hp z => by
    have := (I.pin p hp).1
    rw [z] at this
    exact absurd (Heap.lt_size this) (Nat.not_lt.mpr hb)⟩
abbrev two (pins : List (Addr × Obj)) (kS a : Addr) (o o2 : Obj) : List (Addr × Obj) := pins ++ [(kS, o), (a, o2)]
theorem pins_two {pins : List (Addr × Obj)} {σ : L2.St} {H : Hp} {s : Shared} {kS a : Addr} {o o2 : Obj} (I : Inv X pins σ H s) (fk : FreshA X pins kS) (fa : FreshA X pins a) (hk : s.heap.get? kS = some o) (ha : s.heap.get? a = some o2) (nk : H kS = none) (na : H a = none) (d : ∀ v, o.data ≠ .cell v) (d2 : ∀ v, o2.data ≠ .cell v) : Inv X (two pins kS a o o2) σ H s :=
  I.pins_of fun p hp => by
    rcases List.mem_append.mp hp with hp | hp
    · exact I.pin p (List.mem_append_right _ hp)
    · simp only [List.mem_cons, List.not_mem_nil, or_false] at hp
      rcases hp with rfl | rfl
      · exact ⟨hk, nk, fk.1, fk.2.1, d⟩
      · exact ⟨ha, na, fa.1, fa.2.1, d2⟩
theorem two_k {pins : List (Addr × Obj)} {σ : L2.St} {H : Hp} {s : Shared} {kS a : Addr} {o o2 : Obj} (I : Inv X (two pins kS a o o2) σ H s) : s.heap.get? kS = some o ∧ H kS = none := by
  have := I.pin (kS, o) (List.mem_append_right _ (List.mem_append_right _ List.mem_cons_self))
  exact ⟨this.1, this.2.1⟩
theorem two_a {pins : List (Addr × Obj)} {σ : L2.St} {H : Hp} {s : Shared} {kS a : Addr} {o o2 : Obj} (I : Inv X (two pins kS a o o2) σ H s) : s.heap.get? a = some o2 ∧ H a = none := by
  have := I.pin (a, o2) (List.mem_append_right _ (List.mem_append_right _ (List.mem_cons_of_mem _ List.mem_cons_self)))
  exact ⟨this.1, this.2.1⟩
theorem two_drop {pins : List (Addr × Obj)} {σ : L2.St} {H : Hp} {s : Shared} {kS a : Addr} {o o2 : Obj} (I : Inv X (two pins kS a o o2) σ H s) : Inv X pins σ H s :=
  I.pins_of fun p hp => I.pin p (List.mem_append_right _ (List.mem_append_left _ hp))
/-- untracked objects that are not seen change -/
theorem inv_put {pins : List (Addr × Obj)} {σ : L2.St} {H Hf : Hp} {s : Shared} {h' : Heap} {tk : Nat} {ch : List Addr} (I : Inv X pins σ H s) (fr : ∀ b ∈ ch, FreshA X pins b ∧ H b = none) (k : ∀ b o, b ∉ ch → s.heap.get? b = some o → h'.get? b = some o)
    (hf : ∀ b, b ∉ ch → Hf b = H b) (hc : ∀ b ∈ ch, ∀ o, Hf b = some o → ObjOk X.prog X.w Hf h' b o) : Inv X pins σ Hf { s with heap := h', toks := tk } := by
  have nch : ∀ {b : Addr} {o : HO}, H b = some o → b ∉ ch := fun e z => by
    rw [(fr _ z).2] at e
    cases e
  refine I.step (g' := s.gens) (d' := s.drawn) (ch := ch) (fun b hb => ?_) (fun b o _ _ hc' e _ => k b o hc' e) (fun b o _ _ hc' e _ => ⟨o.slots, k b o hc' e⟩) (fun b o hc' _ n => by rw [hf b hc']; exact n)
    (fun b o hc' e => ⟨o, k b o hc' e⟩) (fun b xs e => by rw [hf b (nch e)]; exact e) (fun b o u e => by rw [hf b (nch e)]; exact e) (fun b ps e => ⟨#[], by rw [hf b (nch e), e]; simp⟩) (fun m hm => ?_) (fun b u e => ?_) I.bare
  · obtain ⟨f1, f2, f3, f4, f5⟩ := (fr b hb).1
    exact ⟨.inr f3, f1, f4, f5⟩
  · obtain ⟨o, es, ep, ho, r⟩ := hm
    exact ⟨o, es, ep, k _ o (fun z => (fr _ z).1.1 rfl) ho, r⟩
  · by_cases hb : b ∈ ch
    · exact hc b hb u e
    · rw [hf b hb] at e
      exact (I.hok b u e).stay (fun c v hc' q => k c v (by
        rcases hc' with z | z
        · rw [z]; exact hb
        · exact nch z) q) (fun c z => by rw [hf c (nch z)]; exact z) fun c xs z => by rw [hf c (nch z)]; exact z
/-- a def called beneath that makes no exception -/
theorem run_subF {A : Around} {pins : List (Addr × Obj)} {σ : L2.St} {H : Hp} {s : Shared} {Q : VK} {us : List Value} {vs : List V} {ps : List Str} {Post : Value → Shared → Prop} (F : FnOk X.prog X.w X.K X.mg X.base CX0 n f fd ps sp) (hr : Sub X n A) (hb : Binds X.K fd ps [])
    (I : Inv X pins σ H s) (r : Vals vs us) (h : sp vs H Q E0) (post : ∀ v u H' s', Inv X pins σ H' s' → RelV v u → Q v H' → Post u s') : wpAny (model X.prog X.w) A (call (.ref f) us) Post (fun _ _ => False) s := by
  have hl : us.length = ps.length := by rw [← r.length]; exact F.len _ _ _ _ h
  have b := hb s us I.kIn (by rw [List.append_nil]; exact hl)
  rw [List.append_nil] at b
  have e := I.env0
  have e0 : Env0 X.prog X.w X.K X.mg X.base A X.stack s H := ⟨by rw [hr.fr]; exact e.frames, e.mod, e.bs, e.bsz, e.funs, e.frf, e.hok, e.bare⟩
  refine wpAny_call (codeAny_mono (F.run A X.stack s H ⟨us, []⟩ us vs Q E0 hr.room e0 b r h) fun r s' hq => ?_)
  cases r with
  | error er => exact hq
  | ok fl =>
    cases fl with
    | ret u =>
      obtain ⟨v, H', I', rv, q⟩ := I.after hq
      exact post v u H' s' I' rv q
    | next => exact False.elim hq
    | brk => exact False.elim hq
    | cont => exact False.elim hq
theorem sortK_rest {K : PySem.W.Frag} (hK : X.K = K) {R : Hp → V → β → Prop} {k : β → PyData} (F : FnOk X.prog X.w K X.mg X.base CX0 n f fd [p] sp) (hr : Room (n + 2) X.A) (hb : Binds K fd [p] [])
    (al : ∀ a b, PySem.W.alike (k a) (k b) = true) (so : ∀ b, ∃ x r, k b = .tuple (x :: r)) (dp : ∀ b, (k b).depth ≤ 60) (hu : X.A.units + 64 < cLine)
    (same : ∀ {H H' : Hp} {x : V} {b : β}, Same H H' → R H x b → R H' x b) (turn : ∀ (H : Hp) (x : V) (b : β) (Q : VK), R H x b → (∀ v H', Same H H' → Dp K H' v (k b) → Q v H') → sp [x] H Q E0)
    {pins : List (Addr × Obj)} {σ : L2.St} {H : Hp} {s : Shared} {Q : VK} {a kS : Addr} {e1 : Nat} {its : List Value} {xs : List V} {bs : List β} {E' : Value → Shared → Prop} (I : Inv X pins σ H s) (ha : s.heap.get? a = some (seqObj "list" #[] e1)) (hk : s.heap.get? kS = some (seqObj "list" #[] 0)) (fa : FreshA X pins a) (fk : FreshA X pins kS) (na : H a = none) (nk : H kS = none) (ne : kS ≠ a)
    (rv : Vals xs its) (hR : Paired (R H) xs bs) (hl : bs.length ≤ 1000) (q : ∀ (ys : List V) (Hf : Hp), Same H Hf → Hf a = some (.lst ys) → Paired (R Hf) ys (bs.mergeSort (PySem.W.dataLe false k)) → Q (.ref a) Hf) :
    wpAny (model X.prog X.w) X.A.in1.in1 (ksk_rest a (.ref f) false its.toArray e1 (.ref kS)) (fun f s' => f = .done (.ret .none) ∧ EP X pins σ Q (.ref a) s') E' s := by
  subst hK
  have lxs := Paired.length hR
  have lits : its.length = bs.length := by rw [← rv.length, lxs]
  have hL : bs.length ≤ sizeLine := Nat.le_trans hl (by decide)
  have hal : PySem.W.AllAlike (bs.map k) := PySem.W.AllAlike.of fun b b' => al b b'
  have hsk : PySem.W.Sortable (bs.map k) := PySem.W.Sortable.tuples so
  have cl : ∀ (xs : Array Value) (e : Nat) (v : Option Value), (seqObj "list" xs e).data ≠ .cell v := fun xs e v z => nomatch z
  unfold ksk_rest
  refine wpAny_bind (wpAny_rule ?_)
  rw [List.forIn_toArray]
  refine wpAny_bind (ksk_fold (fun i s' => ∃ (H' : Hp) (kA : Array Value) (e : Nat) (ks : List V), Inv X (two pins kS a (seqObj "list" kA e) (seqObj "list" #[] e1)) σ H' s' ∧ Same H H' ∧ Vals ks kA.toList ∧ ks.length = i ∧ DpAll X.K H' ks ((bs.take i).map k)) its 0 s
    ⟨H, #[], 0, [], pins_two I fk fa hk ha nk na (cl _ _) (cl _ _), fun _ _ z => z, .nil, rfl, .nil⟩ ?step ?done)
  case step =>
    rintro j u s' hx ⟨H', kA, e, ks, I', sH, vk, lk, dk⟩
    simp only [Nat.zero_add] at lk dk ⊢
    have hj : j < its.length := (List.getElem?_eq_some_iff.mp hx).1
    obtain ⟨x, hxj, rx⟩ := vals_nth rv hx
    obtain ⟨b, hbj, hRb⟩ := Paired.nth hR hxj
    have hkj : (bs.take (j + 1)).map k = (bs.take j).map k ++ [k b] := by rw [List.take_succ, hbj, List.map_append]; rfl
    refine wpAny_bind (wpAny_attempt (wpAny_mono (run_subF (Q := fun v H2 => Same H' H2 ∧ Dp X.K H2 v (k b)) (Post := fun w s2 => ∃ v H2, Inv X (two pins kS a (seqObj "list" kA e) (seqObj "list" #[] e1)) σ H2 s2 ∧ RelV v w ∧ Same H' H2 ∧ Dp X.K H2 v (k b)) F ⟨hr.in1.in1, rfl⟩ hb I' (.cons rx .nil) (turn H' x b _ (same sH hRb) fun v H2 s2 d2 => ⟨s2, d2⟩) fun v w H2 s2 I2 r2 q2 => ⟨v, H2, I2, r2, q2.1, q2.2⟩) (fun w s2 he => ?_) fun _ _ hF => hF.elim))
    obtain ⟨v, H2, I2, r2, s12, d2⟩ := he
    try dsimp only
    obtain ⟨gk, nk2⟩ := two_k I2
    obtain ⟨ga, na2⟩ := two_a I2
    have hsz : kA.size = j := by
      have h1 := Vals.length vk
      have h2 : kA.toList.length = kA.size := Array.length_toList
      omega
    have hj2 : j ≤ 1000 := by omega
    have s3 := Heap.SameBut.update s2.heap kS (Obj.mapSeq (·.push w))
    obtain ⟨c2, hc2⟩ : ∃ c2, (s2.heap.update kS (Obj.mapSeq (·.push w))).get? kS = some (seqObj "list" (kA.push w) c2) := ⟨_, get?_update_seq gk (·.push w)⟩
    have small : (1001 : Nat) ≤ sizeLine := by decide
    refine wpAny_bind (listUpdate_at gk rfl ?_ (by omega) (by rw [Array.size_push]; omega))
    refine wpAny_pure ⟨rfl, H2, kA.push w, c2, ks ++ [v], ?_, sH.trans s12, ?_, by rw [List.length_append, lk]; rfl, ?_⟩
    · have I3 := inv_put (h' := s2.heap.update kS (Obj.mapSeq (·.push w))) (tk := s2.toks) (Hf := H2) (ch := [kS]) (two_drop I2) (fun b hb => by
        rw [List.mem_singleton.mp hb]
        exact ⟨fk, nk2⟩) (fun b o hb eo => (s3.2 b fun z => hb (by rw [z]; exact List.mem_singleton.mpr rfl)).trans eo) (fun _ _ => rfl) (fun b hb o eo => by
        rw [List.mem_singleton.mp hb, nk2] at eo
        cases eo)
      exact pins_two I3 fk fa hc2 ((s3.2 a ne.symm).trans ga) nk2 na2 (cl _ _) (cl _ _)
    · rw [Array.toList_push]
      exact vk.append (.cons r2 .nil)
    · rw [hkj]
      exact dpAll_snoc d2 (Lay.DpAll.same s12 dk)
  case done =>
    rintro s' ⟨H', kA, e, ks, I', sH, vk, lk, dk⟩
    rw [show bs.take (0 + its.length) = bs from List.take_of_length_le (by omega)] at dk
    have hk' : PySem.W.EachIs (fun v d => ∃ as, Reads s'.heap v d as) kA.toList (bs.map k) := reads_each I' vk dk
    have hsz : kA.size = its.length := by
      have h1 := Vals.length vk
      have h2 : kA.toList.length = kA.size := Array.length_toList
      omega
    obtain ⟨gk, nk2⟩ := two_k I'
    obtain ⟨ga, na2⟩ := two_a I'
    try dsimp only
    refine wpAny_bind (listItems_at gk rfl ?_)
    refine PySem.W.keyH_end (κ := PySem.W.dataKind s'.heap (bs.map k)) (h₁ := hole s'.heap kS) (fun b o hb eo => ?_) hole_at gk ga ne (PySem.W.SortsAt.data (s := s') hk' hal hsk fun d hd => ?_) hsz (by omega) fun h3 tk3 c k3 n3 => ⟨rfl, ?_⟩
    · by_cases z : b = kS
      · rw [z, hole_at] at eo
        cases eo
      · rw [hole_ne z] at eo
        exact eo
    · obtain ⟨b, _, rfl⟩ := List.mem_map.mp hd
      have h1 := dp b
      show X.A.units + 1 + 1 + (k b).depth < cLine
      omega
    have eo := PySem.W.keyedOut_each k (rev := false) (out := PySem.W.sortVals (PySem.W.dataKind s'.heap (bs.map k)) false kA.toList its) ⟨s'.heap, kA.toList, hal, rfl, hk'⟩ (vals_each rv hR)
    obtain ⟨ys, vy, hy⟩ := each_vals eo
    have sF : Same H (upd H' a (.lst ys)) := same_put sH na
    refine ⟨.ref a, upd H' a (.lst ys), ?_, rfl, q ys _ sF upd_same (Paired.mapP hy fun x b z => same sF z)⟩
    refine inv_put (ch := [kS, a]) (two_drop I') (fun b hb => ?_) (fun b o hb eo => ?_) (fun b hb => upd_ne fun z => hb (by rw [z]; exact List.mem_cons_of_mem _ List.mem_cons_self)) (fun b hb o eo => ?_)
    · simp only [List.mem_cons, List.not_mem_nil, or_false] at hb
      rcases hb with rfl | rfl
      · exact ⟨fk, nk2⟩
      · exact ⟨fa, na2⟩
    · simp only [List.mem_cons, List.not_mem_nil, or_false, not_or] at hb
      exact k3 b o hb.2 (by rw [hole_ne hb.1]; exact eo)
    · simp only [List.mem_cons, List.not_mem_nil, or_false] at hb
      rcases hb with rfl | rfl
      · rw [upd_ne ne, nk2] at eo
        cases eo
      · rw [upd_same] at eo
        cases eo
        have ly := Paired.length hy
        rw [List.length_mergeSort] at ly
        exact ⟨by omega, _, c, vy, n3⟩
theorem cr_sortK {K : PySem.W.Frag} (hK : X.K = K) {R : Hp → V → β → Prop} {k : β → PyData} (F : FnOk X.prog X.w K X.mg X.base CX0 n f fd [p] sp) (hr : Room (n + 2) X.A) (hb : Binds K fd [p] [])
    (al : ∀ a b, PySem.W.alike (k a) (k b) = true) (so : ∀ b, ∃ x r, k b = .tuple (x :: r)) (dp : ∀ b, (k b).depth ≤ 60) (hu : X.A.units + 64 < cLine)
    (same : ∀ {H H' : Hp} {x : V} {b : β}, Same H H' → R H x b → R H' x b) (turn : ∀ (H : Hp) (x : V) (b : β) (Q : VK), R H x b → (∀ v H', Same H H' → Dp K H' v (k b) → Q v H') → sp [x] H Q E0) :
    CallRK X (.builtin "sorted") [Str.ofString "key"] (rSortK f K R k) := by
  subst hK
  intro pins s σ H vs zs us ws Q I r rz h
  obtain ⟨a, xs, bs, rfl, rfl, hs, hR, hl, q⟩ := h
  obtain rfl := Vals.ref1 r
  obtain rfl := Vals.ref1 rz
  obtain ⟨its, rv, pl, hz⟩ := I.list hs
  have e := vals_each rv hR
  have lxs := Paired.length hR
  have lits : its.length = bs.length := by rw [← rv.length, lxs]
  have hL : bs.length ≤ sizeLine := Nat.le_trans hl (by decide)
  refine PySem.W.sorted_of_sort pl.isList (by omega) (ksk_s1 _ _) (fun _ => ksk_l1 _ _) fun E' => ?_
  have n1 : ∀ {b : Addr} {o : Obj}, s.heap.get? b = some o → b < s.heap.objs.size := fun e => Heap.lt_size e
  change wpAny (model X.prog X.w) X.A.in1.in1 (ksk_tree (s.heap.objs.size + 1) (.ref f) false) _ E' { s with heap := PySem.W.copyHeap s.heap its }
  have hcopy := PySem.W.copyHeap_at s.heap its
  obtain ⟨e1, ho1⟩ : ∃ e1, ((PySem.W.copyHeap s.heap its).update (s.heap.objs.size + 1) (Obj.mapSeq fun _ => (#[] : Array Value))).get? (s.heap.objs.size + 1) = some (seqObj "list" #[] e1) := ⟨_, get?_update_seq hcopy fun _ => #[]⟩
  unfold ksk_tree
  refine wpAny_bind (listItems_at hcopy rfl ?_)
  refine wpAny_bind (listUpdate_at hcopy rfl ?_ (by rw [List.size_toArray]; omega) (Nat.zero_le _))
  refine wpAny_bind (seqEpoch_at ho1 rfl ?_)
  refine wpAny_bind (wpAny_newTuple ?_ (by show its.length ≤ _; omega))
  refine wpAny_bind (wpAny_newList ?_ (Nat.zero_le _))
  refine wpAny_holding ?_
  have hz1 : ((PySem.W.copyHeap s.heap its).update (s.heap.objs.size + 1) (Obj.mapSeq fun _ => (#[] : Array Value))).objs.size = s.heap.objs.size + 2 := by
    rw [Heap.size_update]
    unfold PySem.W.copyHeap
    rw [size_push', Heap.size_update, size_push']
  have s1 := Heap.SameBut.update (PySem.W.copyHeap s.heap its) (s.heap.objs.size + 1) (Obj.mapSeq fun _ => (#[] : Array Value))
  have z2 : (((PySem.W.copyHeap s.heap its).update (s.heap.objs.size + 1) (Obj.mapSeq fun _ => (#[] : Array Value))).push (seqObj "tuple" its.toArray 0)).objs.size = s.heap.objs.size + 3 := by
    rw [size_push', hz1]
  have kp : ∀ b o, s.heap.get? b = some o → ((((PySem.W.copyHeap s.heap its).update (s.heap.objs.size + 1) (Obj.mapSeq fun _ => (#[] : Array Value))).push (seqObj "tuple" its.toArray 0)).push (seqObj "list" #[] 0)).get? b = some o := fun b o eo =>
    Heap.get?_push_of_some _ (Heap.get?_push_of_some _ ((s1.2 b (Nat.ne_of_lt (Nat.lt_succ_of_lt (Heap.lt_size eo)))).trans (PySem.W.copyHeap_old eo)))
  have I1 := I.kept (t' := s.toks) kp
  have ekS : (((PySem.W.copyHeap s.heap its).update (s.heap.objs.size + 1) (Obj.mapSeq fun _ => (#[] : Array Value))).push (seqObj "tuple" its.toArray 0)).objs.size = s.heap.objs.size + 3 := z2
  refine sortK_rest (R := R) (k := k) (a := s.heap.objs.size + 1) rfl F hr hb al so dp hu same turn I1 (kS := (((PySem.W.copyHeap s.heap its).update (s.heap.objs.size + 1) (Obj.mapSeq fun _ => (#[] : Array Value))).push (seqObj "tuple" its.toArray 0)).objs.size) (Heap.get?_push_of_some _ (Heap.get?_push_of_some _ ho1)) (Heap.get?_push_size _ rfl) (fresh_of I (Nat.le_succ _)) (fresh_of I (by rw [ekS]; omega)) (I.hok.fresh (Nat.le_succ _)) (I.hok.fresh (by rw [ekS]; omega)) (Nat.ne_of_gt (Nat.lt_of_lt_of_eq (by omega) ekS.symm)) rv hR hl fun ys Hf sF hf hy => q _ ys Hf sF (I.hok.fresh (Nat.le_succ _)) hf hy
end
end Lay
set_option Elab.async false
set_option linter.all false
set_option maxRecDepth 100000
set_option maxHeartbeats 800000
set_option pp.maxSteps 900
namespace Lay
open PySem PySem.Spec PyProof.Rows L2 SrtO
/-! ### pieces in order, pure -/
def keyD (d : PD) : PyData := .tuple [.str d.word, .tuple (d.parts.map .str)]
def fenceB (d : PD) : Bool := hasS d.ahead || (decide (d.blanks > 0) || d.left)
def srtL (ds : List PD) : List PD := ds.mergeSort (PySem.W.dataLe false keyD)
/-- the package: found, loose, the rest -/
def ordL : List PD → List PD → List PD → List PD
  | es, fs, [] => es ++ srtL fs
  | es, fs, d :: ds => if fenceB d = true then ordL (es ++ (srtL fs ++ [d])) [] ds else ordL es (fs ++ [d]) ds
def inOrd (ds : List PD) : List PD := ordL [] [] ds
theorem srt_len (ds : List PD) : (srtL ds).length = ds.length := List.length_mergeSort _
theorem srt_perm (ds : List PD) : (srtL ds).Perm ds := List.mergeSort_perm _ _
theorem ordL_perm : ∀ (ds es fs : List PD), (ordL es fs ds).Perm (es ++ (fs ++ ds))
  | [], es, fs => by
    show (es ++ srtL fs).Perm _
    rw [List.append_nil]
    exact (srt_perm fs).append_left es
  | d :: ds, es, fs => by
    unfold ordL
    split
    · refine (ordL_perm ds _ _).trans ?_
      rw [List.nil_append, List.append_assoc, List.append_assoc]
      exact ((srt_perm fs).append_right _).append_left es
    · refine (ordL_perm ds _ _).trans ?_
      rw [List.append_assoc]
      exact List.Perm.refl _
theorem inOrd_perm (ds : List PD) : (inOrd ds).Perm ds := ordL_perm ds [] []
theorem inOrd_len (ds : List PD) : (inOrd ds).length = ds.length := (inOrd_perm ds).length_eq
theorem alike_strs : ∀ xs ys : List Str, PySem.W.alikeAll (xs.map .str) (ys.map .str) = true
  | [], _ => by simp [PySem.W.alikeAll]
  | _ :: _, [] => by simp [PySem.W.alikeAll]
  | x :: xs, y :: ys => by
    show PySem.W.alikeAll (.str x :: xs.map .str) (.str y :: ys.map .str) = true
    rw [PySem.W.alikeAll, alike_strs xs ys]
    simp [PySem.W.alike]
theorem key_alike (a b : PD) : PySem.W.alike (keyD a) (keyD b) = true := by
  unfold keyD
  simp [PySem.W.alike, PySem.W.alikeAll, alike_strs]
theorem key_deep (d : PD) : (keyD d).depth ≤ 60 := by
  have := depth_strs d.parts
  unfold keyD
  simp only [PyData.depth, PyData.depthAll]
  omega
end Lay
set_option Elab.async false
set_option linter.all false
set_option maxRecDepth 100000
set_option maxHeartbeats 800000
set_option pp.maxSteps 900
namespace Lay
open PySem PySem.Spec PyProof.Rows L2 KwX StX
/-! ### pieces in order -/
abbrev sFence : Stmt := top 62
abbrev sKeyS : Stmt := top 63
abbrev sInOrd : Stmt := top 64
def PcR (K : PySem.W.Frag) (C : Addr) : Hp → V → PD → Prop := fun H x d => ∃ p, x = .ref p ∧ PieceAt K C H p d
theorem PcR.same {K : PySem.W.Frag} {C : Addr} {H H' : Hp} {x : V} {d : PD} (s : Same H H') (h : PcR K C H x d) : PcR K C H' x d := by
  obtain ⟨p, e, hp⟩ := h
  exact ⟨p, e, hp.same s⟩
theorem pair_ix {α β : Type} {R : α → β → Prop} : ∀ {xs : List α} {ds : List β}, xs.length = ds.length → (∀ (i : Nat) (x : α) (d : β), xs[i]? = some x → ds[i]? = some d → R x d) → Paired R xs ds
  | [], [], _, _ => .nil
  | x :: xs, d :: ds, l, h => .cons (h 0 x d rfl rfl) (pair_ix (Nat.succ.inj l) fun i y e h1 h2 => h (i + 1) y e h1 h2)
theorem ix_pair {α β : Type} {R : α → β → Prop} : ∀ {xs : List α} {ds : List β}, Paired R xs ds → ∀ (i : Nat) (x : α) (d : β), xs[i]? = some x → ds[i]? = some d → R x d
  | _, _, .nil, i, x, d, h, _ => by cases h
  | _, _, .cons r _, 0, x, d, h1, h2 => by
    cases h1
    cases h2
    exact r
  | _, _, .cons _ t, i + 1, x, d, h1, h2 => ix_pair t i x d h1 h2
theorem PcsAt.pair {K : PySem.W.Frag} {C : Addr} {H : Hp} {xs : List V} {ds : List PD} (h : PcsAt K C H xs ds) : Paired (PcR K C H) xs ds := pair_ix h.1 h.2.2
theorem pcs_of {K : PySem.W.Frag} {C : Addr} {H : Hp} {xs : List V} {ds : List PD} (h : Paired (PcR K C H) xs ds) (o : ∀ d ∈ ds, d.Ok ∧ d.parts.length ≤ 30) : PcsAt K C H xs ds := ⟨Paired.length h, o, ix_pair h⟩
def spFence (K : PySem.W.Frag) (C : Addr) : Sp := fun vs H Q _ => ∃ (p : Addr) (d : PD), vs = [.ref p] ∧ PieceAt K C H p d ∧ Q (.bl (fenceB d)) H
def spKeyS (K : PySem.W.Frag) (C : Addr) : Sp := fun vs H Q _ => ∃ (p : Addr) (d : PD), vs = [.ref p] ∧ PieceAt K C H p d ∧ ∀ v H', Same H H' → Dp K H' v (keyD d) → Q v H'
def spInOrd (K : PySem.W.Frag) (C : Addr) : Sp := fun vs H Q _ => ∃ (a : Addr) (xs : List V) (ds : List PD), vs = [.ref a] ∧ TupG K H a xs ∧ PcsAt K C H xs ds ∧ ds.length ≤ 100 ∧ ∀ l ys H', Same H H' → H l = none → H' l = some (.lst ys) → PcsAt K C H' ys (inOrd ds) → Q (.ref l) H'
section
variable {P : Program} {w : World} {K : PySem.W.Frag} {mg : Str → Option Value} {base : Heap}
theorem scFence : FnScope ["piece"] ["piece"] (defScope sFence) := ⟨rfl, rfl, rfl, by decide +kernel, rfl, by decide +kernel, by decide +kernel⟩
theorem ok_fence {f C : Addr} {fd : FuncData} (F : Fun K "is_fence" "is_fence" sFence f fd) (Z : PieceC K C) : FnOk P w K mg base CX0 1 f fd ["piece"] (spFence K C) := by
  refine F.ok scFence (fun vs H Q E h => ?_) (fun cdv A outer s H vs Q E hr h => ?_)
  · obtain ⟨p, d, rfl, _⟩ := h
    rfl
  · obtain ⟨p, d, rfl, ⟨dx, t, hp, ht⟩, k⟩ := h
    refine ⟨_, pss_one (ps_ret (pe_or (pe_cmpR op_ne (pe_fld (pv 0) rfl) pe_str (nomark _)) (pe_or (pe_cmpR op_gt (pe_fld (pv 0) rfl) pe_int (nomark _)) (pe_one (pe_fld (pv 0) rfl))))), ?_⟩
    refine ⟨_, rfl, p, C, dx, _, _, rfl, hp, Z.cl, Z.ahead, rfl, rfl, _, rfl, ?_⟩
    rw [ne_emp]
    unfold fenceB at k
    cases e : hasS d.ahead with
    | true =>
      rw [e] at k
      exact iteY rfl k
    | false =>
      rw [e] at k
      refine iteN rfl ⟨_, rfl, p, C, dx, _, _, rfl, hp, Z.cl, Z.blanks, rfl, _, _, rfl, rfl, _, rfl, ?_⟩
      by_cases e2 : d.blanks > 0
      · rw [decide_eq_true e2] at k
        exact iteY (decide_eq_true e2) k
      · rw [decide_eq_false e2] at k
        exact iteN (decide_eq_false e2) ⟨_, rfl, p, C, dx, _, _, rfl, hp, Z.cl, Z.left, rfl, k⟩
theorem scKeyS : FnScope ["piece"] ["piece"] (defScope sKeyS) := ⟨rfl, rfl, rfl, by decide +kernel, rfl, by decide +kernel, by decide +kernel⟩
theorem ok_keyS {f C : Addr} {fd : FuncData} (F : Fun K "sorting_key" "sorting_key" sKeyS f fd) (Z : PieceC K C) : FnOk P w K mg base CX0 1 f fd ["piece"] (spKeyS K C) := by
  refine F.ok scKeyS (fun vs H Q E h => ?_) (fun cdv A outer s H vs Q E hr h => ?_)
  · obtain ⟨p, d, rfl, _⟩ := h
    rfl
  · obtain ⟨p, d, rfl, ⟨dx, t, hp, ht⟩, k⟩ := h
    refine ⟨_, pss_one (ps_ret (pe_tup (pa_cons (pe_fld (pv 0) rfl) (pa_cons (pe_fld (pv 0) rfl) pa_nil)))), ?_⟩
    refine ⟨_, rfl, p, C, dx, _, _, rfl, hp, Z.cl, Z.word, rfl, _, rfl, p, C, dx, _, _, rfl, hp, Z.cl, Z.parts, rfl, (by show 2 ≤ sizeLine; decide), fun t2 nt => ?_⟩
    exact k _ _ (Same.new nt) (.tup (SqT.of upd_same) (.cons (.str _) (.cons (.tup (SqT.of (Same.new nt _ _ ht)) (strs_dp _)) .nil)))
def inOrdN : List Str := ["pieces", "found", "loose", "piece"]
theorem scInOrd : FnScope inOrdN ["pieces"] (defScope sInOrd) := ⟨rfl, rfl, rfl, by decide +kernel, rfl, by decide +kernel, by decide +kernel⟩
theorem ok_inOrd {f C fK : Addr} {fd dK : FuncData} (F : Fun K "in_order" "in_order" sInOrd f fd) (B : Bt mg) (DF : Has P w K mg base CX0 1 "is_fence" ["piece"] (spFence K C)) (GK : FnOk P w K mg base CX0 1 fK dK ["piece"] (spKeyS K C)) (gK : mg "sorting_key" = some (.ref fK)) (bK : Binds K dK ["piece"] []) : FnOk P w K mg base CX0 4 f fd ["pieces"] (spInOrd K C) := by
  refine F.ok scInOrd (fun vs H Q E h => ?_) (fun cdv A outer s H vs Q E hr h => ?_)
  · obtain ⟨a, xs, ds, rfl, _⟩ := h
    rfl
  · obtain ⟨a, xs, ds, rfl, ht, hx, few, k⟩ := h
    have hr1 := hr.mono (show 1 ≤ 3 by decide)
    have so : ∀ b : PD, ∃ x r, keyD b = .tuple (x :: r) := fun b => ⟨_, _, rfl⟩
    have turn : ∀ (H : Hp) (x : V) (b : PD) (Q : VK), PcR K C H x b → (∀ v H', Same H H' → Dp K H' v (keyD b) → Q v H') → spKeyS K C [x] H Q E0 := fun H x b Q ⟨p, e, hp⟩ k => ⟨p, b, by rw [e], hp, k⟩
    refine ⟨_, (pss_cons (ps_set (i := 1) scInOrd.nd rfl (.inl rfl) (pe_lst pa_nil))
    (pss_cons (ps_set (i := 2) scInOrd.nd rfl (.inl rfl) (pe_lst pa_nil))
    (pss_cons (ps_for PassesOwn.never rfl (pi_tup (pv 0)) (pg_name (i := 3) scInOrd.nd rfl (.inl rfl))
      (pss_one (ps_if (pt_val (pe_callH DF hr1 (by rfl) pass0 (pa_cons (pv 3) pa_nil)))
        (pss_cons (ps_expr (pe_bm PySem.F.plainAttrs_list PySem.F.slot_list_extend PySem.F.type_list_extend mt_extend (pv 1) (pa_cons (pe_lst (StX.pa_star (pe_callBK (cr_sortK (K := K) (R := PcR K C) (k := keyD) rfl GK hr bK key_alike so key_deep hr.units PcR.same turn) (by rfl) B.sorted (by decide +kernel) (pa_cons (pv 2) pa_nil) (pk_cons (pe_glob (v := .ref fK) (by rfl) gK rfl) pk_nil)) (pa_cons (pv 3) pa_nil))) pa_nil)))
        (pss_one (ps_set (i := 2) scInOrd.nd rfl (.inl rfl) (pe_lst pa_nil))))
        (pss_one (ps_expr (pe_bm PySem.F.plainAttrs_list PySem.F.slot_list_append PySem.F.type_list_append mt_append (pv 2) (pa_cons (pv 3) pa_nil)))))))
    (pss_one (ps_ret (pe_lst (StX.pa_star (pv 1) (StX.pa_star (pe_callBK (cr_sortK (K := K) (R := PcR K C) (k := keyD) rfl GK hr bK key_alike so key_deep hr.units PcR.same turn) (by rfl) B.sorted (by decide +kernel) (pa_cons (pv 2) pa_nil) (pk_cons (pe_glob (v := .ref fK) (by rfl) gK rfl) pk_nil)) pa_nil)))))))), ?_⟩
    refine ⟨Nat.zero_le _, fun F nF => ⟨Nat.zero_le _, fun Lo nLo => ?_⟩⟩
    have s0 := (Same.new nF (o := .lst [])).trans (Same.new nLo (o := .lst []))
    have nFL : F ≠ Lo := ne_of_none upd_same nLo
    have nLo0 : H Lo = none := (Same.new nF (o := .lst [])).free nLo
    refine ⟨_, rfl, a, rfl, ⟨_, (ht.same s0).sqT⟩, for_tup (K := K) (xs := xs) (fun i σ G => ∃ (Lo : Addr) (ys zs : List V) (es fs : List PD) (x3 : Option V), σ = [some (.ref a), some (.ref F), some (.ref Lo), x3] ∧ Same H G ∧ G F = some (.lst ys) ∧ G Lo = some (.lst zs) ∧ F ≠ Lo ∧ H Lo = none ∧ PcsAt K C G ys es ∧ PcsAt K C G zs fs ∧ es.length + fs.length = i ∧ ordL es fs (ds.drop i) = inOrd ds)
      ⟨Lo, [], [], [], [], _, rfl, s0, (by rw [upd_ne nFL]; exact upd_same), upd_same, nFL, nLo0, PcsAt.nil, PcsAt.nil, rfl, rfl⟩ (fun i σ G _ z => by
      obtain ⟨_, _, _, _, _, _, _, z, _⟩ := z
      exact (ht.same z).sqT) ?_ ?_⟩
    · rintro i x σ G hi ⟨Lo, ys, zs, es, fs, x3, rfl, sG, hF, hL, nFL, nL0, hE, hf, le, eo⟩
      have li := (List.getElem?_eq_some_iff.mp hi).1
      rw [hx.1] at li
      obtain ⟨d, ed⟩ : ∃ d, ds[i]? = some d := ⟨_, List.getElem?_eq_getElem li⟩
      obtain ⟨q, rfl, hq⟩ := hx.2.2 i x d hi ed
      obtain ⟨od, fd2⟩ := hx.2.1 d (List.mem_of_getElem? ed)
      have hqG := hq.same sG
      rw [List.drop_eq_getElem_cons li, (List.getElem?_eq_some_iff.mp ed).2] at eo
      have ly := hE.1
      have lz := hf.1
      unfold ordL at eo
      refine ⟨_, rfl, q, d, rfl, hqG, _, rfl, ?_⟩
      by_cases e : fenceB d = true
      · rw [if_pos e] at eo
        refine iteY e ⟨_, rfl, .inl ⟨rfl, _, SqL.of hF⟩, _, rfl, Lo, zs, fs, rfl, rfl, SqL.of hL, hf.pair, by omega, fun l us G1 s1 nl hl hp => ?_⟩
        have lu := Paired.length hp
        rw [List.length_mergeSort] at lu
        have us_ok : PcsAt K C G1 us (srtL fs) := pcs_of hp fun d hd => hf.2.1 d ((srt_perm fs).mem_iff.mp hd)
        have hF1 := s1 _ _ hF
        refine ⟨l, us, rfl, .inr (SqL.of hl), _, rfl, ?_, fun L2 n2 => ?_⟩
        · rw [List.length_append]
          exact Nat.le_of_lt (small1000 (by show us.length + 1 < 1000; omega))
        have s2 := Same.new n2 (o := .lst (us ++ [.ref q]))
        have hF2 := s2 _ _ hF1
        have n2F : F ≠ L2 := ne_of_none hF1 n2
        refine ⟨F, L2, ys, _, rfl, rfl, hF2, upd_same, ?_, Nat.zero_le _, fun L3 n3 => ?_⟩
        · rw [List.length_append]
          exact Nat.le_of_lt (small1000 (by show ys.length + (us.length + 1) < 1000; omega))
        have new : PcsAt K C (upd G1 L2 (.lst (us ++ [.ref q]))) (ys ++ (us ++ [.ref q])) (es ++ (srtL fs ++ [d])) := ((hE.same s1).append (us_ok.append (PcsAt.one (hqG.same s1) od fd2))).same s2
        have sP : Same H (upd (upd G1 L2 (.lst (us ++ [.ref q]))) F (.lst (ys ++ (us ++ [.ref q])))) := same_put ((sG.trans s1).trans s2) nF
        have s3 := Same.new n3 (o := .lst [])
        have n3F : F ≠ L3 := ne_of_none upd_same n3
        refine ⟨L3, _, [], _, [], _, rfl, sP.trans s3, by rw [upd_ne n3F]; exact upd_same, upd_same, n3F, sP.free n3, (new.put hF2).same s3, PcsAt.nil, ?_, eo⟩
        rw [List.length_append, List.length_append, srt_len]
        show es.length + (fs.length + 1) + 0 = i + 1
        omega
      · rw [if_neg e] at eo
        have e' : fenceB d = false := Bool.eq_false_iff.mpr e
        refine iteN e' ⟨_, rfl, .inl ⟨rfl, _, SqL.of hL⟩, _, rfl, Lo, zs, _, rfl, rfl, hL, small1000 (by omega), ?_⟩
        have sP : Same H (upd G Lo (.lst (zs ++ [.ref q]))) := same_put sG nL0
        refine ⟨Lo, ys, _, es, _, _, rfl, sP, by rw [upd_ne nFL]; exact hF, upd_same, nFL, nL0, hE.put hL, (hf.append (PcsAt.one hqG od fd2)).put hL, ?_, eo⟩
        rw [List.length_append]
        show es.length + (fs.length + 1) = i + 1
        omega
    · rintro σ G ⟨Lo, ys, zs, es, fs, x3, rfl, sG, hF, hL, nFL, nL0, hE, hf, le, eo⟩
      rw [hx.1] at le
      rw [hx.1, List.drop_length] at eo
      have eo : es ++ srtL fs = inOrd ds := eo
      have ly := hE.1
      have lz := hf.1
      refine ⟨_, rfl, F, ys, rfl, .inr (SqL.of hF), _, rfl, Lo, zs, fs, rfl, rfl, SqL.of hL, hf.pair, by omega, fun l us G1 s1 nl hl hp => ?_⟩
      have lu := Paired.length hp
      rw [List.length_mergeSort] at lu
      have us_ok : PcsAt K C G1 us (srtL fs) := pcs_of hp fun d hd => hf.2.1 d ((srt_perm fs).mem_iff.mp hd)
      refine ⟨l, us, rfl, .inr (SqL.of hl), ?_, fun L2 n2 => ?_⟩
      · rw [List.append_nil, List.length_append]
        exact Nat.le_of_lt (small1000 (by omega))
      have s2 := Same.new n2 (o := .lst (ys ++ (us ++ [])))
      refine k L2 _ _ ((sG.trans s1).trans s2) ((sG.trans s1).free n2) upd_same ?_
      rw [← eo, List.append_nil]
      exact ((hE.same s1).append us_ok).same (by rw [List.append_nil] at s2; exact s2)
end
end Lay
set_option Elab.async false
set_option linter.all false
set_option maxRecDepth 100000
set_option maxHeartbeats 800000
set_option pp.maxSteps 900
namespace Lay
open PySem PySem.Spec PyProof.Rows L2 KwX StX
/-! ### a program is run, by tools that sort, too -/
def ordS (s : Bool) (ds : List PD) : List PD := if s = true then inOrd ds else ds
theorem ordS_len (s : Bool) (ds : List PD) : (ordS s ds).length = ds.length := by
  unfold ordS
  split
  · exact inOrd_len ds
  · rfl
theorem ordS_mem {s : Bool} {ds : List PD} {d : PD} (h : d ∈ ordS s ds) : d ∈ ds := by
  unfold ordS at h
  split at h
  · exact (inOrd_perm ds).mem_iff.mp h
  · exact h
def spRunS (K : PySem.W.Frag) (CR CT C CP : Addr) : Sp := fun vs H Q _ => ∃ (a p : Addr) (w : Int) (rs : List RD) (s : Bool) (ds : List PD), vs = [.ref a, .int w, .ref p] ∧ TlAt K CR CT H a rs s ∧ (∀ r ∈ rs, GoodR r) ∧ PP K C CP H p ds ∧
  ∀ c H', Same H H' → H c = none → PP K C CP H' c (runL rs w (ordS s ds) none) → Q (.ref c) H'
section
variable {P : Program} {w : World} {K : PySem.W.Frag} {mg : Str → Option Value} {base : Heap}
theorem ok_runS {f C CR CT CP : Addr} {fd : FuncData} (F : Fun K "run" "run" sRun f fd) (T : Pg P w K mg base C CP) (ZT : ToolC K CT) (DI : Has P w K mg base CX0 4 "in_order" ["pieces"] (spInOrd K C)) (DL : Has P w K mg base CX0 6 "lay_piece" layPs (spLayP K CR C)) (DA : Has P w K mg base CX0 1 "stands_ahead" ["piece"] (spAhead K C)) : FnOk P w K mg base CX0 7 f fd ["tool", "width", "program"] (spRunS K CR CT C CP) := by
  refine F.ok scRun (fun vs H Q E h => ?_) (fun cdv A outer s H vs Q E hr h => ?_)
  · obtain ⟨a, p, w0, rs, sr, ds, rfl, _⟩ := h
    rfl
  · obtain ⟨a, p, w0, rs, sr, ds, rfl, hT, gd, hP, k⟩ := h
    have hr1 := hr.mono (show 1 ≤ 6 by decide)
    have hr4 := hr.mono (show 4 ≤ 6 by decide)
    refine ⟨_, (C8.pss_cut (ps_set (i := 3) scRun.nd rfl (.inl rfl) (pe_ifExp (pt_val (pe_fld (pv 0) rfl)) (pe_callH DI hr4 (by rfl) pass0 (pa_cons (pe_fld (pv 2) rfl) pa_nil)) (pe_fld (pv 2) rfl)))
    (pss_cons (ps_set (i := 4) scRun.nd rfl (.inl rfl) (pe_lst pa_nil))
    (pss_cons (ps_set (i := 5) scRun.nd rfl (.inl rfl) (pe_tup pa_nil))
    (pss_cons (ps_for PassesOwn.never rfl (pi_sq (K := K) rfl (pv 3)) (pg_name (i := 6) scRun.nd rfl (.inl rfl))
      (pss_cons (ps_set (i := 7) scRun.nd rfl (.inl rfl) (pe_callH DL hr (by rfl) pass0 (pa_cons (pe_fld (pv 0) rfl) (pa_cons (pv 1) (pa_cons (pv 5) (pa_cons (pv 6) pa_nil))))))
      (pss_cons (ps_expr (pe_bm PySem.F.plainAttrs_list PySem.F.slot_list_append PySem.F.type_list_append mt_append (pv 4) (pa_cons (pv 7) pa_nil)))
      (pss_one (ps_set (i := 5) scRun.nd rfl (.inl rfl) (pe_callH DA hr1 (by rfl) pass0 (pa_cons (pv 7) pa_nil)))))))
    (pss_one (ps_ret (pe_mkPg (K := K) (C := C) (CP := CP) rfl T rfl hr4 (by rfl) (pa_cons (pv 4) pa_nil)))))))), ?_⟩
    obtain ⟨dx, tr, xr, ha, htr, hxr⟩ := hT
    obtain ⟨tp, xs0, dp, hp, ht, hx0, few⟩ := hP
    refine ⟨fun σ G => ∃ (a2 : Addr) (xs : List V) (kb : Bool), σ = [some (.ref a), some (.int w0), some (.ref p), some (.ref a2), none, none, none, none] ∧ Same H G ∧ SqK K kb G a2 xs ∧ PcsAt K C G xs (ordS sr ds), ?_, ?_⟩
    · refine ⟨_, rfl, a, CT, dx, _, _, rfl, ha, ZT.cl, ZT.sorts, rfl, sr, rfl, ?_⟩
      cases sr with
      | false => exact iteN rfl ⟨_, rfl, p, CP, dp, _, _, rfl, hp, T.ZP.cl, T.ZP.pieces, rfl, tp, xs0, true, rfl, Same.rfl, ht.sqT, hx0⟩
      | true => exact iteY rfl ⟨_, rfl, p, CP, dp, _, _, rfl, hp, T.ZP.cl, T.ZP.pieces, rfl, tp, xs0, ds, rfl, ht, hx0, few, fun l ys H1 s1 nl hl hy => ⟨l, ys, false, rfl, s1, SqL.of hl, hy⟩⟩
    rintro σ H0 ⟨a2, xs, kb, rfl, sH0, hq2, hx⟩
    have ha := sH0 _ _ ha
    have htr := htr.same sH0
    have hxr := hxr.same sH0
    have few' : (ordS sr ds).length ≤ 100 := by rw [ordS_len]; exact few
    generalize hds : ordS sr ds = es0 at hx few'
    refine ⟨Nat.zero_le _, fun l nl => ⟨Nat.zero_le _, fun t0 n0 => ?_⟩⟩
    have s0 := (Same.new nl (o := .lst [])).trans (Same.new n0 (o := .tup []))
    have nl0 : l ≠ t0 := ne_of_none upd_same n0
    refine ⟨_, rfl, a2, xs, kb, rfl, hq2.same s0, fun J wJ => for_it wJ (fun i σ G => ∃ (ys : List V) (es : List PD) (t0 : Addr) (bf : Option (Bool × Bool)) (x6 x7 : Option V), σ = [some (.ref a), some (.int w0), some (.ref p), some (.ref a2), some (.ref l), some (.ref t0), x6, x7] ∧ Same H0 G ∧ G l = some (.lst ys) ∧ PcsAt K C G ys es ∧ SqT K G t0 (bfV bf) ∧ es.length = i ∧ es ++ runL rs w0 (es0.drop i) bf = runL rs w0 es0 none)
      ⟨[], [], t0, none, _, _, rfl, s0, (by rw [upd_ne nl0]; exact upd_same), PcsAt.nil, SqT.of upd_same, rfl, rfl⟩ (fun i σ G _ z => by
      obtain ⟨_, _, _, _, _, _, _, z, _⟩ := z
      exact hq2.same z) ?_ ?_⟩
    · rintro i x σ G G' hi ⟨ys, es, t1, bf, x6, x7, rfl, sG, hl, hE, hb, le, e⟩ ⟨rfl, hxi⟩
      have li := hi
      rw [hx.1] at li
      obtain ⟨d, ed⟩ : ∃ d, es0[i]? = some d := ⟨_, List.getElem?_eq_getElem li⟩
      obtain ⟨q, rfl, hq⟩ := hx.2.2 i x d hxi ed
      obtain ⟨od, fd2⟩ := hx.2.1 d (List.mem_of_getElem? ed)
      refine ⟨_, rfl, a, CT, dx, _, _, rfl, sG _ _ ha, ZT.cl, ZT.rows, rfl, _, rfl, _, rfl, _, rfl, tr, t1, q, w0, xr, rs, bf, d, rfl, (htr.same sG).sqT, hxr.same sG, gd, hb, hq.same sG, od, fd2, fun y G1 s1 n1 hy => ?_⟩
      have hl1 := s1 _ _ hl
      have ly : ys.length < sizeLine := by
        rw [hE.1, le]
        exact Nat.lt_of_lt_of_le (Nat.lt_of_lt_of_le li few') (by decide)
      refine ⟨_, rfl, .inl ⟨rfl, _, SqL.of hl1⟩, _, rfl, l, ys, _, rfl, rfl, hl1, ly, ?_⟩
      refine ⟨_, rfl, y, _, rfl, hy.put hl1, fun t2 n2 => ?_⟩
      have hG : PcsAt K C (upd G1 l (.lst (ys ++ [.ref y]))) (ys ++ [.ref y]) (es ++ [layP rs bf w0 d]) := ((hE.same s1).put hl1).append (PcsAt.one (hy.put hl1) (putP_ok od) fd2)
      have sP : Same H0 (upd G1 l (.lst (ys ++ [.ref y]))) := same_put (sG.trans s1) nl
      have nl2 : l ≠ t2 := ne_of_none upd_same n2
      have s2 := Same.new n2 (o := .tup [.bl (layP rs bf w0 d).broken, .bl (hasS (layP rs bf w0 d).behind)])
      refine ⟨ys ++ [.ref y], es ++ [layP rs bf w0 d], t2, bfP (layP rs bf w0 d), _, _, rfl, sP.trans s2, (by rw [upd_ne nl2]; exact upd_same), hG.same s2, SqT.of upd_same, by rw [List.length_append, le]; rfl, ?_⟩
      rw [List.drop_eq_getElem_cons li, (List.getElem?_eq_some_iff.mp ed).2] at e
      rw [List.append_assoc]
      exact e
    · rintro σ G ⟨ys, es, t1, bf, x6, x7, rfl, sG, hl, hE, hb, le, e⟩
      rw [hx.1, List.drop_length] at e
      have e : es = runL rs w0 es0 none := by
        rw [← e]
        exact (List.append_nil es).symm
      subst e
      refine ⟨_, rfl, l, ys, _, rfl, .inl hl, hE, by rw [runL_len]; exact few', fun c H' s n hc => ?_⟩
      rw [← hds] at hc
      exact k c H' ((sH0.trans sG).trans s) ((sH0.trans sG).free n) hc
end
end Lay
set_option Elab.async false
set_option linter.all false
set_option maxRecDepth 100000
set_option maxHeartbeats 800000
set_option pp.maxSteps 900
namespace Lay
open PySem PySem.Spec PyProof.Rows L2
/-! ### a piece put back behind those that are not above it: the same order -/
def leD (a b : PD) : Bool := PySem.W.dataLe false keyD a b
theorem leD_total : PySem.W.TotalLe leD :=
  have h : PySem.W.TotalLe (PySem.W.dataLe false keyD) := PySem.W.sortLe_total _ _ _
  ⟨fun a b c => h.trans a b c, fun a b => h.total a b⟩
theorem srt_nil : srtL [] = [] := List.eq_nil_of_length_eq_zero (srt_len [])
theorem leD_lt (a b : PD) : leD a b = !PySem.W.dataLt (keyD b) (keyD a) := rfl
def backN (es : List PD) (d : PD) : Nat → Nat
  | 0 => 0
  | n + 1 => match es[n]? with
    | some e => if (!fenceB e && !leD e d) = true then backN es d n else n + 1
    | none => n + 1
def lawPos (es : List PD) (d : PD) : Nat := if fenceB d = true then es.length else backN es d es.length
def lawIns (es : List PD) (d : PD) : List PD := es.take (lawPos es d) ++ d :: es.drop (lawPos es d)
theorem ins_srt {fs : List PD} {d : PD} {A B : List PD} (e : A ++ B = srtL fs) (h1 : ∀ x ∈ A, leD x d = true) (h2 : ∀ x ∈ B, leD x d = false) : A ++ d :: B = srtL (fs ++ [d]) := by
  have hp := PySem.W.sort_pairwise leD_total fs
  change (srtL fs).Pairwise _ at hp
  rw [← e] at hp
  obtain ⟨pA, pB, pAB⟩ := List.pairwise_append.mp hp
  have h3 : ∀ x ∈ B, leD d x = true := fun x hx => (leD_total.total x d).resolve_left (by rw [h2 x hx]; exact Bool.false_ne_true)
  refine PySem.W.sort_unique leD_total ?_ fun c => ?_
  · refine List.pairwise_append.mpr ⟨pA, List.pairwise_cons.mpr ⟨h3, pB⟩, fun x hx y hy => ?_⟩
    rcases List.mem_cons.mp hy with rfl | hy
    · exact h1 x hx
    · exact pAB x hx y hy
  · have hf := PySem.W.sort_stable leD_total fs c
    change (srtL fs).filter _ = _ at hf
    rw [← e, List.filter_append] at hf
    rw [List.filter_append, List.filter_append, ← hf]
    by_cases q : PySem.W.sameRank leD c d = true
    · have nB : B.filter (PySem.W.sameRank leD c) = [] := List.filter_eq_nil_iff.mpr fun x hx z => by
        unfold PySem.W.sameRank at q z
        rw [Bool.and_eq_true] at q z
        have := leD_total.trans x c d z.2 q.1
        rw [h2 x hx] at this
        cases this
      rw [List.filter_cons_of_pos q, List.filter_cons_of_pos q, nB]
      simp
    · rw [List.filter_cons_of_neg q, List.filter_cons_of_neg q]
      simp
theorem back_spec {E S : List PD} {d : PD} (hE : E = [] ∨ ∃ E' f, E = E' ++ [f] ∧ fenceB f = true) (hS : ∀ x ∈ S, fenceB x = false) (hp : S.Pairwise fun a b => leD a b = true) : ∀ n, n ≤ S.length → (∀ x ∈ S.drop n, leD x d = false) →
    ∃ k, k ≤ n ∧ backN (E ++ S) d (E.length + n) = E.length + k ∧ (∀ x ∈ S.take k, leD x d = true) ∧ ∀ x ∈ S.drop k, leD x d = false
  | 0, _, h => by
    refine ⟨0, Nat.le_refl _, ?_, fun x hx => by simp at hx, h⟩
    rcases hE with rfl | ⟨E', f, rfl, hf⟩
    · rfl
    · show backN _ d (E' ++ [f]).length = (E' ++ [f]).length
      rw [List.length_append]
      show backN _ d (E'.length + 1) = E'.length + 1
      unfold backN
      have e1 : (E' ++ [f] ++ S)[E'.length]? = some f := by
        rw [List.append_assoc, List.getElem?_append_right (Nat.le_refl _), Nat.sub_self]
        rfl
      rw [e1]
      dsimp only
      rw [hf, Bool.not_true, Bool.false_and, if_neg Bool.false_ne_true]
  | n + 1, hn, h => by
    obtain ⟨x, ex⟩ : ∃ x, S[n]? = some x := ⟨_, List.getElem?_eq_getElem (by omega)⟩
    have mx : x ∈ S := List.mem_of_getElem? ex
    have e1 : (E ++ S)[E.length + n]? = some x := by
      rw [List.getElem?_append_right (Nat.le_add_right _ _), Nat.add_sub_cancel_left]
      exact ex
    have ed : S.drop n = x :: S.drop (n + 1) := by
      rw [List.drop_eq_getElem_cons (by omega), (List.getElem?_eq_some_iff.mp ex).2]
    have u : backN (E ++ S) d (E.length + (n + 1)) = if (!fenceB x && !leD x d) = true then backN (E ++ S) d (E.length + n) else E.length + n + 1 := by
      show backN (E ++ S) d ((E.length + n) + 1) = _
      rw [backN, e1]
    rw [u, hS x mx]
    by_cases q : leD x d = true
    · rw [q, if_neg (by decide)]
      refine ⟨n + 1, Nat.le_refl _, rfl, fun y hy => ?_, h⟩
      rw [List.take_succ, ex] at hy
      rcases List.mem_append.mp hy with hy | hy
      · have hp2 : (S.take n ++ S.drop n).Pairwise fun a b => leD a b = true := by rw [List.take_append_drop]; exact hp
        have := (List.pairwise_append.mp hp2).2.2 y hy x (by rw [ed]; exact List.mem_cons_self)
        exact leD_total.trans y x d this q
      · have e2 : y = x := by simpa using hy
        rw [e2]
        exact q
    · have q' : leD x d = false := Bool.eq_false_iff.mpr q
      rw [q', if_pos (by decide)]
      obtain ⟨k, k1, k2, k3, k4⟩ := back_spec hE hS hp n (by omega) (fun y hy => by
        rw [ed] at hy
        rcases List.mem_cons.mp hy with rfl | hy
        · exact q'
        · exact h y hy)
      exact ⟨k, by omega, k2, k3, k4⟩
theorem law_ord : ∀ (ds es fs : List PD), (es = [] ∨ ∃ es' f, es = es' ++ [f] ∧ fenceB f = true) → (∀ x ∈ fs, fenceB x = false) → ds.foldl lawIns (es ++ srtL fs) = ordL es fs ds
  | [], es, fs, _, _ => rfl
  | d :: ds, es, fs, hE, hf => by
    rw [List.foldl_cons]
    unfold ordL
    by_cases e : fenceB d = true
    · rw [if_pos e]
      have e1 : lawIns (es ++ srtL fs) d = (es ++ (srtL fs ++ [d])) ++ srtL [] := by
        unfold lawIns lawPos
        rw [if_pos e, List.take_length, List.drop_length, List.append_assoc, srt_nil, List.append_nil]
      rw [e1]
      exact law_ord ds _ [] (.inr ⟨es ++ srtL fs, d, by rw [List.append_assoc], e⟩) fun x hx => (List.not_mem_nil hx).elim
    · rw [if_neg e]
      have hS : ∀ x ∈ srtL fs, fenceB x = false := fun x hx => hf x ((srt_perm fs).mem_iff.mp hx)
      have hp := PySem.W.sort_pairwise leD_total fs
      change (srtL fs).Pairwise _ at hp
      obtain ⟨k, k1, k2, k3, k4⟩ := back_spec hE hS hp (d := d) (srtL fs).length (Nat.le_refl _) (fun x hx => by
        rw [List.drop_length] at hx
        exact (List.not_mem_nil hx).elim)
      have e1 : lawIns (es ++ srtL fs) d = es ++ srtL (fs ++ [d]) := by
        unfold lawIns lawPos
        rw [if_neg e, List.length_append, k2, List.take_length_add_append, List.drop_length_add_append, List.append_assoc, ins_srt (List.take_append_drop k _) k3 k4]
      rw [e1]
      refine law_ord ds es (fs ++ [d]) hE fun x hx => ?_
      rcases List.mem_append.mp hx with hx | hx
      · exact hf x hx
      · rw [List.mem_singleton.mp hx]
        exact Bool.eq_false_iff.mpr e
theorem law_inOrd (ds : List PD) : ds.foldl lawIns [] = inOrd ds := by
  have h := law_ord ds [] [] (.inl rfl) fun x hx => (List.not_mem_nil hx).elim
  rw [srt_nil] at h
  exact h
/-- the law's keys: the items as a list -/
def keyL (d : PD) : PyData := .tuple [.str d.word, .list (d.parts.map .str)]
theorem keyL_lt (a b : PD) : PySem.W.dataLt (keyL a) (keyL b) = PySem.W.dataLt (keyD a) (keyD b) := by
  have h1 : PySem.W.alike (.str a.word) (.str b.word) = true := by simp [PySem.W.alike]
  have h2 : PySem.W.alike (.list (a.parts.map .str)) (.list (b.parts.map .str)) = true := by simp [PySem.W.alike, alike_strs]
  have h3 : PySem.W.alike (.tuple (a.parts.map .str)) (.tuple (b.parts.map .str)) = true := by simp [PySem.W.alike, alike_strs]
  unfold keyL keyD
  rw [PySem.W.dataLt_pair h1 h2, PySem.W.dataLt_pair h1 h3, PySem.W.dataLt_list, PySem.W.dataLt_tuple]
  simp only [PyData.eqv]
  rfl
theorem keyL_alike (a b : PD) : PySem.W.alike (keyL a) (keyL b) = true := by
  unfold keyL
  simp [PySem.W.alike, PySem.W.alikeAll, alike_strs]
theorem keyL_deep (d : PD) : (keyL d).depth ≤ 60 := by
  have := depth_strs d.parts
  unfold keyL
  simp only [PyData.depth, PyData.depthAll]
  omega
end Lay
set_option Elab.async false
set_option linter.all false
set_option maxRecDepth 100000
set_option maxHeartbeats 800000
set_option pp.maxSteps 900
namespace Lay
open PySem PySem.Spec PyProof.Rows L2 KwX StX
/-! ### what the law's turn leans on -/
theorem pair_app {α β : Type} {F : α → β → Prop} : ∀ {a : List α} {b : List β} {c : List α} {d : List β}, Paired F a b → Paired F c d → Paired F (a ++ c) (b ++ d)
  | _, _, _, _, .nil, h => h
  | _, _, _, _, .cons x y, h => .cons x (pair_app y h)
theorem DictAt.kept {b : Addr} {G G' : Hp} {q lp : Addr} {d : PD} (x : BoxAt G b) (k : Kept b G G') (n : 0 < d.parts.length) (h : DictAt G q lp d) : DictAt G' q lp d := by
  obtain ⟨kvs, h1, h2, h3⟩ := h
  obtain ⟨o, e, g, s, m, ey⟩ := x
  subst ey
  refine ⟨kvs, k _ _ (ne_of h1 e (fun z => nomatch z)) h1, k _ _ (fun z => ?_) h2, h3⟩
  rw [z, e] at h2
  cases hd : d.parts with
  | nil => rw [hd] at n; exact absurd n (by decide)
  | cons y ys => rw [hd] at h2; cases h2
/-- a drawn piece of the law -/
structure Few (d : PD) : Prop where
  o : d.Ok
  p : d.parts.length ≤ 4
  w : d.word.length ≤ 3
/-- dicts one by one, their lists apart from D -/
def DcAt (D : Addr) (H : Hp) (v : V) (d : PD) : Prop := ∃ q lp, v = V.ref q ∧ lp ≠ D ∧ DictAt H q lp d
theorem DcAt.same {D : Addr} {H G : Hp} {v : V} {d : PD} (s : Same H G) (h : DcAt D H v d) : DcAt D G v d := by
  obtain ⟨q, lp, e, n, hq⟩ := h
  exact ⟨q, lp, e, n, hq.same s⟩
theorem DcAt.put {D : Addr} {G : Hp} {v : V} {d : PD} {ys : List V} {ob : HO} (hD : G D = some (.lst ys)) (h : DcAt D G v d) : DcAt D (upd G D ob) v d := by
  obtain ⟨q, lp, e, n, kvs, h1, h2, h3⟩ := h
  exact ⟨q, lp, e, n, kvs, by rw [upd_ne (ne_of h1 hD (fun z => nomatch z))]; exact h1, by rw [upd_ne n]; exact h2, h3⟩
theorem DcAt.kept {D b : Addr} {G G' : Hp} {v : V} {d : PD} (x : BoxAt G b) (k : Kept b G G') (o : Few d) (h : DcAt D G v d) : DcAt D G' v d := by
  obtain ⟨q, lp, e, n, hq⟩ := h
  exact ⟨q, lp, e, n, hq.kept x k o.o.some⟩
structure DsL (G : Hp) (D : Addr) (xs : List V) (ds : List PD) : Prop where
  at_ : G D = some (.lst xs)
  ps : Paired (DcAt D G) xs ds
theorem DsL.same {G G' : Hp} {D : Addr} {xs : List V} {ds : List PD} (s : Same G G') (h : DsL G D xs ds) : DsL G' D xs ds := ⟨s _ _ h.at_, Paired.mapP h.ps fun _ _ z => z.same s⟩
theorem paired_few {D b : Addr} {G G' : Hp} (x : BoxAt G b) (k : Kept b G G') : ∀ {xs : List V} {ds : List PD}, (∀ d ∈ ds, Few d) → Paired (DcAt D G) xs ds → Paired (DcAt D G') xs ds
  | _, _, _, .nil => .nil
  | _, _, f, .cons h t => .cons (h.kept x k (f _ List.mem_cons_self)) (paired_few x k (fun d hd => f d (List.mem_cons_of_mem _ hd)) t)
theorem DsL.kept {G G' : Hp} {D b : Addr} {xs : List V} {ds : List PD} (n : D ≠ b) (x : BoxAt G b) (k : Kept b G G') (f : ∀ d ∈ ds, Few d) (h : DsL G D xs ds) : DsL G' D xs ds := ⟨k _ _ n h.at_, paired_few x k f h.ps⟩
theorem sameK {b : Addr} {H G G' : Hp} (s : Same H G) (k : Kept b G G') (n : H b = none) : Same H G' := fun c o e => k _ _ (ne_of_none e n) (s _ _ e)
theorem RowAt.kept {C b p : Addr} {G G' : Hp} {r : RD} (bx : BoxAt G b) (k : Kept b G G') (h : RowAt C G p r) : RowAt C G' p r := by
  obtain ⟨xs, hb⟩ := bx.at
  obtain ⟨dx, t, d, h1, h2, h3⟩ := h
  exact ⟨dx, t, d, k _ _ (ne_of h1 hb (fun z => nomatch z)) h1, k _ _ (ne_of h2 hb (fun z => nomatch z)) h2, k _ _ (ne_of h3 hb (fun z => nomatch z)) h3⟩
theorem TlAt.kept {K : PySem.W.Frag} {C CT b p : Addr} {G G' : Hp} {rs : List RD} {s : Bool} (bx : BoxAt G b) (k : Kept b G G') (h : TlAt K C CT G p rs s) : TlAt K C CT G' p rs s := by
  obtain ⟨xb, hb⟩ := bx.at
  obtain ⟨dx, t, xs, h1, h2, h3⟩ := h
  refine ⟨dx, t, xs, k _ _ (ne_of h1 hb (fun z => nomatch z)) h1, h2.imp (fun q => k _ _ (tup_box q bx) q) id, h3.1, h3.2.1, fun i x r hx hr => ?_⟩
  obtain ⟨q, e, hq⟩ := h3.2.2 i x r hx hr
  exact ⟨q, e, hq.kept bx k⟩
theorem RowAt.lset {C E p : Addr} {G : Hp} {r : RD} {ys : List V} {ob : HO} (hE : G E = some (.lst ys)) (h : RowAt C G p r) : RowAt C (upd G E ob) p r := by
  obtain ⟨dx, t, d, h1, h2, h3⟩ := h
  exact ⟨dx, t, d, by rw [upd_ne (ne_of h1 hE (fun z => nomatch z))]; exact h1, by rw [upd_ne (ne_of h2 hE (fun z => nomatch z))]; exact h2, by rw [upd_ne (ne_of h3 hE (fun z => nomatch z))]; exact h3⟩
theorem TlAt.lset {K : PySem.W.Frag} {C CT E p : Addr} {G : Hp} {rs : List RD} {s : Bool} {ys : List V} {ob : HO} (hE : G E = some (.lst ys)) (h : TlAt K C CT G p rs s) : TlAt K C CT (upd G E ob) p rs s := by
  obtain ⟨dx, t, xs, h1, h2, h3⟩ := h
  refine ⟨dx, t, xs, by rw [upd_ne (ne_of h1 hE (fun z => nomatch z))]; exact h1, h2.imp (fun q => by rw [upd_ne (ne_of q hE (fun z => nomatch z))]; exact q) id, h3.1, h3.2.1, fun i x r hx hr => ?_⟩
  obtain ⟨q, e, hq⟩ := h3.2.2 i x r hx hr
  exact ⟨q, e, hq.lset hE⟩
theorem PrG.same {G G' : Hp} {v : V} {r : RD} (s : Same G G') (h : PrG G v r) : PrG G' v r := by
  obtain ⟨p, e, h1, h2⟩ := h
  exact ⟨p, e, h1.same s, h2⟩
theorem pr_dr {G : Hp} : ∀ {zs : List V} {rs : List RD}, Paired (PrG G) zs rs → ∀ r ∈ rs, Dr r
  | _, _, .nil, r, h => (List.not_mem_nil h).elim
  | _, _, .cons x t, r, h => by
    rcases List.mem_cons.mp h with rfl | h
    · obtain ⟨p, _, _, d⟩ := x
      exact d
    · exact pr_dr t r h
theorem PP.ok {K : PySem.W.Frag} {C CP p : Addr} {G : Hp} {ds : List PD} (h : PP K C CP G p ds) : ∀ d ∈ ds, d.Ok ∧ d.parts.length ≤ 30 := by
  obtain ⟨t, xs, dx, h1, h2, h3, h4⟩ := h
  exact h3.2.1
theorem fm_eqv (f : Fm) : PyData.eqv f.data f.data = true := by
  unfold Fm.data
  simp [PyData.eqv, PyData.eqvAll]
theorem sizeS_ascii (n : Nat) : Txt.isascii (sizeS n) = true := by
  unfold sizeS
  split <;> decide +kernel
theorem fm_shaped (f : Fm) : PySem.SeqAt.shaped f.data = true := by
  have h1 : PyData.canLay0 f.data = true := by
    unfold Fm.data
    simp [PyData.canLay0, PyData.canLayAll0, ascii_strOk (sizeS_ascii f.sz)]
  have h2 : PyData.depth f.data ≤ 3 := by
    unfold Fm.data
    simp only [PyData.depth, PyData.depthAll]
    omega
  show (PyData.canLay0 f.data && decide (PyData.depth f.data ≤ 64)) = true
  rw [Bool.and_eq_true]
  exact ⟨h1, decide_eq_true (by omega)⟩
end Lay
set_option Elab.async false
set_option linter.all false
set_option maxRecDepth 100000
set_option maxHeartbeats 800000
set_option pp.maxSteps 900
namespace Lay
open PySem PySem.Spec PyProof.Rows L2 KwX StX
/-! ### the law's pieces in order -/
abbrev sLFence : Stmt := top 91
abbrev sLKey : Stmt := top 92
abbrev sLSorted : Stmt := top 93
def rGtD (K : PySem.W.Frag) : R2 := fun x y H Q => ∃ d e, Dp K H x d ∧ Dp K H y e ∧ PySem.W.alike d e = true ∧ d ≠ .none ∧ d.depth ≤ 60 ∧ Q (.bl (PySem.W.dataLt e d)) H
theorem op_gtDK {X : Cx} {K : PySem.W.Frag} (hK : X.K = K) (hu : X.A.units + 64 < cLine) : OpR X (compareOp .Gt) (rGtD K) := by
  subst hK
  intro pins s σ H x y v u Q I rx ry h
  obtain ⟨d, e, hd, he, al, nn, dd, q⟩ := h
  obtain ⟨as, r1⟩ := Dp.reads I d x v hd rx
  obtain ⟨bs, r2⟩ := Dp.reads I e y u he ry
  exact PySem.W.gt_data r1 r2 al nn (by omega) ⟨.bl _, H, I, rfl, q⟩
def Dc (H : Hp) (v : V) (d : PD) : Prop := ∃ q lp, v = V.ref q ∧ DictAt H q lp d
theorem paired_take {α β : Type} {R : α → β → Prop} : ∀ {xs : List α} {ds : List β} (n : Nat), Paired R xs ds → Paired R (xs.take n) (ds.take n)
  | _, _, 0, _ => by simp only [List.take_zero]; exact .nil
  | _, _, _ + 1, .nil => .nil
  | _, _, n + 1, .cons h t => .cons h (paired_take n t)
theorem paired_drop {α β : Type} {R : α → β → Prop} : ∀ {xs : List α} {ds : List β} (n : Nat), Paired R xs ds → Paired R (xs.drop n) (ds.drop n)
  | _, _, 0, h => h
  | _, _, _ + 1, .nil => .nil
  | _, _, n + 1, .cons h t => paired_drop n t
def spLFence : Sp := fun vs H Q _ => ∃ (q lp : Addr) (d : PD), vs = [.ref q] ∧ DictAt H q lp d ∧ Q (.bl (fenceB d)) H
def spLKey (K : PySem.W.Frag) : Sp := fun vs H Q _ => ∃ (q lp : Addr) (d : PD), vs = [.ref q] ∧ DictAt H q lp d ∧ ∀ v H', Same H H' → Dp K H' v (keyL d) → Q v H'
def spLSorted (K : PySem.W.Frag) : Sp := fun vs H Q _ => ∃ (a : Addr) (xs : List V) (ds : List PD), vs = [.ref a] ∧ H a = some (.lst xs) ∧ Paired (Dc H) xs ds ∧ ds.length ≤ 100 ∧ ∀ l ys H', Same H H' → H l = none → H' l = some (.lst ys) → Paired (Dc H) ys (inOrd ds) → Q (.ref l) H'
theorem back_le (es : List PD) (d : PD) : ∀ n, backN es d n ≤ n
  | 0 => Nat.le_refl _
  | n + 1 => by
    unfold backN
    split
    · split
      · exact Nat.le_succ_of_le (back_le es d n)
      · exact Nat.le_refl _
    · exact Nat.le_refl _
theorem lawPos_le (es : List PD) (d : PD) : lawPos es d ≤ es.length := by
  unfold lawPos
  split
  · exact Nat.le_refl _
  · exact back_le _ _ _
theorem lawIns_len (es : List PD) (d : PD) : (lawIns es d).length = es.length + 1 := by
  have := lawPos_le es d
  unfold lawIns
  rw [List.length_append, List.length_take, List.length_cons, List.length_drop]
  omega
theorem fold_len : ∀ (ds es : List PD), (ds.foldl lawIns es).length = es.length + ds.length
  | [], _ => rfl
  | d :: ds, es => by
    rw [List.foldl_cons, fold_len, lawIns_len, List.length_cons]
    omega
section
variable {P : Program} {w : World} {K : PySem.W.Frag} {mg : Str → Option Value} {base : Heap}
theorem scLFence : FnScope ["_law_piece_here"] ["_law_piece_here"] (defScope sLFence) := ⟨rfl, rfl, rfl, by decide +kernel, rfl, by decide +kernel, by decide +kernel⟩
theorem ok_lfence {f : Addr} {fd : FuncData} (F : Fun K "_law_is_fence" "_law_is_fence" sLFence f fd) : FnOk P w K mg base CX0 1 f fd ["_law_piece_here"] spLFence := by
  refine F.ok scLFence (fun vs H Q E h => ?_) (fun cdv A outer s H vs Q E hr h => ?_)
  · obtain ⟨q, lp, d, rfl, _⟩ := h
    rfl
  · obtain ⟨q, lp, d, rfl, hq, k⟩ := h
    have hu := hu_of hr
    refine ⟨_, pss_one (ps_ret (pe_or (pe_cmpR op_ne (pe_dget hu (pv 0) pe_str (fun _ _ => rfl)) pe_str (nomark _)) (pe_or (pe_cmpR op_gt (pe_dget hu (pv 0) pe_str (fun _ _ => rfl)) pe_int (nomark _)) (pe_one (pe_dget hu (pv 0) pe_str (fun _ _ => rfl)))))), ?_⟩
    refine ⟨_, rfl, q, _, rfl, dg_a hq, rfl, _, rfl, ?_⟩
    rw [ne_emp]
    unfold fenceB at k
    cases e : hasS d.ahead with
    | true =>
      rw [e] at k
      exact iteY rfl k
    | false =>
      rw [e] at k
      refine iteN rfl ⟨_, rfl, q, _, rfl, dg_n hq, _, _, rfl, rfl, _, rfl, ?_⟩
      by_cases e2 : d.blanks > 0
      · rw [decide_eq_true e2] at k
        exact iteY (decide_eq_true e2) k
      · rw [decide_eq_false e2] at k
        exact iteN (decide_eq_false e2) ⟨_, rfl, q, _, rfl, dg_l hq, k⟩
theorem scLKey : FnScope ["_law_piece_here"] ["_law_piece_here"] (defScope sLKey) := ⟨rfl, rfl, rfl, by decide +kernel, rfl, by decide +kernel, by decide +kernel⟩
theorem ok_lkey {f : Addr} {fd : FuncData} (F : Fun K "_law_key" "_law_key" sLKey f fd) : FnOk P w K mg base CX0 1 f fd ["_law_piece_here"] (spLKey K) := by
  refine F.ok scLKey (fun vs H Q E h => ?_) (fun cdv A outer s H vs Q E hr h => ?_)
  · obtain ⟨q, lp, d, rfl, _⟩ := h
    rfl
  · obtain ⟨q, lp, d, rfl, hq, k⟩ := h
    have hu := hu_of hr
    refine ⟨_, pss_one (ps_ret (pe_tup (pa_cons (pe_dget hu (pv 0) pe_str (fun _ _ => rfl)) (pa_cons (pe_dget hu (pv 0) pe_str (fun _ _ => rfl)) pa_nil)))), ?_⟩
    refine ⟨_, rfl, q, _, rfl, dg_w hq, _, rfl, q, _, rfl, dg_p hq, (by show 2 ≤ sizeLine; decide), fun t2 nt => ?_⟩
    exact k _ _ (Same.new nt) (.tup (SqT.of upd_same) (.cons (.str _) (.cons (.lst (SqL.of (Same.new nt _ _ (dg_lp hq))) (strs_dp _)) .nil)))
def lsortN : List Str := ["_law_pieces", "_law_found", "_law_piece_here", "_law_at", "_law_key_here"]
theorem scLSorted : FnScope lsortN ["_law_pieces"] (defScope sLSorted) := ⟨rfl, rfl, rfl, by decide +kernel, rfl, by decide +kernel, by decide +kernel⟩
theorem ok_lsorted {f : Addr} {fd : FuncData} (F : Fun K "_law_sorted" "_law_sorted" sLSorted f fd) (B : Bt mg) (DF : Has P w K mg base CX0 1 "_law_is_fence" ["_law_piece_here"] spLFence) (DK : Has P w K mg base CX0 1 "_law_key" ["_law_piece_here"] (spLKey K)) : FnOk P w K mg base CX0 2 f fd ["_law_pieces"] (spLSorted K) := by
  refine F.ok scLSorted (fun vs H Q E h => ?_) (fun cdv A outer s H vs Q E hr h => ?_)
  · obtain ⟨a, xs, ds, rfl, _⟩ := h
    rfl
  · obtain ⟨a, xs, ds, rfl, ha, hx, few, k⟩ := h
    refine ⟨_, (pss_cons (ps_set (i := 1) scLSorted.nd rfl (.inl rfl) (pe_lst pa_nil))
    (pss_cons (ps_for PassesOwn.never rfl (pi_list (pv 0)) (pg_name (i := 2) scLSorted.nd rfl (.inl rfl))
      (pss_cons (ps_par (i := 3) (j := 4) (by rfl) scLSorted.nd rfl rfl (by decide) rfl rfl (pa_cons (pe_callB (call_lenK (K := K) rfl) (by rfl) B.len PySem.boot_len (pa_cons (pv 1) pa_nil)) (pa_cons (pe_callH DK hr (by rfl) pass0 (pa_cons (pv 2) pa_nil)) pa_nil)) (by rfl))
      (C8.pss_cut (ps_if (pt_not (pt_val (pe_callH DF hr (by rfl) pass0 (pa_cons (pv 2) pa_nil))))
        (pss_one (ps_while PassesOwn.never (PW.pt (pw_and (pt_cmpR op_gt (pv 3) pe_int (nomark _)) (pw_and (pt_not (pt_val (pe_callH DF hr (by rfl) pass0 (pa_cons (pe_ix (ix_listK (K := K) rfl) (pv 1) (pe_op op_sub (pv 3) pe_int) (fun _ _ => rfl)) pa_nil)))) (pw_and1 (pt_cmpR (op_gtDK (K := K) rfl hr.units) (pe_callH DK hr (by rfl) pass0 (pa_cons (pe_ix (ix_listK (K := K) rfl) (pv 1) (pe_op op_sub (pv 3) pe_int) (fun _ _ => rfl)) pa_nil)) (pv 4) (nomark _))))))
          (pss_one (ps_set (i := 3) scLSorted.nd rfl (.inl rfl) (pe_op op_sub (pv 3) pe_int)))))
        pss_nil)
      (pss_one (ps_expr (pe_bm PySem.F.plainAttrs_list PySem.F.slot_list_insert PySem.F.type_list_insert mt_insert (pv 1) (pa_cons (pv 3) (pa_cons (pv 2) pa_nil))))))))
    (pss_one (ps_ret (pv 1))))), ?_⟩
    refine ⟨Nat.zero_le _, fun F nF => ?_⟩
    have s0 := Same.new nF (o := .lst [])
    have lxd := Paired.length hx
    refine ⟨_, rfl, a, rfl, ⟨_, SqL.of (s0 _ _ ha)⟩, for_list (K := K) (xs := xs) (fun i σ G => ∃ (ys : List V) (es : List PD) (x2 x3 x4 : Option V), σ = [some (.ref a), some (.ref F), x2, x3, x4] ∧ Same H G ∧ G F = some (.lst ys) ∧ Paired (Dc H) ys es ∧ es = (ds.take i).foldl lawIns [])
      ⟨[], [], none, none, none, rfl, s0, upd_same, .nil, rfl⟩ (fun i σ G _ z => by
      obtain ⟨_, _, _, _, _, _, z, _⟩ := z
      exact SqL.of (z _ _ ha)) ?_ ?_⟩
    · rintro i x σ G hi ⟨ys, es, x2, x3, x4, rfl, sG, hF, hE, ee⟩
      obtain ⟨d, ed, q, lp, rfl, hq⟩ := Paired.nth hx hi
      have li := (List.getElem?_eq_some_iff.mp ed).1
      have ly := Paired.length hE
      have le : es.length ≤ 100 := by
        rw [ee, fold_len, List.length_take]
        simp only [List.length_nil]
        omega
      have fsm : es.length ≤ sizeLine := Nat.le_trans le (by decide)
      refine ⟨_, rfl, F, ys, rfl, .inl (SqL.of hF), _, rfl, q, lp, d, rfl, hq.same sG, fun v G1 s1 dv => ?_⟩
      have sG1 := sG.trans s1
      have hF1 := s1 _ _ hF
      refine ⟨_, _, rfl, ?_⟩
      refine ⟨fun σ G' => ∃ n : Nat, σ = [some (.ref a), some (.ref F), some (.ref q), some (.int n), some v] ∧ n = lawPos es d ∧ Same G1 G', ?_, ?_⟩
      · refine ⟨_, rfl, q, lp, d, rfl, hq.same sG1, _, rfl, ?_⟩
        by_cases e : fenceB d = true
        · refine iteN (by rw [e]; rfl) ⟨es.length, by rw [ly]; rfl, ?_, Same.rfl⟩
          unfold lawPos
          rw [if_pos e]
        · refine iteY (by rw [Bool.eq_false_iff.mpr e]; rfl) ?_
          have ep : lawPos es d = backN es d es.length := by
            unfold lawPos
            rw [if_neg e]
          refine ⟨fun m σ' H' => ∃ n : Nat, m = n ∧ n ≤ es.length ∧ backN es d n = backN es d es.length ∧ σ' = [some (.ref a), some (.ref F), some (.ref q), some (.int n), some v] ∧ Same G1 H', ⟨_, es.length, rfl, Nat.le_refl _, rfl, by rw [ly]; rfl, Same.rfl⟩, ?_⟩
          rintro m σ' H' ⟨n, rfl, hn, hb, rfl, sH'⟩
          refine ⟨_, rfl, _, _, rfl, rfl, _, rfl, ?_⟩
          cases m with
          | zero => exact iteN rfl ⟨0, rfl, by rw [ep, ← hb]; rfl, sH'⟩
          | succ n =>
            refine iteY (decide_eq_true (by omega)) ?_
            obtain ⟨e', ee'⟩ : ∃ e', es[n]? = some e' := ⟨_, List.getElem?_eq_getElem (by omega)⟩
            obtain ⟨y, ey⟩ : ∃ y, ys[n]? = some y := ⟨_, List.getElem?_eq_getElem (by omega)⟩
            obtain ⟨e2, ee2, q2, lp2, rfl, hq2⟩ := Paired.nth hE ey
            rw [ee'] at ee2
            cases ee2
            have ei : (((n + 1 : Nat) : Int) - 1) = (n : Int) := by omega
            have sH := sG1.trans sH'
            have hFH := sH' _ _ hF1
            have ub : backN es d (n + 1) = if (!fenceB e' && !leD e' d) = true then backN es d n else n + 1 := by
              rw [backN, ee']
            refine ⟨_, rfl, _, rfl, _, _, rfl, rfl, F, ys, _, _, rfl, rfl, SqL.of hFH, by rw [ei]; exact atI_nat ey, q2, lp2, e', rfl, hq2.same sH, _, rfl, ?_⟩
            by_cases f : fenceB e' = true
            · refine iteN (by rw [f]; rfl) ⟨n + 1, rfl, ?_, sH'⟩
              rw [ep, ← hb, ub, f, Bool.not_true, Bool.false_and, if_neg Bool.false_ne_true]
            · have f' : fenceB e' = false := Bool.eq_false_iff.mpr f
              refine iteY (by rw [f']; rfl) ?_
              refine ⟨_, rfl, _, rfl, _, _, rfl, rfl, F, ys, _, _, rfl, rfl, SqL.of hFH, by rw [ei]; exact atI_nat ey, q2, lp2, e', rfl, hq2.same sH, fun v2 H2 s2 dv2 => ?_⟩
              refine ⟨_, rfl, _, _, dv2, Lay.Dp.same (sH'.trans s2) dv, keyL_alike _ _, (fun z => nomatch z), keyL_deep _, _, rfl, ?_⟩
              have el : PySem.W.dataLt (keyL d) (keyL e') = !leD e' d := by rw [leD_lt, Bool.not_not, keyL_lt]
              rw [el]
              by_cases g : leD e' d = true
              · refine iteN (by rw [g]; rfl) ⟨n + 1, rfl, ?_, sH'.trans s2⟩
                rw [ep, ← hb, ub, g, Bool.not_true, Bool.and_false, if_neg Bool.false_ne_true]
              · have g' : leD e' d = false := Bool.eq_false_iff.mpr g
                refine iteY (by rw [g']; rfl) ⟨fun σ2 H2 => σ2 = [some (.ref a), some (.ref F), some (.ref q), some (.int n), some v] ∧ Same G1 H2, fun σ2 H2 z => ⟨n, Nat.lt_succ_self n, n, rfl, by omega, ?_, z.1, z.2⟩, ?_⟩
                · rw [← hb, ub, f', g']
                  rfl
                · refine ⟨_, rfl, _, _, rfl, rfl, ?_, sH'.trans s2⟩
                  show [some (V.ref a), some (V.ref F), some (V.ref q), some (V.int (((n + 1 : Nat) : Int) - 1)), some v] = _
                  rw [ei]
      rintro σ G2 ⟨n, rfl, en, s2⟩
      have hF2 := s2 _ _ hF1
      have ln := lawPos_le es d
      have b1 : (ys.length : Nat) < sizeLine := small1000 (by omega)
      refine ⟨_, rfl, .inl ⟨rfl, _, SqL.of hF2⟩, _, rfl, _, rfl, F, ys, _, _, rfl, rfl, hF2, b1, by omega, by omega, ?_⟩
      rw [Int.toNat_natCast]
      refine ⟨_, es.take n ++ [d] ++ es.drop n, _, _, _, rfl, same_put (sG1.trans s2) nF, upd_same, pair_app (pair_app (paired_take n hE) (.cons ⟨q, lp, rfl, hq⟩ .nil)) (paired_drop n hE), ?_⟩
      rw [List.take_succ, ed, List.foldl_append, ← ee, en]
      show es.take (lawPos es d) ++ [d] ++ es.drop (lawPos es d) = lawIns es d
      unfold lawIns
      rw [List.append_assoc]
      rfl
    · rintro σ G ⟨ys, es, x2, x3, x4, rfl, sG, hF, hE, ee⟩
      rw [lxd, List.take_length, law_inOrd] at ee
      rw [ee] at hE
      exact ⟨_, rfl, k F ys G sG nF hF hE⟩
end
end Lay
set_option Elab.async false
set_option linter.all false
set_option maxRecDepth 100000
set_option maxHeartbeats 800000
set_option pp.maxSteps 900
namespace Lay
open PySem PySem.Spec PyProof.Rows L2
/-! ### the order, whatever the way the open pieces stood, pure -/
def turnR : List PD → List PD → List PD
  | fs, [] => fs.reverse
  | fs, d :: ds => if fenceB d = true then fs.reverse ++ d :: turnR [] ds else turnR (fs ++ [d]) ds
def turned (ds : List PD) : List PD := turnR [] ds
theorem turnR_perm : ∀ (ds fs : List PD), (turnR fs ds).Perm (fs ++ ds)
  | [], fs => by
    unfold turnR
    rw [List.append_nil]
    exact List.reverse_perm _
  | d :: ds, fs => by
    unfold turnR
    by_cases e : fenceB d = true
    · rw [if_pos e]
      exact (List.reverse_perm _).append ((turnR_perm ds []).cons d)
    · rw [if_neg e]
      have h := turnR_perm ds (fs ++ [d])
      rw [List.append_assoc] at h
      exact h
theorem turned_perm (ds : List PD) : (turned ds).Perm ds := turnR_perm ds []
theorem str_anti {a b : Str} (h1 : PySem.W.dataLt (.str a) (.str b) = false) (h2 : PySem.W.dataLt (.str b) (.str a) = false) : a = b := by
  rw [PySem.W.dataLt_str] at h1 h2
  have h1 := of_decide_eq_false h1
  have h2 := of_decide_eq_false h2
  exact PySem.W.str_of_cps (List.le_antisymm (List.not_lt.mp h2) (List.not_lt.mp h1))
theorem str_irr (a : Str) : PySem.W.dataLt (.str a) (.str a) = false := by
  rw [PySem.W.dataLt_str]
  exact decide_eq_false (List.lt_irrefl _)
theorem leD_word {a b : PD} (h : leD a b = true) : PySem.W.dataLt (.str b.word) (.str a.word) = false := by
  have h1 : PySem.W.alike (.str b.word) (.str a.word) = true := by simp [PySem.W.alike]
  have h3 : PySem.W.alike (.tuple (b.parts.map .str)) (.tuple (a.parts.map .str)) = true := by simp [PySem.W.alike, alike_strs]
  rw [leD_lt] at h
  have h : PySem.W.dataLt (keyD b) (keyD a) = false := by simpa using h
  unfold keyD at h
  rw [PySem.W.dataLt_pair h1 h3] at h
  by_cases e : b.word = a.word
  · rw [e]
    exact str_irr _
  · rw [if_neg (by simpa [PyData.eqv] using e)] at h
    exact h
theorem leD_anti {a b : PD} (h1 : leD a b = true) (h2 : leD b a = true) : a.word = b.word := str_anti (leD_word h2) (leD_word h1)
theorem word_inj {ds : List PD} (h : (ds.map PD.word).Nodup) {a b : PD} (ha : a ∈ ds) (hb : b ∈ ds) (e : a.word = b.word) : a = b := by
  induction ds with
  | nil => exact (List.not_mem_nil ha).elim
  | cons d ds ih =>
    rw [List.map_cons, List.nodup_cons] at h
    rcases List.mem_cons.mp ha with ea | ha'
    · rcases List.mem_cons.mp hb with eb | hb'
      · rw [ea, eb]
      · exact (h.1 (by rw [← ea, e]; exact List.mem_map_of_mem hb')).elim
    · rcases List.mem_cons.mp hb with eb | hb'
      · exact (h.1 (by rw [← eb, ← e]; exact List.mem_map_of_mem ha')).elim
      · exact ih h.2 ha' hb'
theorem srt_perm_eq {fs gs : List PD} (p : fs.Perm gs) (n : (fs.map PD.word).Nodup) : srtL fs = srtL gs := by
  have q : (srtL fs).Perm (srtL gs) := (srt_perm fs).trans (p.trans (srt_perm gs).symm)
  have s1 : (srtL fs).Pairwise fun a b => leD a b = true := PySem.W.sort_pairwise leD_total fs
  have s2 : (srtL gs).Pairwise fun a b => leD a b = true := PySem.W.sort_pairwise leD_total gs
  exact q.eq_of_pairwise (fun a b ha hb h1 h2 => word_inj n ((srt_perm fs).mem_iff.mp ha) (p.mem_iff.mpr ((srt_perm gs).mem_iff.mp hb)) (leD_anti h1 h2)) s1 s2
theorem ordL_open : ∀ (X es fs ds : List PD), (∀ x ∈ X, fenceB x = false) → ordL es fs (X ++ ds) = ordL es (fs ++ X) ds
  | [], es, fs, ds, _ => by rw [List.append_nil]; rfl
  | x :: X, es, fs, ds, h => by
    have e : ¬ (fenceB x = true) := by rw [h x List.mem_cons_self]; exact fun z => nomatch z
    rw [List.cons_append, ordL, if_neg e, ordL_open X es (fs ++ [x]) ds fun y hy => h y (List.mem_cons_of_mem _ hy), List.append_assoc]
    rfl
theorem ord_turn : ∀ (ds es fs : List PD), (∀ x ∈ fs, fenceB x = false) → ((fs ++ ds).map PD.word).Nodup → ordL es [] (turnR fs ds) = ordL es fs ds
  | [], es, fs, h, n => by
    have h' : ∀ x ∈ fs.reverse, fenceB x = false := fun x hx => h x (List.mem_reverse.mp hx)
    have e := ordL_open fs.reverse es [] [] h'
    rw [List.append_nil, List.nil_append] at e
    rw [turnR, e]
    unfold ordL
    rw [srt_perm_eq (List.reverse_perm fs) (by
      rw [List.append_nil] at n
      exact ((List.reverse_perm fs).map PD.word).nodup_iff.mpr n)]
  | d :: ds, es, fs, h, n => by
    unfold turnR
    by_cases e : fenceB d = true
    · have h' : ∀ x ∈ fs.reverse, fenceB x = false := fun x hx => h x (List.mem_reverse.mp hx)
      rw [List.map_append, List.map_cons] at n
      have n1 := (List.nodup_append.mp n).1
      have n2 := (List.nodup_cons.mp (List.nodup_append.mp n).2.1).2
      rw [if_pos e, ordL_open _ _ _ _ h', List.nil_append, ordL, if_pos e, ord_turn ds _ [] (fun x hx => (List.not_mem_nil hx).elim) n2]
      conv => rhs; rw [ordL, if_pos e]
      rw [srt_perm_eq (List.reverse_perm fs) (((List.reverse_perm fs).map PD.word).nodup_iff.mpr n1)]
    · rw [if_neg e]
      have e' := Bool.eq_false_iff.mpr e
      rw [ord_turn ds es (fs ++ [d]) (fun x hx => by
        rcases List.mem_append.mp hx with hx | hx
        · exact h x hx
        · rw [List.mem_singleton.mp hx]
          exact e') (by rw [List.append_assoc]; exact n)]
      conv => rhs; rw [ordL, if_neg e]
theorem inOrd_turned {ds : List PD} (n : (ds.map PD.word).Nodup) : inOrd (turned ds) = inOrd ds := ord_turn ds [] [] (fun x hx => (List.not_mem_nil hx).elim) n
theorem ordL_pre : ∀ (ds es fs : List PD), ordL es fs ds = es ++ ordL [] fs ds
  | [], es, fs => by
    unfold ordL
    rw [List.nil_append]
  | d :: ds, es, fs => by
    unfold ordL
    by_cases e : fenceB d = true
    · rw [if_pos e, if_pos e, ordL_pre ds (es ++ (srtL fs ++ [d])), ordL_pre ds ([] ++ (srtL fs ++ [d])), List.nil_append, List.append_assoc]
    · rw [if_neg e, if_neg e, ordL_pre ds es]
/-- what stays, what is sorted: place by place -/
theorem ord_at : ∀ (ds fs : List PD), (∀ x ∈ fs, fenceB x = false) →
    (∀ (i : Nat) (d : PD), (fs ++ ds)[i]? = some d → fenceB d = true → (ordL [] fs ds)[i]? = some d) ∧
    (∀ (i : Nat) (a b : PD), (fs ++ ds)[i]? = some a → (fs ++ ds)[i + 1]? = some b → fenceB a = false → fenceB b = false → ∃ x y, (ordL [] fs ds)[i]? = some x ∧ (ordL [] fs ds)[i + 1]? = some y ∧ leD x y = true)
  | [], fs, h => by
    rw [List.append_nil]
    have e : ordL [] fs [] = srtL fs := rfl
    rw [e]
    refine ⟨fun i d hd f => ?_, fun i a b ha hb fa fb => ?_⟩
    · rw [h d (List.mem_of_getElem? hd)] at f
      cases f
    · have lt := (List.getElem?_eq_some_iff.mp hb).1
      have l2 := srt_len fs
      have p : (srtL fs).Pairwise fun a b => leD a b = true := PySem.W.sort_pairwise leD_total fs
      exact ⟨_, _, List.getElem?_eq_getElem (by omega), List.getElem?_eq_getElem (by omega), List.pairwise_iff_getElem.mp p i (i + 1) (by omega) (by omega) (by omega)⟩
  | d :: ds, fs, h => by
    by_cases e : fenceB d = true
    · obtain ⟨hA, hB⟩ := ord_at ds [] fun x hx => (List.not_mem_nil hx).elim
      rw [List.nil_append] at hA hB
      have e1 : ordL [] fs (d :: ds) = srtL fs ++ d :: ordL [] [] ds := by
        rw [ordL, if_pos e, ordL_pre, List.nil_append, List.append_assoc]
        rfl
      rw [e1]
      have l2 := srt_len fs
      have at3 : ∀ i, fs.length < i → (srtL fs ++ d :: ordL [] [] ds)[i]? = (ordL [] [] ds)[i - fs.length - 1]? := fun i hi => by
        rw [List.getElem?_append_right (by omega), l2, show i - fs.length = (i - fs.length - 1) + 1 by omega, List.getElem?_cons_succ]
        rfl
      have at4 : ∀ i, fs.length < i → (fs ++ d :: ds)[i]? = ds[i - fs.length - 1]? := fun i hi => by
        rw [List.getElem?_append_right (by omega), show i - fs.length = (i - fs.length - 1) + 1 by omega, List.getElem?_cons_succ]
        rfl
      have at5 : (fs ++ d :: ds)[fs.length]? = some d := by
        rw [List.getElem?_append_right (Nat.le_refl _), Nat.sub_self]
        rfl
      refine ⟨fun i c hc f => ?_, fun i a b ha hb fa fb => ?_⟩
      · by_cases h1 : i < fs.length
        · rw [List.getElem?_append_left h1] at hc
          rw [h c (List.mem_of_getElem? hc)] at f
          cases f
        · by_cases h2 : i = fs.length
          · subst h2
            rw [at5] at hc
            rw [← hc, List.getElem?_append_right (by omega), l2, Nat.sub_self]
            rfl
          · rw [at4 i (by omega)] at hc
            rw [at3 i (by omega)]
            exact hA _ _ hc f
      · by_cases h1 : i + 1 < fs.length
        · have p : (srtL fs).Pairwise fun a b => leD a b = true := PySem.W.sort_pairwise leD_total fs
          exact ⟨_, _, by rw [List.getElem?_append_left (by omega)]; exact List.getElem?_eq_getElem (by omega), by rw [List.getElem?_append_left (by omega)]; exact List.getElem?_eq_getElem (by omega), List.pairwise_iff_getElem.mp p i (i + 1) _ _ (by omega)⟩
        · by_cases h2 : i + 1 = fs.length
          · rw [h2, at5] at hb
            rw [← Option.some.inj hb, e] at fb
            cases fb
          · by_cases h3 : i = fs.length
            · rw [h3, at5] at ha
              rw [← Option.some.inj ha, e] at fa
              cases fa
            · rw [at4 i (by omega)] at ha
              rw [at4 (i + 1) (by omega), show i + 1 - fs.length - 1 = (i - fs.length - 1) + 1 by omega] at hb
              rw [at3 i (by omega), at3 (i + 1) (by omega), show i + 1 - fs.length - 1 = (i - fs.length - 1) + 1 by omega]
              exact hB _ _ _ ha hb fa fb
    · have e' := Bool.eq_false_iff.mpr e
      have r := ord_at ds (fs ++ [d]) fun x hx => by
        rcases List.mem_append.mp hx with hx | hx
        · exact h x hx
        · rw [List.mem_singleton.mp hx]
          exact e'
      rw [List.append_assoc] at r
      rw [ordL, if_neg e]
      exact r
theorem inOrd_fence {ds : List PD} {i : Nat} {d : PD} (h : ds[i]? = some d) (f : fenceB d = true) : (inOrd ds)[i]? = some d :=
  (ord_at ds [] fun x hx => (List.not_mem_nil hx).elim).1 i d h f
theorem inOrd_two {ds : List PD} {i : Nat} {a b : PD} (h1 : ds[i]? = some a) (h2 : ds[i + 1]? = some b) (f1 : fenceB a = false) (f2 : fenceB b = false) : ∃ x y, (inOrd ds)[i]? = some x ∧ (inOrd ds)[i + 1]? = some y ∧ leD x y = true :=
  (ord_at ds [] fun x hx => (List.not_mem_nil hx).elim).2 i a b h1 h2 f1 f2
end Lay
set_option Elab.async false
set_option linter.all false
set_option maxRecDepth 100000
set_option maxHeartbeats 800000
set_option pp.maxSteps 900
namespace Lay
open PySem PySem.Spec PyProof.Rows L2
/-! ### l[::-1] of a list -/
section
variable {X : Cx}
def tRevL (K : PySem.W.Frag) (te : TE) : TE := fun σ H Q => te σ H fun x H1 => ∃ a xs, x = .ref a ∧ SqL K H1 a xs ∧ ∀ p, H1 p = none → Q (.ref p) (upd H1 p (.lst xs.reverse))
theorem pe_revL {e : Expr} {te : TE} {k : Nat} {p1 p2 p3 pos : Pos} (he : PE X e te) : PE X (.Subscript e (.Slice none none (some (.UnaryOp .USub (.Constant (.int 1) k p1) p2)) p3) pos) (tRevL X.K te) := by
  refine ⟨fun pins s σ H Q I h => ?_⟩
  refine Subscript_ (thn (he.run pins s σ H _ I h) fun v s1 ⟨x, H1, I1, r1, q1⟩ => ?_)
  obtain ⟨a, xs, ex, hx, q⟩ := q1
  subst ex
  cases r1
  have hst : PO X (some (.UnaryOp .USub (.Constant (.int 1) k p1) p2)) (tPart (tUn (rU fun i => .int (-i)) (tC (.int 1)))) := po_some (pe_un un_neg pe_int)
  refine wpAny_Slice (thn (po_none.run pins s1 σ H1 (fun o H2 => o = none ∧ H2 = H1) I1 ⟨rfl, rfl⟩) fun vl s2 ⟨l, H2, I2, pl, el, e2⟩ => ?_)
  subst el e2
  refine thn (po_none.run pins s2 σ H2 (fun o H3 => o = none ∧ H3 = H2) I2 ⟨rfl, rfl⟩) fun vu s3 ⟨u, H3, I3, pu, eu, e3⟩ => ?_
  subst eu e3
  refine thn (hst.run pins s3 σ H3 (fun o H4 => o = some (-1) ∧ H4 = H3) I3 ⟨1, rfl, -1, rfl, rfl, rfl⟩) fun vs s4 ⟨o, H4, I4, ps, eo, e4⟩ => ?_
  subst eo e4
  have I5 : Inv X pins σ H4 { s4 with heap := s4.heap.push { cls := .type "slice", data := .fields #[vl, vu, vs] } } := I4.kept (t' := s4.toks) fun b ob q => Heap.get?_push_of_some _ q
  obtain ⟨its, r, ht, hz⟩ := I5.list hx
  have hlen := r.length
  cases pl
  cases pu
  show wpAny (model X.prog X.w) X.A (subscriptTail e (.Slice none none (some (.UnaryOp .USub (.Constant (.int 1) k p1) p2)) p3) (.ref a) (.ref s4.heap.objs.size)) (EP X pins σ Q) X.xe { s4 with heap := s4.heap.push { cls := .type "slice", data := .fields #[.none, .none, vs] } }
  refine tail_any (ops := [.ref a, .ref s4.heap.objs.size]) ht.isList.typeIs slot_list_getitem.lookup ?_ (by with_unfolding_all rfl)
  refine wpAny_getItem_list_slice ht.isList (Heap.IsSliceOf.new _ .none .none vs) .none .none ps (by decide) ?_ (by rw [List.size_toArray]; omega)
  rw [PySem.W.krv_pick]
  refine ⟨.ref _, _, I5.laid (t' := s4.toks) (o := .lst xs.reverse) (fun b ob q => Heap.get?_push_of_some _ q) (Nat.le_refl _) ?_, rfl, q _ (I5.hok.fresh (Nat.le_refl _))⟩
  exact ⟨by rw [List.length_reverse]; exact hz, _, 0, r.reverse, Heap.get?_push_size _ rfl⟩
end
end Lay
set_option Elab.async false
set_option linter.all false
set_option maxRecDepth 100000
set_option maxHeartbeats 800000
set_option pp.maxSteps 900
namespace Lay
open PySem PySem.Spec PyProof.Rows L2 KwX StX
/-! ### the law's pieces mixed, and turned -/
abbrev sMixed : Stmt := top 83
abbrev sTurned : Stmt := top 94
theorem paired_perm {α β : Type} {R : α → β → Prop} {xs ys : List α} (p : ys.Perm xs) : ∀ {ds : List β}, Paired R xs ds → ∃ es, es.Perm ds ∧ Paired R ys es := by
  induction p with
  | nil => exact fun h => ⟨_, .refl _, h⟩
  | cons x p ih =>
    intro ds h
    cases h with
    | cons h1 h2 =>
      obtain ⟨es, q, k⟩ := ih h2
      exact ⟨_, q.cons _, .cons h1 k⟩
  | swap x y l =>
    intro ds h
    cases h with
    | cons h1 h2 =>
      cases h2 with
      | cons h2 h3 => exact ⟨_, .swap .., .cons h2 (.cons h1 h3)⟩
  | trans p1 p2 ih1 ih2 =>
    intro ds h
    obtain ⟨es, q, k⟩ := ih2 h
    obtain ⟨fs, q2, k2⟩ := ih1 k
    exact ⟨fs, q2.trans q, k2⟩
theorem paired_rev {α β : Type} {R : α → β → Prop} : ∀ {xs : List α} {ds : List β}, Paired R xs ds → Paired R xs.reverse ds.reverse
  | _, _, .nil => .nil
  | _, _, .cons h t => by
    rw [List.reverse_cons, List.reverse_cons]
    exact pair_app (paired_rev t) (.cons h .nil)
def spMix : Sp := fun vs H Q _ => ∃ (b a : Addr) (xs : List V), vs = [.ref b, .ref a] ∧ BoxAt H b ∧ H a = some (.lst xs) ∧ a ≠ b ∧ xs.length ≤ 100 ∧ ∀ l ys H', Kept b H H' → BoxAt H' b → H l = none → H' l = some (.lst ys) → ys.Perm xs → Q (.ref l) H'
def spTurn : Sp := fun vs H Q _ => ∃ (a : Addr) (xs : List V) (ds : List PD), vs = [.ref a] ∧ H a = some (.lst xs) ∧ Paired (Dc H) xs ds ∧ ds.length ≤ 100 ∧ ∀ l ys H', Same H H' → H l = none → H' l = some (.lst ys) → Paired (Dc H) ys (turned ds) → Q (.ref l) H'
def mixN : List Str := ["_law_box_here", "_law_items", "_law_left", "_law_found", "_law_turn"]
def turnN : List Str := ["_law_pieces", "_law_found", "_law_open_ones", "_law_piece_here"]
theorem erase_perm {α : Type} : ∀ {ls : List α} {k : Nat} {y : α}, ls[k]? = some y → (y :: ls.eraseIdx k).Perm ls
  | [], _, _, h => nomatch h
  | x :: ls, 0, y, h => by
    cases h
    exact .refl _
  | x :: ls, k + 1, y, h => ((List.Perm.swap x y _).trans ((erase_perm (ls := ls) (k := k) h).cons x))
section
variable {P : Program} {w : World} {K : PySem.W.Frag} {mg : Str → Option Value} {base : Heap}
theorem scMixed : FnScope mixN ["_law_box_here", "_law_items"] (defScope sMixed) := ⟨rfl, rfl, rfl, by decide +kernel, rfl, by decide +kernel, by decide +kernel⟩
theorem ok_mixed {f : Addr} {fd : FuncData} (F : Fun K "_law_mixed" "_law_mixed" sMixed f fd) (B : Bt mg) (DT : Has P w K mg base CX0 1 "_law_take" ["_law_box_here", "_law_many"] spTake) : FnOk P w K mg base CX0 2 f fd ["_law_box_here", "_law_items"] spMix := by
  refine F.ok scMixed (fun vs H Q E h => ?_) (fun cdv A outer s H vs Q E hr h => ?_)
  · obtain ⟨b, a, xs, rfl, _⟩ := h
    rfl
  · obtain ⟨b, a, xs, rfl, bx, ha, ab, hl, k⟩ := h
    refine ⟨_, (pss_cons (ps_par (i := 2) (j := 3) (by rfl) scMixed.nd rfl rfl (by decide) rfl rfl (pa_cons (pe_callTy call_listX (by rfl) B.list (by decide +kernel) (pa_cons (pv 1) pa_nil)) (pa_cons (pe_lst pa_nil) pa_nil)) (by rfl))
      (pss_cons (ps_for PassesOwn.never rfl (pi_range1 (by rfl) B.range (pa_cons (pe_callB (call_lenK (K := K) rfl) (by rfl) B.len PySem.boot_len (pa_cons (pv 2) pa_nil)) pa_nil)) (pg_name (i := 4) scMixed.nd rfl (.inl rfl))
        (pss_one (ps_expr (pe_bm PySem.F.plainAttrs_list PySem.F.slot_list_append PySem.F.type_list_append mt_append (pv 3) (pa_cons (pe_bm PySem.F.plainAttrs_list PySem.F.slot_list_pop PySem.F.type_list_pop mt_popAt (pv 2) (pa_cons (pe_callH DT hr (by rfl) pass0 (pa_cons (pv 0) (pa_cons (pe_callB (call_lenK (K := K) rfl) (by rfl) B.len PySem.boot_len (pa_cons (pv 2) pa_nil)) pa_nil))) pa_nil)) pa_nil)))))
      (pss_one (ps_ret (pv 3))))), ?_⟩
    refine ⟨_, rfl, a, xs, rfl, .inl ha, fun l H1 s1 nl hl1 => ⟨(by show 0 ≤ sizeLine; exact Nat.zero_le _), fun f1 nf => ⟨_, _, rfl, ?_⟩⟩⟩
    have lb := bx.ne nl
    have bx1 := BoxAt.same s1 bx
    have fb := bx1.ne nf
    have nlf : l ≠ f1 := ne_of_none hl1 nf
    have sf := Same.new nf (o := .lst [])
    have nHl : H l = none := nl
    have nHf : H f1 = none := s1.free nf
    refine ⟨_, rfl, l, xs, rfl, .inl (SqL.of (sf _ _ hl1)), _, rfl, by omega, by omega, for_range (lo := 0) (n := xs.length) (fun i σ G => ∃ (ls fs : List V) (x4 : Option V), σ = [some (.ref b), some (.ref a), some (.ref l), some (.ref f1), x4] ∧ Kept b H G ∧ BoxAt G b ∧ G l = some (.lst ls) ∧ G f1 = some (.lst fs) ∧ ls.length + i = xs.length ∧ (fs ++ ls).Perm xs)
      ⟨xs, [], none, rfl, Kept.of_same (s1.trans sf), BoxAt.same sf bx1, sf _ _ hl1, upd_same, rfl, .refl _⟩ ?_ ?_⟩
    · rintro i σ G hi ⟨ls, fs, x4, rfl, kG, bG, hls, hfs, hlen, hp⟩
      have lf := hp.length_eq
      rw [List.length_append] at lf
      refine ⟨_, rfl, .inl ⟨rfl, _, SqL.of hfs⟩, _, rfl, .inl ⟨rfl, _, SqL.of hls⟩, _, rfl, _, rfl, l, _, rfl, .inl (SqL.of hls), b, _, rfl, bG, by omega, by omega, fun r o r0 r1 ho => ?_⟩
      have hl3 : upd G b o l = some (.lst ls) := by rw [upd_ne lb]; exact hls
      have hf3 : upd G b o f1 = some (.lst fs) := by rw [upd_ne fb]; exact hfs
      have hr' : r.toNat < ls.length := by omega
      have er : r = ((r.toNat : Nat) : Int) := by omega
      have e2 : ls[r.toNat]? = some ls[r.toNat] := List.getElem?_eq_getElem hr'
      obtain ⟨j, e1, e2, e3, e4, e5⟩ := atI_get (at_of er e2)
      refine ⟨l, _, r, j, _, rfl, rfl, hl3, by omega, by omega, e1, e2, f1, fs, _, rfl, rfl, ?_, small1000 (by omega), ?_⟩
      · rw [upd_ne (Ne.symm nlf)]
        exact hf3
      · have le : (ls.eraseIdx j).length + 1 = ls.length := by
          rw [List.length_eraseIdx_of_lt e3]
          omega
        refine ⟨ls.eraseIdx j, fs ++ [_], _, rfl, (((kG.trans Kept.box).put nHl).put nHf), ⟨o, by rw [upd_ne fb.symm, upd_ne lb.symm]; exact upd_same, ho⟩, ?_, upd_same, by omega, ?_⟩
        · rw [upd_ne nlf]
          exact upd_same
        · rw [List.append_assoc]
          exact ((erase_perm e2).append_left fs).trans hp
    · rintro σ G ⟨ls, fs, x4, rfl, kG, bG, hls, hfs, hlen, hp⟩
      have l0 : ls = [] := List.eq_nil_of_length_eq_zero (by omega)
      rw [l0, List.append_nil] at hp
      exact ⟨_, rfl, k f1 fs G kG bG nHf hfs hp⟩
theorem scTurned : FnScope turnN ["_law_pieces"] (defScope sTurned) := ⟨rfl, rfl, rfl, by decide +kernel, rfl, by decide +kernel, by decide +kernel⟩
theorem ok_turned {f : Addr} {fd : FuncData} (F : Fun K "_law_turned" "_law_turned" sTurned f fd) (DF : Has P w K mg base CX0 1 "_law_is_fence" ["_law_piece_here"] spLFence) : FnOk P w K mg base CX0 2 f fd ["_law_pieces"] spTurn := by
  refine F.ok scTurned (fun vs H Q E h => ?_) (fun cdv A outer s H vs Q E hr h => ?_)
  · obtain ⟨a, xs, ds, rfl, _⟩ := h
    rfl
  · obtain ⟨a, xs, ds, rfl, ha, hx, few, k⟩ := h
    refine ⟨_, (pss_cons (ps_par (i := 1) (j := 2) (by rfl) scTurned.nd rfl rfl (by decide) rfl rfl (pa_cons (pe_lst pa_nil) (pa_cons (pe_lst pa_nil) pa_nil)) (by rfl))
      (pss_cons (ps_for PassesOwn.never rfl (pi_list (pv 0)) (pg_name (i := 3) scTurned.nd rfl (.inl rfl))
        (pss_one (ps_if (pt_val (pe_callH DF hr (by rfl) pass0 (pa_cons (pv 3) pa_nil)))
          (pss_one (ps_par (i := 1) (j := 2) (by rfl) scTurned.nd rfl rfl (by decide) rfl rfl (pa_cons (pe_op op_cat (pe_op op_cat (pv 1) (pe_revL (pv 2))) (pe_lst (pa_cons (pv 3) pa_nil))) (pa_cons (pe_lst pa_nil) pa_nil)) (by rfl)))
          (pss_one (ps_expr (pe_bm PySem.F.plainAttrs_list PySem.F.slot_list_append PySem.F.type_list_append mt_append (pv 2) (pa_cons (pv 3) pa_nil)))))))
      (pss_one (ps_ret (pe_op op_cat (pv 1) (pe_revL (pv 2))))))), ?_⟩
    refine ⟨Nat.zero_le _, fun F1 nF => ⟨Nat.zero_le _, fun O1 nO => ⟨_, _, rfl, ?_⟩⟩⟩
    have s1 := Same.new nF (o := .lst [])
    have s2 := Same.new nO (o := .lst [])
    have lx := Paired.length hx
    refine ⟨_, rfl, a, rfl, ⟨_, SqL.of (s2 _ _ (s1 _ _ ha))⟩, for_list (K := K) (xs := xs) (fun i σ G => ∃ (F O : Addr) (fv ov : List V) (fe oe : List PD) (x3 : Option V), σ = [some (.ref a), some (.ref F), some (.ref O), x3] ∧ Same H G ∧ H F = none ∧ H O = none ∧ F ≠ O ∧ G F = some (.lst fv) ∧ G O = some (.lst ov) ∧ Paired (Dc H) fv fe ∧ Paired (Dc H) ov oe ∧ fe.length + oe.length = i ∧ fe ++ turnR oe (ds.drop i) = turned ds)
      ⟨F1, O1, [], [], [], [], none, rfl, s1.trans s2, nF, s1.free nO, ne_of_none upd_same nO, s2 _ _ upd_same, upd_same, .nil, .nil, rfl, rfl⟩ (fun i σ G _ z => by
      obtain ⟨_, _, _, _, _, _, _, _, z, _⟩ := z
      exact SqL.of (z _ _ ha)) ?_ ?_⟩
    · rintro i x σ G hi ⟨F, O, fv, ov, fe, oe, x3, rfl, sG, nF, nO, ne, hF, hO, pF, pO, hl, ht⟩
      obtain ⟨d, ed, q, lp, rfl, hq⟩ := Paired.nth hx hi
      have li := (List.getElem?_eq_some_iff.mp ed).1
      have lf := Paired.length pF
      have lo := Paired.length pO
      have dr : ds.drop i = d :: ds.drop (i + 1) := by
        rw [List.drop_eq_getElem_cons li, ← Option.some.inj (ed.symm.trans (List.getElem?_eq_getElem li))]
      rw [dr, turnR] at ht
      refine ⟨_, rfl, q, lp, d, rfl, hq.same sG, _, rfl, ?_⟩
      by_cases e : fenceB d = true
      · rw [if_pos e] at ht
        refine iteY (by rw [e]) ⟨_, rfl, _, rfl, O, ov, rfl, SqL.of hO, fun p np => ?_⟩
        have sp := Same.new np (o := .lst ov.reverse)
        refine ⟨F, p, fv, ov.reverse, rfl, rfl, sp _ _ hF, upd_same, fits (by rw [List.length_reverse]; omega), fun p2 np2 => ?_⟩
        have sp2 := Same.new np2 (o := .lst (fv ++ ov.reverse))
        refine ⟨_, rfl, by show 1 ≤ sizeLine; decide, fun p3 np3 => ?_⟩
        have sp3 := Same.new np3 (o := .lst [.ref q])
        refine ⟨p2, p3, _, _, rfl, rfl, sp3 _ _ upd_same, upd_same, fits (by rw [List.length_append, List.length_reverse]; show _ + 1 ≤ _; omega), fun p4 np4 => ?_⟩
        have sp4 := Same.new np4 (o := .lst (fv ++ ov.reverse ++ [.ref q]))
        refine ⟨Nat.zero_le _, fun p5 np5 => ⟨_, _, rfl, ?_⟩⟩
        have sp5 := Same.new np5 (o := .lst [])
        have s4 := ((sG.trans sp).trans sp2).trans sp3
        exact ⟨p4, p5, _, [], fe ++ oe.reverse ++ [d], [], _, rfl, (s4.trans sp4).trans sp5, s4.free np4, (s4.trans sp4).free np5, ne_of_none upd_same np5, sp5 _ _ upd_same, upd_same, pair_app (pair_app pF (paired_rev pO)) (.cons ⟨q, lp, rfl, hq⟩ .nil), .nil, by simp; omega, by rw [← ht]; simp⟩
      · rw [if_neg e] at ht
        refine iteN (by rw [Bool.eq_false_iff.mpr e]) ⟨_, rfl, .inl ⟨rfl, _, SqL.of hO⟩, _, rfl, O, ov, _, rfl, rfl, hO, small1000 (by omega), ?_⟩
        exact ⟨F, O, fv, ov ++ [.ref q], fe, oe ++ [d], _, rfl, same_put sG nO, nF, nO, ne, by rw [upd_ne ne]; exact hF, upd_same, pF, pair_app pO (.cons ⟨q, lp, rfl, hq⟩ .nil), by simp; omega, ht⟩
    · rintro σ G ⟨F, O, fv, ov, fe, oe, x3, rfl, sG, nF, nO, ne, hF, hO, pF, pO, hl, ht⟩
      have lf := Paired.length pF
      have lo := Paired.length pO
      rw [lx, List.drop_length, turnR] at ht
      refine ⟨_, rfl, _, rfl, O, ov, rfl, SqL.of hO, fun p np => ?_⟩
      have sp := Same.new np (o := .lst ov.reverse)
      refine ⟨F, p, fv, ov.reverse, rfl, rfl, sp _ _ hF, upd_same, fits (by rw [List.length_reverse]; omega), fun p2 np2 => ?_⟩
      have sp2 := Same.new np2 (o := .lst (fv ++ ov.reverse))
      exact k p2 _ _ ((sG.trans sp).trans sp2) ((sG.trans sp).free np2) upd_same (by rw [← ht]; exact pair_app pF (paired_rev pO))
end
end Lay
set_option Elab.async false
set_option linter.all false
set_option maxRecDepth 100000
set_option maxHeartbeats 800000
set_option pp.maxSteps 900
namespace Lay
open PySem PySem.Spec PyProof.Rows L2 KwX StX
/-! ### a letter before each word -/
def letter (i : Nat) : Str := ⟨#[97 + i]⟩
def pre (i : Nat) (d : PD) : PD := { d with word := letter i ++ d.word }
def preL (ds : List PD) : List PD := ds.mapIdx pre
theorem letters_at : ∀ i : Nat, i < 11 → atI ("abcdefghijk" : Str).cps.toList ((i : Nat) : Int) = some ((97 + i : Nat)) := by decide +kernel
theorem pre_word (i : Nat) (d : PD) : (pre i d).word.cps.toList = (97 + i) :: d.word.cps.toList := by
  show (letter i ++ d.word).cps.toList = _
  rw [Str.cps_append, Array.toList_append]
  rfl
theorem pre_len (i : Nat) (d : PD) : (pre i d).word.length = d.word.length + 1 := by
  show (letter i ++ d.word).length = _
  rw [Str.length_append]
  show 1 + _ = _
  omega
theorem pre_ok {i : Nat} {d : PD} (f : Few d) (hi : i < 11) : (pre i d).Ok := by
  refine ⟨?_, f.o.some, f.o.few, f.o.parts, f.o.ahead, f.o.behind, f.o.b0, f.o.b3⟩
  have h := f.o.word
  have l := pre_len i d
  have w := f.w
  rw [nameB_eq] at h ⊢
  simp only [Bool.and_eq_true, decide_eq_true_eq] at h ⊢
  refine ⟨by omega, by omega, ?_⟩
  rw [← Array.all_toList] at h ⊢
  rw [pre_word, List.all_cons, h.2.2, Bool.and_true]
  have : ∀ i, i < 11 → az (97 + i) = true := by decide
  exact this i hi
theorem preL_len (ds : List PD) : (preL ds).length = ds.length := List.length_mapIdx
theorem preL_few {ds : List PD} (h : ∀ d ∈ ds, Few d) (l : ds.length ≤ 11) : ∀ d ∈ preL ds, d.Ok ∧ d.parts.length ≤ 30 := by
  intro d hd
  obtain ⟨i, hi, e⟩ := List.mem_iff_getElem.mp hd
  unfold preL at e hi
  rw [List.getElem_mapIdx] at e
  rw [List.length_mapIdx] at hi
  have f := h _ (List.getElem_mem hi)
  rw [← e]
  exact ⟨pre_ok f (by omega), by have := f.p; show (ds[i]).parts.length ≤ 30; omega⟩
theorem preL_words (ds : List PD) : ((preL ds).map PD.word).Nodup := by
  unfold List.Nodup
  rw [List.pairwise_iff_getElem]
  intro i j hi hj lt e
  rw [List.length_map, preL_len] at hi hj
  have e2 := congrArg (fun z : Str => z.cps.toList.head?) e
  simp only [List.getElem_map, preL, List.getElem_mapIdx, pre_word, List.head?_cons, Option.some.injEq] at e2
  omega
theorem run_words {rs : List RD} {w : Int} : ∀ (ds : List PD) (bf : Option (Bool × Bool)), (runL rs w ds bf).map PD.word = ds.map PD.word
  | [], _ => rfl
  | d :: ds, bf => by
    rw [runL, List.map_cons, run_words ds, List.map_cons]
    rfl
theorem put_len {kvs : List (Key × V)} {k : Key} {v u : V} (h : valV kvs k = some u) : (putK kvs k v).length = kvs.length := by
  unfold putK
  have e := valV_any k kvs
  rw [h] at e
  rw [if_pos (by rw [e]; rfl), List.length_map]
theorem LF.put_word {kvs : List (Key × V)} {lp : Addr} {d e : PD} (h : LF kvs lp d) : LF (putK kvs kw (.str e.word)) lp { d with word := e.word } := ⟨h.nd.put, by rw [put_len h.w]; exact h.len, by rw [valV_put, if_pos rfl], by rw [valV_put, if_neg (by decide)]; exact h.p, by rw [valV_put, if_neg (by decide)]; exact h.b, by rw [valV_put, if_neg (by decide)]; exact h.m, by rw [valV_put, if_neg (by decide)]; exact h.a, by rw [valV_put, if_neg (by decide)]; exact h.h, by rw [valV_put, if_neg (by decide)]; exact h.n, by rw [valV_put, if_neg (by decide)]; exact h.l⟩
/-- drawn dicts, apart from each other, in a list of its own -/
structure DsN (H G : Hp) (D : Addr) (xs : List V) (f : Nat → Option PD) : Prop where
  at_ : G D = some (.lst xs)
  ps : ∀ (j : Nat) (v : V), xs[j]? = some v → ∃ d q lp, f j = some d ∧ v = V.ref q ∧ lp ≠ D ∧ H q = none ∧ DictAt G q lp d
  nd : xs.Nodup
  nH : H D = none
section
variable {H G G' : Hp} {D b q lp : Addr} {xs : List V} {f : Nat → Option PD} {ds : List PD} {d : PD}
theorem DsN.same (s : Same G G') (h : DsN H G D xs f) : DsN H G' D xs f := ⟨s _ _ h.at_, fun j v e => by
  obtain ⟨d, q, lp, h1, h2, h3, h4, h5⟩ := h.ps j v e
  exact ⟨d, q, lp, h1, h2, h3, h4, h5.same s⟩, h.nd, h.nH⟩
theorem DsN.kept (bx : BoxAt G b) (k : Kept b G G') (nb : D ≠ b) (fw : ∀ j d, f j = some d → 0 < d.parts.length) (h : DsN H G D xs f) : DsN H G' D xs f := ⟨k _ _ nb h.at_, fun j v e => by
  obtain ⟨d, q, lp, h1, h2, h3, h4, h5⟩ := h.ps j v e
  exact ⟨d, q, lp, h1, h2, h3, h4, h5.kept bx k (fw j d h1)⟩, h.nd, h.nH⟩
theorem DsN.out (h : DsN H G D xs f) (n : G q = none) : V.ref q ∉ xs := fun z => by
  obtain ⟨j, hj, e⟩ := List.mem_iff_getElem.mp z
  obtain ⟨d, q2, lp, h1, h2, h3, h4, kvs, h5, _⟩ := h.ps j _ (List.getElem?_eq_getElem hj)
  rw [e] at h2
  cases h2
  rw [n] at h5
  cases h5
theorem DsN.add (h : DsN H G D xs fun j => ds[j]?) (lx : xs.length = ds.length) (lD : lp ≠ D) (nq : H q = none) (hq : DictAt G q lp d) (out : V.ref q ∉ xs) : DsN H (upd G D (.lst (xs ++ [.ref q]))) D (xs ++ [.ref q]) fun j => (ds ++ [d])[j]? := by
  have up : ∀ {q2 lp : Addr} {d : PD}, lp ≠ D → DictAt G q2 lp d → DictAt (upd G D (.lst (xs ++ [.ref q]))) q2 lp d := fun n hd => by
    obtain ⟨kvs, h1, h2, h3⟩ := hd
    exact ⟨kvs, by rw [upd_ne (ne_of h1 h.at_ (fun z => nomatch z))]; exact h1, by rw [upd_ne n]; exact h2, h3⟩
  refine ⟨upd_same, fun j v e => ?_, ?_, h.nH⟩
  · by_cases lt : j < xs.length
    · rw [List.getElem?_append_left lt] at e
      obtain ⟨d2, q2, lp2, h1, h2, h3, h4, h5⟩ := h.ps j v e
      exact ⟨d2, q2, lp2, by rw [List.getElem?_append_left (by omega)]; exact h1, h2, h3, h4, up h3 h5⟩
    · have lj := (List.getElem?_eq_some_iff.mp e).1
      rw [List.length_append] at lj
      have lj : j = xs.length := by
        have : j < xs.length + 1 := lj
        omega
      subst lj
      rw [List.getElem?_append_right (Nat.le_refl _), Nat.sub_self] at e
      cases e
      exact ⟨d, q, lp, by rw [lx, List.getElem?_append_right (Nat.le_refl _), Nat.sub_self]; rfl, rfl, lD, nq, up lD hq⟩
  · rw [List.nodup_append]
    exact ⟨h.nd, List.nodup_cons.mpr ⟨List.not_mem_nil, List.nodup_nil⟩, fun a ha b hb e => by
      rw [List.mem_singleton.mp hb] at e
      rw [e] at ha
      exact out ha⟩
theorem DsN.put {i : Nat} {kvs : List (Key × V)} {z : Str} (h : DsN H G D xs f) (ex : xs[i]? = some (.ref q)) (hf : f i = some d) (hq : G q = some (.dK kvs)) (hl : G lp = some (.lst (d.parts.map V.str))) (lD : lp ≠ D) (nq : H q = none) (lf : LF kvs lp d) :
    DsN H (upd G q (.dK (putK kvs kw (.str z)))) D xs fun j => if j = i then some { d with word := z } else f j := by
  refine ⟨by rw [upd_ne (ne_of h.at_ hq (fun z => nomatch z))]; exact h.at_, fun j v e => ?_, h.nd, h.nH⟩
  by_cases ji : j = i
  · subst ji
    rw [ex] at e
    cases e
    refine ⟨_, q, lp, if_pos rfl, rfl, lD, nq, _, upd_same, by rw [upd_ne (ne_of hl hq (fun z => nomatch z))]; exact hl, ?_⟩
    exact lf.put_word (e := { d with word := z })
  · obtain ⟨d2, q2, lp2, h1, h2, h3, h4, kvs2, h5, h6, h7⟩ := h.ps j v e
    have qq : q2 ≠ q := fun z => by
      subst z
      rw [h2] at e
      have hi := (List.getElem?_eq_some_iff.mp ex).1
      have hj := (List.getElem?_eq_some_iff.mp e).1
      have ee := (List.getElem?_eq_some_iff.mp e).2.trans (List.getElem?_eq_some_iff.mp ex).2.symm
      have nd := h.nd
      unfold List.Nodup at nd
      rw [List.pairwise_iff_getElem] at nd
      rcases Nat.lt_trichotomy j i with lt | eq | lt
      · exact nd j i hj hi lt ee
      · exact ji eq
      · exact nd i j hi hj lt ee.symm
    exact ⟨d2, q2, lp2, by rw [if_neg ji]; exact h1, h2, h3, h4, kvs2, by rw [upd_ne qq]; exact h5, by rw [upd_ne (ne_of h6 hq (fun z => nomatch z))]; exact h6, h7⟩
theorem DsN.done (h : DsN H G D xs f) (lx : xs.length = ds.length) (e : ∀ j, j < ds.length → f j = ds[j]?) : Paired (Dc G) xs ds := pair_ix lx fun j v d e1 e2 => by
  obtain ⟨d2, q, lp, h1, h2, h3, h4, h5⟩ := h.ps j v e1
  rw [e j (List.getElem?_eq_some_iff.mp e2).1, e2] at h1
  cases h1
  exact ⟨q, lp, h2, h5⟩
end
/-- the pieces of a turn, in a list -/
structure Tm (G3 G : Hp) (b M : Addr) (ys : List V) (es : List PD) : Prop where
  k : Kept b G3 G
  bx : BoxAt G b
  at_ : G M = some (.lst ys)
  ps : Paired (Dc G) ys es
theorem Tm.same {G3 G G' : Hp} {b M : Addr} {ys : List V} {es : List PD} (h : Tm G3 G b M ys es) (s : Same G G') : Tm G3 G' b M ys es := ⟨h.k.trans (Kept.of_same s), BoxAt.same s h.bx, s _ _ h.at_, Paired.mapP h.ps fun v d ⟨q, lp, e, hq⟩ => ⟨q, lp, e, hq.same s⟩⟩
theorem dc_kept {b : Addr} {G G' : Hp} (x : BoxAt G b) (k : Kept b G G') : ∀ {xs : List V} {ds : List PD}, (∀ d ∈ ds, 0 < d.parts.length) → Paired (Dc G) xs ds → Paired (Dc G') xs ds
  | _, _, _, .nil => .nil
  | _, _, f, .cons ⟨q, lp, e, h⟩ t => .cons ⟨q, lp, e, h.kept x k (f _ List.mem_cons_self)⟩ (dc_kept x k (fun d hd => f d (List.mem_cons_of_mem _ hd)) t)
end Lay
set_option Elab.async false
set_option linter.all false
set_option maxRecDepth 100000
set_option maxHeartbeats 4000000
set_option pp.maxSteps 700
namespace Lay
open PySem PySem.Spec PyProof.Rows L2 KwX StX
/-! ### the law -/
structure Ev2 (K : PySem.W.Frag) (CR CT : Addr) (H : Hp) (b y1 y2 : Addr) (rs : List RD) (G : Hp) : Prop where
  s : Same H G
  bx : BoxAt G b
  t1 : TlAt K CR CT G y1 rs true
  t2 : TlAt K CR CT G y2 rs false
theorem Ev2.kept {K : PySem.W.Frag} {CR CT b y1 y2 : Addr} {H G G' : Hp} {rs : List RD} (n : H b = none) (h : Ev2 K CR CT H b y1 y2 rs G) (k : Kept b G G') (x : BoxAt G' b) : Ev2 K CR CT H b y1 y2 rs G' := ⟨sameK h.s k n, x, h.t1.kept h.bx k, h.t2.kept h.bx k⟩
theorem kept_free {b D : Addr} {G G' : Hp} (k : Kept b G G') (nb : D ≠ b) (n : G' D = none) : G D = none := by
  cases e : G D with
  | none => rfl
  | some o =>
    rw [k _ _ nb e] at n
    cases n
def fPre (ds : List PD) (n j : Nat) : Option PD := (ds[j]?).map fun d => if j < n then pre j d else d
theorem fPre_zero (ds : List PD) : fPre ds 0 = fun j => ds[j]? := by
  funext j
  unfold fPre
  cases ds[j]? <;> rfl
theorem fPre_self (ds : List PD) (n : Nat) : fPre ds n n = ds[n]? := by
  unfold fPre
  cases ds[n]? with
  | none => rfl
  | some d => simp
theorem fPre_succ {ds : List PD} {n : Nat} {d : PD} (e : ds[n]? = some d) : (fun j => if j = n then some (pre n d) else fPre ds n j) = fPre ds (n + 1) := by
  funext j
  unfold fPre
  by_cases h : j = n
  · subst h
    rw [if_pos rfl, e]
    simp
  · rw [if_neg h]
    cases ds[j]? with
    | none => rfl
    | some d' =>
      by_cases h2 : j < n
      · simp [h2, Nat.lt_succ_of_lt h2]
      · have : ¬ j < n + 1 := by omega
        simp [h2, this]
theorem fPre_done {ds : List PD} {j : Nat} (h : j < (preL ds).length) : fPre ds ds.length j = (preL ds)[j]? := by
  rw [preL_len] at h
  unfold fPre preL
  rw [List.getElem?_mapIdx, List.getElem?_eq_getElem h]
  simp [h]
theorem made_lc {K : PySem.W.Frag} {C D2 E : Addr} {G : Hp} {us : List V} {es : List PD} {Qd : Hp → Prop} {y0 y1 y2 y3 y4 y5 y6 y7 y8 y9 y10 y11 y12 y13 y14 y15 y16 : Option V} (hD : G D2 = some (.lst us)) (hp : Paired (Dc G) us es) (few : ∀ d ∈ es, d.Ok ∧ d.parts.length ≤ 30) (len : es.length ≤ 100) (nE : G E = none) (k : ∀ (G' : Hp) (zs : List V), Same G G' → G' E = some (.lst zs) → PcsAt K C G' zs es → Qd G') :
    ∃ W : Nat → Nat → Hp → Prop, (∃ m, W 0 m (upd G E (.lst []))) ∧ ∀ i m H, W i m H → ((Itl K D2).stop i H ∧ Qd H) ∨ ((Itl K D2).go i H ∧ ∃ Nx : Hp → Prop, (∀ H', Nx H' → ∃ m', m' < m ∧ W (i + 1) m' H') ∧ ∀ x H', (Itl K D2).yld i H x H' → gName 10 x (wipe [y0, y1, y2, y3, y4, y5, y6, y7, y8, y9, y10, y11, y12, y13, y14, y15, y16] [10]) H' fun σ2 H2 => wipe σ2 [10] = wipe [y0, y1, y2, y3, y4, y5, y6, y7, y8, y9, y10, y11, y12, y13, y14, y15, y16] [10] ∧ tYes σ2 H2 fun b H3 =>
      if b = true then tCall (spLMade K C) [] E0 (tCons (tVar 10) tNil) σ2 H3 fun y H4 => ∃ acc, H4 E = some (.lst acc) ∧ acc.length < sizeLine ∧ Nx (upd H4 E (.lst (acc ++ [y]))) else Nx H3) := by
  have lx := Paired.length hp
  refine lc_list (K := K) (xs := us) (fun n G' => ∃ zs : List V, Same G G' ∧ G' E = some (.lst zs) ∧ PcsAt K C G' zs (es.take n)) ⟨[], Same.new nE, upd_same, by rw [List.take_zero]; exact PcsAt.nil⟩ (fun n G' _ z => by
    obtain ⟨_, z, _⟩ := z
    exact SqL.of (z _ _ hD)) ?_ ?_
  · rintro n x G' hx ⟨zs, s', hE, pcs⟩
    obtain ⟨d, ed, q, lp, rfl, hq⟩ := Paired.nth hp hx
    obtain ⟨o', few'⟩ := few d (List.mem_of_getElem? ed)
    have ln := (List.getElem?_eq_some_iff.mp ed).1
    have lz : zs.length = n := by
      rw [pcs.1, List.length_take]
      omega
    refine ⟨rfl, _, rfl, q, lp, d, rfl, hq.same s', o', few', fun y1 G5 s5 n5 hy => ⟨_, s5 _ _ hE, small1000 (by omega), zs ++ [.ref y1], same_put (s'.trans s5) nE, upd_same, ?_⟩⟩
    rw [List.take_succ, ed]
    exact ((pcs.same s5).append (PcsAt.one hy o' few')).put (s5 _ _ hE)
  · rintro G' ⟨zs, s', hE, hz⟩
    rw [lx, List.take_length] at hz
    exact k G' zs s' hE hz
theorem dc_same {G G' : Hp} {xs : List V} {ds : List PD} (s : Same G G') (h : Paired (Dc G) xs ds) : Paired (Dc G') xs ds := Paired.mapP h fun v d ⟨q, lp, e, hq⟩ => ⟨q, lp, e, hq.same s⟩
def LawN : List Str := ["_law_script", "_law_k", "_law_box_here", "_law_rows", "_law_made_here", "_law_bare", "_law_turn", "_law_some", "_law_width", "_law_at", "_law_piece_here", "_law_here", "_law_there", "_law_ready", "_law_words", "_law_is_open", "_law_more"]
abbrev LawP : List Str := ["_law_script"]
abbrev sLaw : Stmt := top 95
def spLaw (K : PySem.W.Frag) : Sp := fun vs H Q _ => ∃ (a : Addr) (ns : List Int), vs = [.ref a] ∧ SqL K H a (ns.map V.int) ∧ ns.length ≤ 63 ∧ ∀ H', Q (.bl true) H'
theorem ne_self (z : Str) : (!decide (V.str z = V.str z)) = false := by simp
section
variable {P : Program} {w : World} {K : PySem.W.Frag} {mg : Str → Option Value} {base : Heap}
theorem scLaw : FnScope LawN LawP (defScope sLaw) := ⟨rfl, rfl, rfl, by decide +kernel, rfl, by decide +kernel, by decide +kernel⟩
theorem ok_Law {f C CP CR CT : Addr} {fd : FuncData} (B : Bt mg) (T : Pg P w K mg base C CP)
    (DB : Has P w K mg base CX0 1 "_law_box" ["_law_script", "_law_k", "_law_own"] (spBox K)) (DT : Has P w K mg base CX0 1 "_law_take" ["_law_box_here", "_law_many"] spTake) (DP : Has P w K mg base CX0 4 "_law_piece" ["_law_box_here", "_law_many"] spLPiece) (DM : Has P w K mg base CX0 5 "_law_made" ["_law_piece_here"] (spLMade K C)) (DTl : Has P w K mg base CX0 5 "_law_tool" ["_law_box_here"] spLTool) (DTo : Has P w K mg base CX0 5 "_law_tool_of" ["_law_tool_here"] (spToolOf K CR CT))
    (DRn : Has P w K mg base CX0 7 "run" ["tool", "width", "program"] (spRunS K CR CT C CP)) (DSo : Has P w K mg base CX0 2 "_law_sorted" ["_law_pieces"] (spLSorted K)) (DTn : Has P w K mg base CX0 2 "_law_turned" ["_law_pieces"] spTurn) (DX : Has P w K mg base CX0 2 "_law_mixed" ["_law_box_here", "_law_items"] spMix) (DF : Has P w K mg base CX0 1 "_law_is_fence" ["_law_piece_here"] spLFence) (F : Fun K "law" "law" sLaw f fd) : FnOk P w K mg base CX0 9 f fd LawP (spLaw K) := by
  refine F.ok scLaw (fun vs H Q E h => ?_) (fun cdv A outer s H vs Q E hr h => ?_)
  · obtain ⟨a, ns, rfl, _⟩ := h
    rfl
  · obtain ⟨a, ns, rfl, hs, hn, k⟩ := h
    have hu := hu_of hr
    have hr1 := hr.mono (show 1 ≤ 8 by decide)
    have hr2 := hr.mono (show 2 ≤ 8 by decide)
    have hr4 := hr.mono (show 4 ≤ 8 by decide)
    have hr5 := hr.mono (show 5 ≤ 8 by decide)
    have hr7 := hr.mono (show 7 ≤ 8 by decide)
    refine ⟨_, (pss_cons (ps_for PassesOwn.never rfl (pi_range1 (by rfl) B.range (pa_cons (pe_callB (call_max2 rfl) (by rfl) B.max (by decide +kernel) (pa_cons pe_int (pa_cons (pe_callB (call_min2 rfl) (by rfl) B.min (by decide +kernel) (pa_cons pe_int (pa_cons (pe_callB (call_lenK (K := K) rfl) (by rfl) B.len PySem.boot_len (pa_cons (pv 0) pa_nil)) pa_nil))) pa_nil))) pa_nil)) (pg_name (i := 1) scLaw.nd rfl (.inl rfl))
      (pss_cons (ps_set (i := 2) scLaw.nd rfl (.inr rfl) (pe_callH DB hr1 (by rfl) pass0 (pa_cons (pv 0) (pa_cons (pv 1) (pa_cons pe_int pa_nil)))))
      (C8.pss_cut (ps_set (i := 3) scLaw.nd rfl (.inl rfl) (pe_ix ix_tup (pe_callH DTl hr5 (by rfl) pass0 (pa_cons (pv 2) pa_nil)) pe_int (fun _ _ => rfl)))
      (C8.pss_cut (ps_par (i := 4) (j := 5) (by rfl) scLaw.nd rfl rfl (by decide) rfl rfl (pa_cons (pe_callH DTo hr5 (by rfl) pass0 (pa_cons (pe_tup (pa_cons (pv 3) (pa_cons pe_bl pa_nil))) pa_nil)) (pa_cons (pe_callH DTo hr5 (by rfl) pass0 (pa_cons (pe_tup (pa_cons (pv 3) (pa_cons pe_bl pa_nil))) pa_nil)) pa_nil)) (by rfl))
      (pss_one (ps_for PassesOwn.never rfl (pi_range1 (by rfl) B.range (pa_cons pe_int pa_nil)) (pg_name (i := 6) scLaw.nd rfl (.inl rfl))
      (C8.pss_cut (ps_setLc (i := 7) (own := [("_law_more", 16)]) (g := gName 16) (tt := tYes) rfl scLaw.nd rfl rfl (sw_true rfl rfl rfl (by decide +kernel)) (pi_range1 (by rfl) B.range (pa_cons (pe_callH DT hr1 (by rfl) pass0 (pa_cons (pv 2) (pa_cons pe_int pa_nil))) pa_nil)) (blkOk_by (N := LawN) (sc := defScope sLaw) (by decide +kernel)) (fun _ _ _ _ _ => pg_name (i := 16) scLaw.nd rfl (Or.inl rfl)) (fun _ _ _ _ _ => pts_nil) (fun _ _ _ _ _ => (pe_callH DP hr4 (by rfl) pass0 (pa_cons (pv 2) (pa_cons pe_int pa_nil)))))
      (C8.pss_cut (ps_set (i := 8) scLaw.nd rfl (.inl rfl) (pe_op op_add pe_int (pe_callH DT hr1 (by rfl) pass0 (pa_cons (pv 2) (pa_cons pe_int pa_nil)))))
      (C8.pss_cut (ps_for PassesOwn.never rfl (pi_enum (by rfl) B.enumerate (pa_cons (pv 7) pa_nil)) (pg_tup rfl (pgs_cons (pg_name (i := 9) scLaw.nd rfl (.inl rfl)) (pgs_cons (pg_name (i := 10) scLaw.nd rfl (.inl rfl)) pgs_nil)))
      (pss_one (ps_dput hu (pv 10) pe_str (pe_op op_add_str (pe_ix ix_str pe_str (pv 9) (fun _ _ => rfl)) (pe_dget hu (pv 10) pe_str (fun _ _ => rfl))) (by rfl))))
      (C8.pss_cut (ps_set (i := 7) scLaw.nd rfl (.inl rfl) (pe_callH DX hr2 (by rfl) pass0 (pa_cons (pv 2) (pa_cons (pv 7) pa_nil))))
      (C8.pss_cut (ps_set (i := 11) scLaw.nd rfl (.inl rfl) (pe_callH DRn hr7 (by rfl) pass0 (pa_cons (pv 4) (pa_cons (pv 8) (pa_cons (pe_mkPg (K := K) rfl T rfl hr4 (by rfl) (pa_cons (pe_lc (own := [("_law_piece_here", 10)]) (g := gName 10) (tt := tYes) (by rfl) scLaw.nd (pi_list (pv 7)) (blkOk_by (N := LawN) (sc := defScope sLaw) (by decide +kernel)) (fun _ _ _ _ _ => pg_name (i := 10) scLaw.nd rfl (Or.inl rfl)) (fun _ _ _ _ _ => pts_nil) (fun _ _ _ _ _ => (pe_callH DM hr5 (by rfl) pass0 (pa_cons (pv 10) pa_nil)))) pa_nil)) pa_nil)))))
      (C8.pss_cut (ps_set (i := 12) scLaw.nd rfl (.inl rfl) (pe_callH DRn hr7 (by rfl) pass0 (pa_cons (pv 4) (pa_cons (pv 8) (pa_cons (pe_mkPg (K := K) rfl T rfl hr4 (by rfl) (pa_cons (pe_lc (own := [("_law_piece_here", 10)]) (g := gName 10) (tt := tYes) (by rfl) scLaw.nd (pi_list (pe_callH DTn hr2 (by rfl) pass0 (pa_cons (pv 7) pa_nil))) (blkOk_by (N := LawN) (sc := defScope sLaw) (by decide +kernel)) (fun _ _ _ _ _ => pg_name (i := 10) scLaw.nd rfl (Or.inl rfl)) (fun _ _ _ _ _ => pts_nil) (fun _ _ _ _ _ => (pe_callH DM hr5 (by rfl) pass0 (pa_cons (pv 10) pa_nil)))) pa_nil)) pa_nil)))))
      (C8.pss_cut (ps_set (i := 13) scLaw.nd rfl (.inl rfl) (pe_mkPg (K := K) rfl T rfl hr4 (by rfl) (pa_cons (pe_lc (own := [("_law_piece_here", 10)]) (g := gName 10) (tt := tYes) (by rfl) scLaw.nd (pi_list (pe_callH DSo hr2 (by rfl) pass0 (pa_cons (pv 7) pa_nil))) (blkOk_by (N := LawN) (sc := defScope sLaw) (by decide +kernel)) (fun _ _ _ _ _ => pg_name (i := 10) scLaw.nd rfl (Or.inl rfl)) (fun _ _ _ _ _ => pts_nil) (fun _ _ _ _ _ => (pe_callH DM hr5 (by rfl) pass0 (pa_cons (pv 10) pa_nil)))) pa_nil)))
      (C8.pss_cut (ps_if (PW.pt (pw_or (pt_cmpR (op_nePg (K := K) rfl T hr) (pv 11) (pv 12) (nomark _)) (pw_or1 (pt_cmpR (op_nePg (K := K) rfl T hr) (pe_callH DRn hr7 (by rfl) pass0 (pa_cons (pv 5) (pa_cons (pv 8) (pa_cons (pv 13) pa_nil)))) (pv 11) (nomark _))))) (pss_one (ps_ret pe_bl)) pss_nil)
      (C8.pss_cut (ps_setLc (i := 14) (own := [("_law_piece_here", 10)]) (g := gName 10) (tt := tYes) rfl scLaw.nd rfl rfl (sw_true rfl rfl rfl (by decide +kernel)) (pi_tup (pe_fld (pv 11) rfl)) (blkOk_by (N := LawN) (sc := defScope sLaw) (by decide +kernel)) (fun _ _ _ _ _ => pg_name (i := 10) scLaw.nd rfl (Or.inl rfl)) (fun _ _ _ _ _ => pts_nil) (fun _ _ _ _ _ => (pe_fldK (K := K) rfl (pv 10) rfl)))
      (pss_one (ps_for PassesOwn.never rfl (pi_enum (by rfl) B.enumerate (pa_cons (pv 7) pa_nil)) (pg_tup rfl (pgs_cons (pg_name (i := 9) scLaw.nd rfl (.inl rfl)) (pgs_cons (pg_name (i := 10) scLaw.nd rfl (.inl rfl)) pgs_nil)))
      (C8.pss_cut (ps_if (PW.pt (pw_and (pt_val (pe_callH DF hr1 (by rfl) pass0 (pa_cons (pv 10) pa_nil))) (pw_and1 (pt_cmpR op_ne (pe_ix (ix_listK (K := K) rfl) (pv 14) (pv 9) (fun _ _ => rfl)) (pe_dget hu (pv 10) pe_str (fun _ _ => rfl)) (nomark _))))) (pss_one (ps_ret pe_bl)) pss_nil)
      (C8.pss_cut (ps_set (i := 15) scLaw.nd rfl (.inl rfl) (pe_and (pe_cmpR op_gt (pv 9) pe_int (nomark _)) (pe_and (pe_not (pe_callH DF hr1 (by rfl) pass0 (pa_cons (pv 10) pa_nil))) (pe_one (pe_not (pe_callH DF hr1 (by rfl) pass0 (pa_cons (pe_ix (ix_listK (K := K) rfl) (pv 7) (pe_op op_sub (pv 9) pe_int) (fun _ _ => rfl)) pa_nil)))))))
      (pss_one (ps_if (PW.pt (pw_and (pt_val (pv 15)) (pw_and1 (pt_cmpR (op_gtDK (K := K) rfl hr.units) (pe_ix (ix_listK (K := K) rfl) (pv 14) (pe_op op_sub (pv 9) pe_int) (fun _ _ => rfl)) (pe_ix (ix_listK (K := K) rfl) (pv 14) (pv 9) (fun _ _ => rfl)) (nomark _))))) (pss_one (ps_ret pe_bl)) pss_nil)))))))))))))))))))))
    (pss_one (ps_ret pe_bl))), ?_⟩
    have hmap : (ns.map V.int).length = ns.length := List.length_map ..
    refine ⟨_, rfl, a, _, rfl, .inl hs, _, _, rfl, _, _, rfl, _, rfl, ?_, ?_, for_range (lo := 0) (n := Int.toNat _) (fun i σ G => ∃ x1 x2 x3 x4 x5 x6 x7 x8 x9 x10 x11 x12 x13 x14 x15 x16 : Option V, σ = [some (.ref a), x1, x2, x3, x4, x5, x6, x7, x8, x9, x10, x11, x12, x13, x14, x15, x16] ∧ Same H G) ⟨none, none, none, none, none, none, none, none, none, none, none, none, none, none, none, none, rfl, Same.rfl⟩ ?_ ?_⟩
    · split <;> split <;> omega
    · split <;> split <;> omega
    · rintro i σ G hi ⟨x1, x2, x3, x4, x5, x6, x7, x8, x9, x10, x11, x12, x13, x14, x15, x16, rfl, sG⟩
      have hi3 : i ≤ 2 := by
        revert hi
        split <;> split <;> omega
      refine ⟨_, rfl, _, rfl, a, ns, 0 + (i : Int), 65, rfl, sG.seq hs, by omega, by omega, by decide, by decide, by omega, fun b G1 sb nb bb => ?_⟩
      have nb : H b = none := sG.free nb
      have s1 := sG.trans sb
      clear sG sb
      refine ⟨fun σ G => ∃ (R : Addr) (zs : List V) (rs : List RD), σ = [some (.ref a), some (.int (0 + (i : Int))), some (.ref b), some (.ref R), x4, x5, x6, x7, x8, x9, x10, x11, x12, x13, x14, x15, x16] ∧ Same H G ∧ BoxAt G b ∧ G R = some (.lst zs) ∧ Paired (PrG G) zs rs ∧ zs.length ≤ 4, ?_, ?_⟩
      · refine ⟨_, rfl, b, rfl, bb, fun p R xs s G' kk bx hp hR Rb hx lx => ?_⟩
        obtain ⟨rs, hrs⟩ := pair_of (P := PrG G') hx
        refine ⟨p, _, 0, _, rfl, rfl, SqT.of hp, rfl, ?_⟩
        exact ⟨R, xs, rs, rfl, sameK s1 kk nb, bx, hR, hrs, lx⟩
      clear s1 bb
      rintro σ G2 ⟨R, zs, rs, rfl, s2, b2, hR, hrs, lz⟩
      have gd : ∀ r ∈ rs, GoodR r := fun r hr => (pr_dr hrs r hr).good
      refine ⟨fun σ G => ∃ y1 y2 : Addr, σ = [some (.ref a), some (.int (0 + (i : Int))), some (.ref b), some (.ref R), some (.ref y1), some (.ref y2), x6, x7, x8, x9, x10, x11, x12, x13, x14, x15, x16] ∧ Ev2 K CR CT H b y1 y2 rs G, ?_, ?_⟩
      · refine ⟨_, rfl, (by show 2 ≤ sizeLine; decide), fun p1 np1 => ?_⟩
        have v1 := Same.new np1 (o := .tup [.ref R, .bl true])
        refine ⟨p1, R, zs, rs, true, rfl, upd_same, v1 _ _ hR, Paired.mapP hrs fun v r z => z.same v1, by omega, fun y1 G4 s4 h4 => ?_⟩
        refine ⟨_, rfl, (by show 2 ≤ sizeLine; decide), fun p2 np2 => ?_⟩
        have v2 := Same.new np2 (o := .tup [.ref R, .bl false])
        have v12 := (v1.trans s4).trans v2
        refine ⟨p2, R, zs, rs, false, rfl, upd_same, v12 _ _ hR, Paired.mapP hrs fun v r z => z.same v12, by omega, fun y2 G5 s5 h5 => ?_⟩
        exact ⟨_, _, rfl, y1, y2, rfl, (s2.trans v12).trans s5, BoxAt.same (v12.trans s5) b2, h4.same (v2.trans s5), h5⟩
      clear s2 b2 hR hrs lz
      rintro σ G2 ⟨y1, y2, rfl, ev⟩
      refine ⟨6, rfl, by decide, by decide, for_range (lo := 0) (n := 6) (fun j σ G => ∃ x6 x7 x8 x9 x10 x11 x12 x13 x14 x15 x16 : Option V, σ = [some (.ref a), some (.int (0 + (i : Int))), some (.ref b), some (.ref R), some (.ref y1), some (.ref y2), x6, x7, x8, x9, x10, x11, x12, x13, x14, x15, x16] ∧ Ev2 K CR CT H b y1 y2 rs G) ⟨x6, x7, x8, x9, x10, x11, x12, x13, x14, x15, x16, rfl, ev⟩ ?_ ?_⟩
      · clear ev
        rintro j σ G3 hj ⟨x6, x7, x8, x9, x10, x11, x12, x13, x14, x15, x16, rfl, ev⟩
        -- the drawn dicts
        refine ⟨fun σ G => ∃ (D : Addr) (xs : List V) (ds : List PD), σ = [some (.ref a), some (.int (0 + (i : Int))), some (.ref b), some (.ref R), some (.ref y1), some (.ref y2), some (.int (0 + (j : Int))), some (.ref D), x8, x9, x10, x11, x12, x13, x14, x15, x16] ∧ Kept b G3 G ∧ BoxAt G b ∧ DsN G3 G D xs (fun j => ds[j]?) ∧ D ≠ b ∧ (∀ d ∈ ds, Few d) ∧ ds.length ≤ 10 ∧ xs.length = ds.length, ?_, ?_⟩
        · refine ⟨_, rfl, b, 11, rfl, ev.bx, by decide, by decide, fun r o r0 r1 ho => ⟨r, rfl, by omega, by omega, fun D nD => ?_⟩⟩
          have kk : Kept b G3 (upd G3 b o) := Kept.box
          have bx : BoxAt (upd G3 b o) b := BoxAt.box ho
          generalize upd G3 b o = G5 at kk bx nD ⊢
          have Db : D ≠ b := bx.ne nD
          have nD3 := kept_free kk Db nD
          have sD := Same.new nD (o := .lst [])
          refine lc_range (lo := 0) (n := Int.toNat _) (fun m G' => ∃ (xs : List V) (ds : List PD), Kept b G3 G' ∧ BoxAt G' b ∧ DsN G3 G' D xs (fun j => ds[j]?) ∧ (∀ d ∈ ds, Few d) ∧ ds.length = m ∧ xs.length = ds.length) ⟨[], [], kk.trans (Kept.of_same sD), BoxAt.same sD bx, ⟨upd_same, fun j v e => (nomatch e), List.nodup_nil, nD3⟩, fun d h => (List.not_mem_nil h).elim, rfl, rfl⟩ ?_ ?_
          · rintro m G6 hm ⟨xs, ds, kG, bG, dn, fw, ln, lx⟩
            refine ⟨rfl, _, rfl, b, 2, rfl, bG, by decide, by decide, fun q lp d G7 k6 b6 o6 _ lw lp4 hq nq nlp => ?_⟩
            have qb : q ≠ b := bG.ne nq
            have hD6 := k6 _ _ Db dn.at_
            have lD : lp ≠ D := (ne_of_none dn.at_ nlp).symm
            have fd : Few d := ⟨o6, by omega, lw⟩
            have dn6 := dn.kept bG k6 Db fun j e he => (fw e (List.mem_of_getElem? he)).o.some
            refine ⟨_, hD6, small1000 (by omega), xs ++ [.ref q], ds ++ [d], (kG.trans k6).put nD3, ?_, dn6.add lx lD (kept_free kG qb nq) hq (dn.out nq), fun e he => ?_, by rw [List.length_append, ln]; rfl, by rw [List.length_append, List.length_append, lx]; rfl⟩
            · obtain ⟨o2, e2, y2⟩ := b6
              exact ⟨o2, by rw [upd_ne Db.symm]; exact e2, y2⟩
            · rcases List.mem_append.mp he with he | he
              · exact fw e he
              · rw [List.mem_singleton] at he
                rw [he]
                exact fd
          · rintro G6 ⟨xs, ds, kG, bG, dn, fw, ln, lx⟩
            exact ⟨D, xs, ds, rfl, kG, bG, dn, Db, fw, by omega, lx⟩
        rintro σ G4 ⟨D, xs, ds, rfl, kG, bG, dn, Db, fw, l10, lx⟩
        refine ⟨fun σ G => ∃ w0 : Int, σ = [some (.ref a), some (.int (0 + (i : Int))), some (.ref b), some (.ref R), some (.ref y1), some (.ref y2), some (.int (0 + (j : Int))), some (.ref D), some (.int (w0)), x9, x10, x11, x12, x13, x14, x15, x16] ∧ Kept b G3 G ∧ BoxAt G b ∧ DsN G3 G D xs (fun j => ds[j]?), ?_, ?_⟩
        · refine ⟨_, rfl, b, 30, rfl, bG, by decide, by decide, fun r o r0 r1 ho => ⟨4, r, rfl, rfl, 4 + r, rfl, kG.trans Kept.box, BoxAt.box ho, dn.kept bG Kept.box Db fun j e he => (fw e (List.mem_of_getElem? he)).o.some⟩⟩
        clear kG bG dn
        rintro σ G5 ⟨w0, rfl, kG, bG, dn⟩
        rw [← fPre_zero] at dn
        refine ⟨fun σ G => ∃ x9 x10 : Option V, σ = [some (.ref a), some (.int (0 + (i : Int))), some (.ref b), some (.ref R), some (.ref y1), some (.ref y2), some (.int (0 + (j : Int))), some (.ref D), some (.int (w0)), x9, x10, x11, x12, x13, x14, x15, x16] ∧ Tm G3 G b D xs (preL ds), ?_, ?_⟩
        · refine ⟨_, rfl, D, _, rfl, SqL.of dn.at_, for_it walk_enum (fun n σ G => ∃ x9 x10 : Option V, σ = [some (.ref a), some (.int (0 + (i : Int))), some (.ref b), some (.ref R), some (.ref y1), some (.ref y2), some (.int (0 + (j : Int))), some (.ref D), some (.int (w0)), x9, x10, x11, x12, x13, x14, x15, x16] ∧ Kept b G3 G ∧ BoxAt G b ∧ DsN G3 G D xs (fPre ds n)) ⟨x9, x10, rfl, kG, bG, dn⟩ (fun n σ G _ z => by
            obtain ⟨_, _, _, _, _, z⟩ := z
            exact SqL.of z.at_) ?_ ?_⟩
          · clear kG bG dn
            rintro n x σ G G' hn ⟨x9, x10, rfl, kG, bG, dn⟩ ⟨Tp, x, y, rfl, nT, rfl, e1, e2⟩
            cases e1
            have sT := Same.new nT (o := .tup [.int (n : Nat), y])
            obtain ⟨d, q, lp, ef, rfl, lD, nq, hq⟩ := dn.ps n y e2
            rw [fPre_self] at ef
            have hq' := hq.same sT
            obtain ⟨kvs, hq1, hq2, lf⟩ := id hq'
            refine ⟨Tp, _, rfl, SqT.of upd_same, rfl, _, _, rfl, _, _, rfl, rfl, ?_⟩
            refine ⟨_, rfl, _, _, 97 + n, rfl, rfl, (by show 11 ≤ sizeLine; decide), letters_at n (by omega), _, rfl, q, _, rfl, dg_w hq', _, _, rfl, rfl, ?_, _, rfl, q, _, rfl, DPut.k (k := kw) hq1 (small1000 (by have := lf.len; omega)), _, _, rfl, ?_, ?_, ?_⟩
            · have := (fw d (List.mem_of_getElem? ef)).w
              exact Lay.fitsN (by show 1 + d.word.length ≤ 1000000; omega)
            · exact (kG.trans (Kept.of_same sT)).put nq
            · have qb : b ≠ q := fun z => by
                obtain ⟨bs, hb⟩ := bG.at
                have hb' := sT _ _ hb
                rw [z, hq1] at hb'
                cases hb'
              obtain ⟨o2, e3, y3⟩ := BoxAt.same sT bG
              exact ⟨o2, by rw [upd_ne qb]; exact e3, y3⟩
            · have h := (dn.same sT).put (z := letter n ++ d.word) e2 (by rw [fPre_self]; exact ef) hq1 hq2 lD nq lf
              rw [← fPre_succ ef]
              exact h
          · rintro σ G ⟨x9, x10, rfl, kG, bG, dn⟩
            rw [lx] at dn
            exact ⟨x9, x10, rfl, kG, bG, dn.at_, dn.done (by rw [preL_len, lx]) fun j hj => fPre_done hj⟩
        clear kG bG dn
        rintro σ G6 ⟨x9, x10, rfl, tm⟩
        have few0 := preL_few fw (by omega)
        have nd0 := preL_words ds
        have l0 := preL_len ds
        refine ⟨fun σ G => ∃ (M : Addr) (ys : List V) (es : List PD), σ = [some (.ref a), some (.int (0 + (i : Int))), some (.ref b), some (.ref R), some (.ref y1), some (.ref y2), some (.int (0 + (j : Int))), some (.ref M), some (.int (w0)), x9, x10, x11, x12, x13, x14, x15, x16] ∧ Tm G3 G b M ys es ∧ es.Perm (preL ds), ?_, ?_⟩
        · refine ⟨_, rfl, _, rfl, b, D, xs, rfl, tm.bx, tm.at_, Db, by omega, fun M ys G' kk bx' nM hM hp => ?_⟩
          obtain ⟨es, pe, pp⟩ := paired_perm hp (dc_kept tm.bx kk (fun d hd => (few0 d hd).1.some) tm.ps)
          exact ⟨M, ys, es, rfl, ⟨tm.k.trans kk, bx', hM, pp⟩, pe⟩
        clear tm
        rintro σ G7 ⟨M, ys, es, rfl, tm, pe⟩
        have few : ∀ d ∈ es, d.Ok ∧ d.parts.length ≤ 30 := fun d hd => few0 d (pe.mem_iff.mp hd)
        have nd : (es.map PD.word).Nodup := ((pe.map PD.word).nodup_iff).mpr nd0
        have l100 : es.length ≤ 100 := by
          rw [pe.length_eq, l0]
          omega
        have fewI : ∀ d ∈ inOrd es, d.Ok ∧ d.parts.length ≤ 30 := fun d hd => few d ((inOrd_perm es).mem_iff.mp hd)
        have fewT : ∀ d ∈ turned es, d.Ok ∧ d.parts.length ≤ 30 := fun d hd => few d ((turned_perm es).mem_iff.mp hd)
        have lI := inOrd_len es
        have lT := (turned_perm es).length_eq
        have eT := inOrd_turned nd
        have ly := Paired.length tm.ps
        clear fw nd0 few0 l0 pe l10 lx Db
        have tl1 : ∀ {G : Hp}, Tm G3 G b M ys es → TlAt K CR CT G y1 rs true := fun t => ev.t1.kept ev.bx t.k
        have tl2 : ∀ {G : Hp}, Tm G3 G b M ys es → TlAt K CR CT G y2 rs false := fun t => ev.t2.kept ev.bx t.k
        -- run
        refine ⟨fun σ G => ∃ p1 : Addr, σ = [some (.ref a), some (.int (0 + (i : Int))), some (.ref b), some (.ref R), some (.ref y1), some (.ref y2), some (.int (0 + (j : Int))), some (.ref M), some (.int (w0)), x9, x10, some (.ref p1), x12, x13, x14, x15, x16] ∧ Tm G3 G b M ys es ∧ PP K C CP G p1 (runL rs w0 (inOrd es) none), ?_, ?_⟩
        · refine ⟨_, rfl, _, rfl, _, rfl, M, rfl, ⟨_, SqL.of tm.at_⟩, fun E nE => made_lc tm.at_ tm.ps few l100 nE fun G8 zs s8 hE hz => ?_⟩
          refine ⟨E, zs, es, rfl, .inl hE, hz, l100, fun c G9 s9 nc hc => ?_⟩
          have tm9 := tm.same (s8.trans s9)
          exact ⟨y1, c, w0, rs, true, es, rfl, tl1 tm9, gd, hc, fun c2 G10 s10 n10 hc2 => ⟨c2, rfl, tm9.same s10, hc2⟩⟩
        clear tm
        rintro σ G8 ⟨p1, rfl, tm, h1⟩
        refine ⟨fun σ G => ∃ p2 : Addr, σ = [some (.ref a), some (.int (0 + (i : Int))), some (.ref b), some (.ref R), some (.ref y1), some (.ref y2), some (.int (0 + (j : Int))), some (.ref M), some (.int (w0)), x9, x10, some (.ref p1), some (.ref p2), x13, x14, x15, x16] ∧ Tm G3 G b M ys es ∧ PP K C CP G p1 (runL rs w0 (inOrd es) none) ∧ PP K C CP G p2 (runL rs w0 (inOrd es) none), ?_, ?_⟩
        · refine ⟨_, rfl, _, rfl, _, rfl, M, ys, es, rfl, tm.at_, tm.ps, l100, fun l us G9 s9 nl hl hy => ⟨l, rfl, ⟨_, SqL.of hl⟩, fun E nE => made_lc hl (dc_same s9 hy) fewT (by omega) nE fun G10 zs s10 hE hz => ?_⟩⟩
          refine ⟨E, zs, _, rfl, .inl hE, hz, by omega, fun c G11 s11 nc hc => ?_⟩
          have s91 := (s9.trans s10).trans s11
          have tm9 := tm.same s91
          refine ⟨y1, c, w0, rs, true, _, rfl, tl1 tm9, gd, hc, fun c2 G12 s12 n12 hc2 => ?_⟩
          have e : ordS true (turned es) = inOrd es := eT
          rw [e] at hc2
          exact ⟨c2, rfl, tm9.same s12, h1.same (s91.trans s12), hc2⟩
        clear tm h1
        rintro σ G9 ⟨p2, rfl, tm, h1, h2⟩
        refine ⟨fun σ G => ∃ p3 : Addr, σ = [some (.ref a), some (.int (0 + (i : Int))), some (.ref b), some (.ref R), some (.ref y1), some (.ref y2), some (.int (0 + (j : Int))), some (.ref M), some (.int (w0)), x9, x10, some (.ref p1), some (.ref p2), some (.ref p3), x14, x15, x16] ∧ Tm G3 G b M ys es ∧ PP K C CP G p1 (runL rs w0 (inOrd es) none) ∧ PP K C CP G p2 (runL rs w0 (inOrd es) none) ∧ PP K C CP G p3 (inOrd es), ?_, ?_⟩
        · refine ⟨_, rfl, M, ys, es, rfl, tm.at_, tm.ps, l100, fun l us G10 s10 nl hl hy => ⟨l, rfl, ⟨_, SqL.of hl⟩, fun E nE => made_lc hl (dc_same s10 hy) fewI (by omega) nE fun G11 zs s11 hE hz => ?_⟩⟩
          refine ⟨E, zs, _, rfl, .inl hE, hz, by omega, fun c G12 s12 nc hc => ?_⟩
          have s13 := (s10.trans s11).trans s12
          exact ⟨c, rfl, tm.same s13, h1.same s13, h2.same s13, hc⟩
        clear tm h1 h2
        rintro σ G10 ⟨p3, rfl, tm, h1, h2, h3⟩
        generalize hru : runL rs w0 (inOrd es) none = ru at h1 h2
        have wru : ru.map PD.word = (inOrd es).map PD.word := by
          rw [← hru]
          exact run_words _ _
        have lru : ru.length = es.length := by
          rw [← hru, runL_len, lI]
        refine ⟨fun σ G => σ = [some (.ref a), some (.int (0 + (i : Int))), some (.ref b), some (.ref R), some (.ref y1), some (.ref y2), some (.int (0 + (j : Int))), some (.ref M), some (.int (w0)), x9, x10, some (.ref p1), some (.ref p2), some (.ref p3), x14, x15, x16] ∧ Tm G3 G b M ys es ∧ PP K C CP G p1 ru, ?_, ?_⟩
        · refine ⟨_, rfl, _, rfl, p1, p2, ru, ru, rfl, rfl, h1, h2, fun G11 s11 => ⟨_, rfl, iteN (ne_self _) ?_⟩⟩
          have tm1 := tm.same s11
          refine ⟨_, rfl, _, rfl, _, rfl, y2, p3, w0, rs, false, _, rfl, tl2 tm1, gd, h3.same s11, fun c G12 s12 nc hc => ?_⟩
          have e : runL rs w0 (ordS false (inOrd es)) none = ru := hru
          rw [e] at hc
          exact ⟨_, rfl, c, p1, ru, ru, rfl, rfl, hc, h1.same (s11.trans s12), fun G13 s13 => ⟨_, rfl, iteN (ne_self _) ⟨rfl, tm.same ((s11.trans s12).trans s13), h1.same ((s11.trans s12).trans s13)⟩⟩⟩
        clear tm h1 h2 h3
        rintro σ G11 ⟨rfl, tm, h1⟩
        refine ⟨fun σ G => ∃ W : Addr, σ = [some (.ref a), some (.int (0 + (i : Int))), some (.ref b), some (.ref R), some (.ref y1), some (.ref y2), some (.int (0 + (j : Int))), some (.ref M), some (.int (w0)), x9, x10, some (.ref p1), some (.ref p2), some (.ref p3), some (.ref W), x15, x16] ∧ Tm G3 G b M ys es ∧ G W = some (.lst (((inOrd es).map PD.word).map V.str)), ?_, ?_⟩
        · obtain ⟨tp, us, dp, hp, ht, hus, fewp⟩ := h1
          have lus : us.length = ru.length := hus.1
          refine ⟨_, rfl, p1, CP, dp, _, _, rfl, hp, T.ZP.cl, T.ZP.pieces, rfl, tp, rfl, ⟨us, ht.sqT⟩, fun E nE => lc_tup (K := K) (xs := us) (fun n G' => Same G11 G' ∧ G' E = some (.lst (((ru.take n).map PD.word).map V.str))) ⟨Same.new nE, upd_same⟩ (fun n G' _ z => (ht.same z.1).sqT) ?_ ?_⟩
          · rintro n x G' hx ⟨s', hE⟩
            obtain ⟨d, ed⟩ : ∃ d, ru[n]? = some d := ⟨_, List.getElem?_eq_getElem (by have := (List.getElem?_eq_some_iff.mp hx).1; omega)⟩
            obtain ⟨p, rfl, dx, t, hpp, _⟩ := hus.2.2 n x d hx ed
            have ln := (List.getElem?_eq_some_iff.mp ed).1
            refine ⟨rfl, _, rfl, p, C, dx, _, _, rfl, s' _ _ hpp, T.Z.cl, T.Z.word, rfl, _, hE, ?_, same_put s' nE, ?_⟩
            · rw [List.length_map, List.length_map, List.length_take]
              exact small1000 (by omega)
            · rw [upd_same, List.take_succ, ed, List.map_append, List.map_append]
              rfl
          · rintro G' ⟨s', hE⟩
            rw [lus, List.take_length, wru] at hE
            exact ⟨E, rfl, tm.same s', hE⟩
        clear tm h1
        rintro σ G12 ⟨W, rfl, tm, hW⟩
        refine ⟨_, rfl, M, _, rfl, SqL.of tm.at_, for_it walk_enum (fun n σ G => ∃ x9 x10 x15 : Option V, σ = [some (.ref a), some (.int (0 + (i : Int))), some (.ref b), some (.ref R), some (.ref y1), some (.ref y2), some (.int (0 + (j : Int))), some (.ref M), some (.int (w0)), x9, x10, some (.ref p1), some (.ref p2), some (.ref p3), some (.ref W), x15, x16] ∧ Tm G3 G b M ys es ∧ G W = some (.lst (((inOrd es).map PD.word).map V.str))) ⟨x9, x10, x15, rfl, tm, hW⟩ (fun n σ G _ z => by
          obtain ⟨_, _, _, _, z, _⟩ := z
          exact SqL.of z.at_) ?_ ?_⟩
        · clear tm hW
          rintro n x σ G G' hn ⟨x9, x10, x15, rfl, tm, hW⟩ ⟨Tp, x, y, rfl, nT, rfl, e1, e2⟩
          cases e1
          have sT := Same.new nT (o := .tup [.int (n : Nat), y])
          have tm := tm.same sT
          have hW := sT _ _ hW
          obtain ⟨d, ed, q, lp, rfl, hq⟩ := Paired.nth tm.ps e2
          refine ⟨Tp, _, rfl, SqT.of upd_same, rfl, _, _, rfl, _, _, rfl, rfl, ?_⟩
          generalize upd G Tp _ = G13 at tm hW hq ⊢
          have ln := (List.getElem?_eq_some_iff.mp ed).1
          refine ⟨fun σ G => σ = [some (.ref a), some (.int (0 + (i : Int))), some (.ref b), some (.ref R), some (.ref y1), some (.ref y2), some (.int (0 + (j : Int))), some (.ref M), some (.int (w0)), some (.int ((n : Int))), some (.ref q), some (.ref p1), some (.ref p2), some (.ref p3), some (.ref W), x15, x16] ∧ Tm G3 G b M ys es ∧ DictAt G q lp d ∧ G W = some (.lst (((inOrd es).map PD.word).map V.str)), ?_, ?_⟩
          · refine ⟨_, rfl, q, lp, d, rfl, hq, _, rfl, ?_⟩
            by_cases e : fenceB d = true
            · have at1 : (((inOrd es).map PD.word).map V.str)[n]? = some (.str d.word) := by
                rw [List.getElem?_map, List.getElem?_map, inOrd_fence ed e]
                rfl
              exact iteY (by rw [e]) ⟨_, rfl, _, rfl, W, _, _, _, rfl, rfl, SqL.of hW, atI_nat at1, _, rfl, q, _, rfl, dg_w hq, rfl, _, rfl, iteN (ne_self _) ⟨rfl, tm, hq, hW⟩⟩
            · exact iteN (by rw [Bool.eq_false_iff.mpr e]) ⟨rfl, tm, hq, hW⟩
          clear tm hW hq
          rintro σ G14 ⟨rfl, tm, hq, hW⟩
          refine ⟨fun σ G => ∃ c : Bool, σ = [some (.ref a), some (.int (0 + (i : Int))), some (.ref b), some (.ref R), some (.ref y1), some (.ref y2), some (.int (0 + (j : Int))), some (.ref M), some (.int (w0)), some (.int ((n : Int))), some (.ref q), some (.ref p1), some (.ref p2), some (.ref p3), some (.ref W), some (.bl c), x16] ∧ (c = true → ∃ (m : Nat) (e : PD), n = m + 1 ∧ es[m]? = some e ∧ fenceB e = false ∧ fenceB d = false) ∧ Tm G3 G b M ys es ∧ G W = some (.lst (((inOrd es).map PD.word).map V.str)), ?_, ?_⟩
          · refine ⟨_, rfl, _, _, rfl, rfl, _, rfl, ?_⟩
            cases n with
            | zero => exact iteN rfl ⟨false, rfl, fun z => (nomatch z), tm, hW⟩
            | succ m =>
              refine iteY (decide_eq_true (by omega)) ⟨_, rfl, q, lp, d, rfl, hq, _, rfl, _, rfl, ?_⟩
              by_cases f : fenceB d = true
              · exact iteN (by rw [f]; rfl) ⟨false, rfl, fun z => (nomatch z), tm, hW⟩
              · have f' : fenceB d = false := Bool.eq_false_iff.mpr f
                obtain ⟨y', ey⟩ : ∃ y', ys[m]? = some y' := ⟨_, List.getElem?_eq_getElem (by omega)⟩
                obtain ⟨e', ee, q2, lp2, rfl, hq2⟩ := Paired.nth tm.ps ey
                have ei : (((m + 1 : Nat) : Int) - 1) = (m : Int) := by omega
                refine iteY (by rw [f']; rfl) ⟨_, rfl, _, rfl, _, _, rfl, rfl, M, ys, _, _, rfl, rfl, SqL.of tm.at_, by rw [ei]; exact atI_nat ey, q2, lp2, e', rfl, hq2, _, rfl, ?_⟩
                exact ⟨!fenceB e', rfl, fun z => ⟨m, e', rfl, ee, by simpa using z, f'⟩, tm, hW⟩
          clear tm hW hq
          rintro σ G15 ⟨c, rfl, hc, tm, hW⟩
          refine ⟨_, rfl, c, rfl, ?_⟩
          cases c with
          | false => exact iteN rfl ⟨_, _, _, rfl, tm, hW⟩
          | true =>
            obtain ⟨m, e, rfl, ee, fe, fd⟩ := hc rfl
            obtain ⟨px, py, hx, hy, le⟩ := inOrd_two ee ed fe fd
            have at1 : (((inOrd es).map PD.word).map V.str)[m]? = some (.str px.word) := by
              rw [List.getElem?_map, List.getElem?_map, hx]
              rfl
            have at2 : (((inOrd es).map PD.word).map V.str)[m + 1]? = some (.str py.word) := by
              rw [List.getElem?_map, List.getElem?_map, hy]
              rfl
            have ei : (((m + 1 : Nat) : Int) - 1) = (m : Int) := by omega
            refine iteY rfl ⟨_, rfl, _, rfl, _, _, rfl, rfl, W, _, _, _, rfl, rfl, SqL.of hW, by rw [ei]; exact atI_nat at1, _, rfl, _, rfl, W, _, _, _, rfl, rfl, SqL.of hW, atI_nat at2, .str px.word, .str py.word, .str _, .str _, by simp [PySem.W.alike], (fun z => nomatch z), by simp [PyData.depth], _, rfl, ?_⟩
            exact iteN (leD_word le) ⟨_, _, _, rfl, tm, hW⟩
        · rintro σ G ⟨x9, x10, x15, rfl, tm, hW⟩
          exact ⟨_, _, _, _, _, _, _, _, _, _, _, rfl, ev.kept nb tm.k tm.bx⟩
      · rintro σ G ⟨x6, x7, x8, x9, x10, x11, x12, x13, x14, x15, x16, rfl, ev⟩
        exact ⟨_, _, _, _, _, _, _, _, _, _, _, _, _, _, _, _, rfl, ev.s⟩
    · rintro σ G ⟨x1, x2, x3, x4, x5, x6, x7, x8, x9, x10, x11, x12, x13, x14, x15, x16, rfl, sG⟩
      exact k _
end
end Lay
set_option Elab.async false
set_option linter.all false
set_option maxRecDepth 100000
set_option maxHeartbeats 8000000
namespace Lay
open PySem PySem.Spec PyProof.Rows L2


theorem kit_cls {K : PySem.W.Frag} {C : Addr} {t : Value} {b : Bool} (hd : PySem.W.hasDictIn K C = true) (ty : PySem.W.typeIn K (.ref C) = some (.type "type")) (s : PySem.W.subIn K t (.ref C) = some b) (e : t = .ref C → b = true) : PySem.W.kitOne K t (.ref C) = some b := by
  unfold PySem.W.kitOne
  by_cases h : (t == Value.ref C) = true
  · rw [if_pos h, e (beq_iff_eq.mp h)]
  · rw [if_neg h]
    obtain ⟨cd, hc, _⟩ := PySem.W.any_some hd
    unfold PySem.W.kitCls
    dsimp only
    rw [if_pos (by rw [hc, ty]; rfl)]
    exact s
theorem kit_type {K : PySem.W.Frag} {C : Addr} {n : String} {b : Bool} (hm : PySem.W.kitMeta n = true) (s : PySem.W.subIn K (.ref C) (.type n) = some b) : PySem.W.kitOne K (.ref C) (.type n) = some b := by
  unfold PySem.W.kitOne
  rw [if_neg (fun h => by have q := beq_iff_eq.mp h; cases q)]
  unfold PySem.W.kitCls
  dsimp only
  rw [if_pos hm]
  exact s
theorem np_none {C : Addr} : (PySem.fastBuiltinMro "NoneType").map (·.contains (Value.ref C)) = some false := by
  have e : PySem.fastBuiltinMro "NoneType" = some [.type "NoneType", .type "object"] := by decide +kernel
  rw [e]
  rfl
theorem np_int {C : Addr} : (PySem.fastBuiltinMro "int").map (·.contains (Value.ref C)) = some false := by
  have e : PySem.fastBuiltinMro "int" = some [.type "int", .type "object"] := by decide +kernel
  rw [e]
  rfl
theorem np_bool {C : Addr} : (PySem.fastBuiltinMro "bool").map (·.contains (Value.ref C)) = some false := by
  have e : PySem.fastBuiltinMro "bool" = some [.type "bool", .type "int", .type "object"] := by decide +kernel
  rw [e]
  rfl
theorem np_str {C : Addr} : (PySem.fastBuiltinMro "str").map (·.contains (Value.ref C)) = some false := by
  have e : PySem.fastBuiltinMro "str" = some [.type "str", .type "object"] := by decide +kernel
  rw [e]
  rfl
theorem np_list {C : Addr} : (PySem.fastBuiltinMro "list").map (·.contains (Value.ref C)) = some false := by
  have e : PySem.fastBuiltinMro "list" = some [.type "list", .type "object"] := by decide +kernel
  rw [e]
  rfl
theorem np_tuple {C : Addr} : (PySem.fastBuiltinMro "tuple").map (·.contains (Value.ref C)) = some false := by
  have e : PySem.fastBuiltinMro "tuple" = some [.type "tuple", .type "object"] := by decide +kernel
  rw [e]
  rfl

def dPiece : List V := [.bl false, .bl false, .str "", .str "", .int 0, .bl false]
theorem binds_piece8 {K : PySem.W.Frag} {f : Addr} {fd : FuncData} (F : FunD K "__init__" "Piece.__init__" (defArgs sPieceI) (defBody sPieceI) (defScope sPieceI) dPiece [] f fd) : Binds K fd psPiece [] := by
  obtain ⟨ds, h1, h2⟩ := F.binds1 (ps := psPiece) 9 6 (fun z => nomatch z) rfl fun T kV doc pm an cdv ct us its h1 h2 => match us, its, h1, h2 with
    | [_, _, _, _, _, _, _, _, _], [_, _, _, _, _, _], _, _ => ⟨_, rfl, rfl⟩
  cases h1
  exact h2
theorem binds_prog {K : PySem.W.Frag} {f e : Addr} {fd : FuncData} (F : FunD K "__init__" "Program.__init__" (defArgs sProgI) (defBody sProgI) (defScope sProgI) [.ref e] [] f fd) : Binds K fd ["self", "pieces"] [] := by
  obtain ⟨ds, h1, h2⟩ := F.binds1 (ps := ["self", "pieces"]) 2 1 (fun z => nomatch z) rfl fun T kV doc pm an cdv ct us its h1 h2 => match us, its, h1, h2 with
    | [_, _], [_], _, _ => ⟨_, rfl, rfl⟩
  cases h1
  exact h2
theorem binds_prog0 {K : PySem.W.Frag} {f e : Addr} {fd : FuncData} (F : FunD K "__init__" "Program.__init__" (defArgs sProgI) (defBody sProgI) (defScope sProgI) [.ref e] [] f fd) : ∃ ds, Vals [V.ref e] ds ∧ Binds K fd ["self", "pieces"] ds :=
  F.binds1 (ps := ["self", "pieces"]) 1 0 (fun z => nomatch z) rfl fun T kV doc pm an cdv ct us its h1 h2 => match us, its, h1, h2 with
    | [_], [_], _, _ => ⟨_, rfl, rfl⟩
theorem binds_row {K : PySem.W.Frag} {f e1 e2 : Addr} {fd : FuncData} (F : FunD K "__init__" "Row.__init__" (defArgs sRowI) (defBody sRowI) (defScope sRowI) [.ref e1, .ref e2] [] f fd) : Binds K fd ["self", "tests", "deeds"] [] := by
  obtain ⟨ds, h1, h2⟩ := F.binds1 (ps := ["self", "tests", "deeds"]) 3 2 (fun z => nomatch z) rfl fun T kV doc pm an cdv ct us its h1 h2 => match us, its, h1, h2 with
    | [_, _, _], [_, _], _, _ => ⟨_, rfl, rfl⟩
  cases h1
  exact h2
theorem binds_tool {K : PySem.W.Frag} {f e1 : Addr} {fd : FuncData} (F : FunD K "__init__" "Tool.__init__" (defArgs sToolI) (defBody sToolI) (defScope sToolI) [.ref e1, .bl false] [] f fd) : Binds K fd ["self", "rows", "sorts"] [] := by
  obtain ⟨ds, h1, h2⟩ := F.binds1 (ps := ["self", "rows", "sorts"]) 3 2 (fun z => nomatch z) rfl fun T kV doc pm an cdv ct us its h1 h2 => match us, its, h1, h2 with
    | [_, _, _], [_, _], _, _ => ⟨_, rfl, rfl⟩
  cases h1
  exact h2
theorem binds_tool1 {K : PySem.W.Frag} {f e1 : Addr} {fd : FuncData} (F : FunD K "__init__" "Tool.__init__" (defArgs sToolI) (defBody sToolI) (defScope sToolI) [.ref e1, .bl false] [] f fd) : ∃ ds, Vals [V.bl false] ds ∧ Binds K fd ["self", "rows", "sorts"] ds :=
  F.binds1 (ps := ["self", "rows", "sorts"]) 2 1 (fun z => nomatch z) rfl fun T kV doc pm an cdv ct us its h1 h2 => match us, its, h1, h2 with
    | [_, _], [_, _], _, _ => ⟨_, rfl, rfl⟩

theorem all_mk {l : PySem.W.OpenLaw} {w : World} {K : PySem.W.Frag} {h : Heap} {mg : Str → Option Value} {fa C fPI fBu fEq pB gB eP CP fGI fsP feP flP fgP faP eT eQ eR CR fR CT fT tT tD g_int g_num g_seq g_name g_names g_req g_rem g_head g_tail g_body g_rows g_check g_gap g_shape g_facts g_fp g_bits g_lanes g_shin g_beh g_long g_holds g_done g_dbreak g_djoin g_dmark g_dunmark g_dlift g_dlower g_dspace g_dclose g_row g_rdone g_fence g_key g_ord g_layp g_ahead g_run g_test g_deed g_areT g_areD g_areR g_box g_take g_pick g_mixed g_lname g_lpiece g_made g_ltest g_lrow g_ltool g_lof g_lfence g_lkey g_lsorted g_turned g_law DO : Addr} (X : K.In h) (G : h.Ns mainGlobals mg) (hfa : mg "law" = some (.ref fa))
    {fd_C : FuncData}
    {od_but an_but : Option Addr} {sl_but : Array (Option Value)} {oc_but kV_but dc_but pm_but cd_but ct_but : Value}
    {od_eq an_eq : Option Addr} {sl_eq : Array (Option Value)} {oc_eq kV_eq dc_eq pm_eq cd_eq ct_eq : Value}
    {od_bare an_bare : Option Addr} {sl_bare : Array (Option Value)} {oc_bare kV_bare dc_bare pm_bare cd_bare ct_bare : Value}
    {fd_CP : FuncData}
    {od_sP an_sP : Option Addr} {sl_sP : Array (Option Value)} {oc_sP kV_sP dc_sP pm_sP cd_sP ct_sP : Value}
    {od_eqP an_eqP : Option Addr} {sl_eqP : Array (Option Value)} {oc_eqP kV_eqP dc_eqP pm_eqP cd_eqP ct_eqP : Value}
    {od_lP an_lP : Option Addr} {sl_lP : Array (Option Value)} {oc_lP kV_lP dc_lP pm_lP cd_lP ct_lP : Value}
    {od_gP an_gP : Option Addr} {sl_gP : Array (Option Value)} {oc_gP kV_gP dc_gP pm_gP cd_gP ct_gP : Value}
    {od_aP an_aP : Option Addr} {sl_aP : Array (Option Value)} {oc_aP kV_aP dc_aP pm_aP cd_aP ct_aP : Value}
    {fd_CR : FuncData}
    {fd_CT : FuncData}
    {od_int an_int : Option Addr} {sl_int : Array (Option Value)} {oc_int kV_int dc_int pm_int cd_int ct_int : Value}
    {od_num an_num : Option Addr} {sl_num : Array (Option Value)} {oc_num kV_num dc_num pm_num cd_num ct_num : Value}
    {od_seq an_seq : Option Addr} {sl_seq : Array (Option Value)} {oc_seq kV_seq dc_seq pm_seq cd_seq ct_seq : Value}
    {od_name an_name : Option Addr} {sl_name : Array (Option Value)} {oc_name kV_name dc_name pm_name cd_name ct_name : Value}
    {od_names an_names : Option Addr} {sl_names : Array (Option Value)} {oc_names kV_names dc_names pm_names cd_names ct_names : Value}
    {od_req an_req : Option Addr} {sl_req : Array (Option Value)} {oc_req kV_req dc_req pm_req cd_req ct_req : Value}
    {od_rem an_rem : Option Addr} {sl_rem : Array (Option Value)} {oc_rem kV_rem dc_rem pm_rem cd_rem ct_rem : Value}
    {od_head an_head : Option Addr} {sl_head : Array (Option Value)} {oc_head kV_head dc_head pm_head cd_head ct_head : Value}
    {od_tail an_tail : Option Addr} {sl_tail : Array (Option Value)} {oc_tail kV_tail dc_tail pm_tail cd_tail ct_tail : Value}
    {od_body an_body : Option Addr} {sl_body : Array (Option Value)} {oc_body kV_body dc_body pm_body cd_body ct_body : Value}
    {od_rows an_rows : Option Addr} {sl_rows : Array (Option Value)} {oc_rows kV_rows dc_rows pm_rows cd_rows ct_rows : Value}
    {od_check an_check : Option Addr} {sl_check : Array (Option Value)} {oc_check kV_check dc_check pm_check cd_check ct_check : Value}
    {od_gap an_gap : Option Addr} {sl_gap : Array (Option Value)} {oc_gap kV_gap dc_gap pm_gap cd_gap ct_gap : Value}
    {od_shape an_shape : Option Addr} {sl_shape : Array (Option Value)} {oc_shape kV_shape dc_shape pm_shape cd_shape ct_shape : Value}
    {od_facts an_facts : Option Addr} {sl_facts : Array (Option Value)} {oc_facts kV_facts dc_facts pm_facts cd_facts ct_facts : Value}
    {od_fp an_fp : Option Addr} {sl_fp : Array (Option Value)} {oc_fp kV_fp dc_fp pm_fp cd_fp ct_fp : Value}
    {od_bits an_bits : Option Addr} {sl_bits : Array (Option Value)} {oc_bits kV_bits dc_bits pm_bits cd_bits ct_bits : Value}
    {od_lanes an_lanes : Option Addr} {sl_lanes : Array (Option Value)} {oc_lanes kV_lanes dc_lanes pm_lanes cd_lanes ct_lanes : Value}
    {od_shin an_shin : Option Addr} {sl_shin : Array (Option Value)} {oc_shin kV_shin dc_shin pm_shin cd_shin ct_shin : Value}
    {od_beh an_beh : Option Addr} {sl_beh : Array (Option Value)} {oc_beh kV_beh dc_beh pm_beh cd_beh ct_beh : Value}
    {od_long an_long : Option Addr} {sl_long : Array (Option Value)} {oc_long kV_long dc_long pm_long cd_long ct_long : Value}
    {od_holds an_holds : Option Addr} {sl_holds : Array (Option Value)} {oc_holds kV_holds dc_holds pm_holds cd_holds ct_holds : Value}
    {od_done an_done : Option Addr} {sl_done : Array (Option Value)} {oc_done kV_done dc_done pm_done cd_done ct_done : Value}
    {od_dbreak an_dbreak : Option Addr} {sl_dbreak : Array (Option Value)} {oc_dbreak kV_dbreak dc_dbreak pm_dbreak cd_dbreak ct_dbreak : Value}
    {od_djoin an_djoin : Option Addr} {sl_djoin : Array (Option Value)} {oc_djoin kV_djoin dc_djoin pm_djoin cd_djoin ct_djoin : Value}
    {od_dmark an_dmark : Option Addr} {sl_dmark : Array (Option Value)} {oc_dmark kV_dmark dc_dmark pm_dmark cd_dmark ct_dmark : Value}
    {od_dunmark an_dunmark : Option Addr} {sl_dunmark : Array (Option Value)} {oc_dunmark kV_dunmark dc_dunmark pm_dunmark cd_dunmark ct_dunmark : Value}
    {od_dlift an_dlift : Option Addr} {sl_dlift : Array (Option Value)} {oc_dlift kV_dlift dc_dlift pm_dlift cd_dlift ct_dlift : Value}
    {od_dlower an_dlower : Option Addr} {sl_dlower : Array (Option Value)} {oc_dlower kV_dlower dc_dlower pm_dlower cd_dlower ct_dlower : Value}
    {od_dspace an_dspace : Option Addr} {sl_dspace : Array (Option Value)} {oc_dspace kV_dspace dc_dspace pm_dspace cd_dspace ct_dspace : Value}
    {od_dclose an_dclose : Option Addr} {sl_dclose : Array (Option Value)} {oc_dclose kV_dclose dc_dclose pm_dclose cd_dclose ct_dclose : Value}
    {od_row an_row : Option Addr} {sl_row : Array (Option Value)} {oc_row kV_row dc_row pm_row cd_row ct_row : Value}
    {od_rdone an_rdone : Option Addr} {sl_rdone : Array (Option Value)} {oc_rdone kV_rdone dc_rdone pm_rdone cd_rdone ct_rdone : Value}
    {od_fence an_fence : Option Addr} {sl_fence : Array (Option Value)} {oc_fence kV_fence dc_fence pm_fence cd_fence ct_fence : Value}
    {od_key an_key : Option Addr} {sl_key : Array (Option Value)} {oc_key kV_key dc_key pm_key cd_key ct_key : Value}
    {od_ord an_ord : Option Addr} {sl_ord : Array (Option Value)} {oc_ord kV_ord dc_ord pm_ord cd_ord ct_ord : Value}
    {od_layp an_layp : Option Addr} {sl_layp : Array (Option Value)} {oc_layp kV_layp dc_layp pm_layp cd_layp ct_layp : Value}
    {od_ahead an_ahead : Option Addr} {sl_ahead : Array (Option Value)} {oc_ahead kV_ahead dc_ahead pm_ahead cd_ahead ct_ahead : Value}
    {od_run an_run : Option Addr} {sl_run : Array (Option Value)} {oc_run kV_run dc_run pm_run cd_run ct_run : Value}
    {od_test an_test : Option Addr} {sl_test : Array (Option Value)} {oc_test kV_test dc_test pm_test cd_test ct_test : Value}
    {od_deed an_deed : Option Addr} {sl_deed : Array (Option Value)} {oc_deed kV_deed dc_deed pm_deed cd_deed ct_deed : Value}
    {od_areT an_areT : Option Addr} {sl_areT : Array (Option Value)} {oc_areT kV_areT dc_areT pm_areT cd_areT ct_areT : Value}
    {od_areD an_areD : Option Addr} {sl_areD : Array (Option Value)} {oc_areD kV_areD dc_areD pm_areD cd_areD ct_areD : Value}
    {od_areR an_areR : Option Addr} {sl_areR : Array (Option Value)} {oc_areR kV_areR dc_areR pm_areR cd_areR ct_areR : Value}
    {od_box an_box : Option Addr} {sl_box : Array (Option Value)} {oc_box kV_box dc_box pm_box cd_box ct_box : Value}
    {od_take an_take : Option Addr} {sl_take : Array (Option Value)} {oc_take kV_take dc_take pm_take cd_take ct_take : Value}
    {od_pick an_pick : Option Addr} {sl_pick : Array (Option Value)} {oc_pick kV_pick dc_pick pm_pick cd_pick ct_pick : Value}
    {od_mixed an_mixed : Option Addr} {sl_mixed : Array (Option Value)} {oc_mixed kV_mixed dc_mixed pm_mixed cd_mixed ct_mixed : Value}
    {od_lname an_lname : Option Addr} {sl_lname : Array (Option Value)} {oc_lname kV_lname dc_lname pm_lname cd_lname ct_lname : Value}
    {od_lpiece an_lpiece : Option Addr} {sl_lpiece : Array (Option Value)} {oc_lpiece kV_lpiece dc_lpiece pm_lpiece cd_lpiece ct_lpiece : Value}
    {od_made an_made : Option Addr} {sl_made : Array (Option Value)} {oc_made kV_made dc_made pm_made cd_made ct_made : Value}
    {od_ltest an_ltest : Option Addr} {sl_ltest : Array (Option Value)} {oc_ltest kV_ltest dc_ltest pm_ltest cd_ltest ct_ltest : Value}
    {od_lrow an_lrow : Option Addr} {sl_lrow : Array (Option Value)} {oc_lrow kV_lrow dc_lrow pm_lrow cd_lrow ct_lrow : Value}
    {od_ltool an_ltool : Option Addr} {sl_ltool : Array (Option Value)} {oc_ltool kV_ltool dc_ltool pm_ltool cd_ltool ct_ltool : Value}
    {od_lof an_lof : Option Addr} {sl_lof : Array (Option Value)} {oc_lof kV_lof dc_lof pm_lof cd_lof ct_lof : Value}
    {od_lfence an_lfence : Option Addr} {sl_lfence : Array (Option Value)} {oc_lfence kV_lfence dc_lfence pm_lfence cd_lfence ct_lfence : Value}
    {od_lkey an_lkey : Option Addr} {sl_lkey : Array (Option Value)} {oc_lkey kV_lkey dc_lkey pm_lkey cd_lkey ct_lkey : Value}
    {od_lsorted an_lsorted : Option Addr} {sl_lsorted : Array (Option Value)} {oc_lsorted kV_lsorted dc_lsorted pm_lsorted cd_lsorted ct_lsorted : Value}
    {od_turned an_turned : Option Addr} {sl_turned : Array (Option Value)} {oc_turned kV_turned dc_turned pm_turned cd_turned ct_turned : Value}
    {od_law an_law : Option Addr} {sl_law : Array (Option Value)} {oc_law kV_law dc_law pm_law cd_law ct_law : Value}
    {esDO : Array DictEntry} {nDO : Nat}
    (hn : PySem.W.specialIn K (.builtin "object.__class__") "__get__" = some (some (.builtin "getset_descriptor.__get__")))
    (ht : PySem.W.takesIn K (.builtin "object.__class__") = some true)
    (aC : PySem.W.nsIn K mainGlobals "Piece" = some (some (.ref C)))
    (clC : Cls K C)
    (caC : PySem.W.findIn K (.ref C) "__class__" = some (some (.builtin "object.__class__")))
    (moC : PySem.W.mroIn K C (.type "object") = some true)
    (noC_word : PySem.W.findIn K (.ref C) "word" = some none)
    (noC_parts : PySem.W.findIn K (.ref C) "parts" = some none)
    (noC_broken : PySem.W.findIn K (.ref C) "broken" = some none)
    (noC_marked : PySem.W.findIn K (.ref C) "marked" = some none)
    (noC_ahead : PySem.W.findIn K (.ref C) "ahead" = some none)
    (noC_behind : PySem.W.findIn K (.ref C) "behind" = some none)
    (noC_blanks : PySem.W.findIn K (.ref C) "blanks" = some none)
    (noC_left : PySem.W.findIn K (.ref C) "left" = some none)
    (mkC : Mk K C fPI)
    (FC : FunD K "__init__" "Piece.__init__" (defArgs sPieceI) (defBody sPieceI) (defScope sPieceI) [.bl false, .bl false, .str "", .str "", .int 0, .bl false] [] fPI fd_C)
    (s_but : PySem.W.findIn K (.ref C) "but" = some (some (.ref fBu)))
    (f_but : PySem.W.isFn K (.ref fBu) = true)
    (l_but : K.lookup fBu = some ⟨oc_but, od_but, .func (PySem.W.fnOf "but" "Piece.but" (defArgs sBut) (defBody sBut) (defScope sBut) .none kV_but dc_but pm_but an_but cd_but ct_but), sl_but⟩)
    (c_but : PySem.W.codeIn K cd_but "Piece.but" = true)
    (k_but : PySem.W.keepIn K (.ref fBu) = true)
    (s_eq : PySem.W.findIn K (.ref C) "__eq__" = some (some (.ref fEq)))
    (f_eq : PySem.W.isFn K (.ref fEq) = true)
    (l_eq : K.lookup fEq = some ⟨oc_eq, od_eq, .func (PySem.W.fnOf "__eq__" "Piece.__eq__" (defArgs sEqPc) (defBody sEqPc) (defScope sEqPc) .none kV_eq dc_eq pm_eq an_eq cd_eq ct_eq), sl_eq⟩)
    (c_eq : PySem.W.codeIn K cd_eq "Piece.__eq__" = true)
    (k_eq : PySem.W.keepIn K (.ref fEq) = true)
    (neC : PySem.W.findIn K (.ref C) "__ne__" = some (some (.builtin "object.__ne__")))
    (p_bare : PropOf K C "bare" pB gB)
    (l_bare : K.lookup gB = some ⟨oc_bare, od_bare, .func (PySem.W.fnOf "bare" "Piece.bare" (defArgs sBare) (defBody sBare) (defScope sBare) .none kV_bare dc_bare pm_bare an_bare cd_bare ct_bare), sl_bare⟩)
    (c_bare : PySem.W.codeIn K cd_bare "Piece.bare" = true)
    (k_bare : PySem.W.keepIn K (.ref gB) = true)
    (aCP : PySem.W.nsIn K mainGlobals "Program" = some (some (.ref CP)))
    (clCP : Cls K CP)
    (caCP : PySem.W.findIn K (.ref CP) "__class__" = some (some (.builtin "object.__class__")))
    (moCP : PySem.W.mroIn K CP (.type "object") = some true)
    (noCP_pieces : PySem.W.findIn K (.ref CP) "pieces" = some none)
    (mkCP : Mk K CP fGI)
    (FCP : FunD K "__init__" "Program.__init__" (defArgs sProgI) (defBody sProgI) (defScope sProgI) [.ref eP] [] fGI fd_CP)
    (em_eP : ∀ H : Hp, TupG K H eP [])
    (s_sP : PySem.W.findIn K (.ref CP) "__str__" = some (some (.ref fsP)))
    (f_sP : PySem.W.isFn K (.ref fsP) = true)
    (l_sP : K.lookup fsP = some ⟨oc_sP, od_sP, .func (PySem.W.fnOf "__str__" "Program.__str__" (defArgs sStrP) (defBody sStrP) (defScope sStrP) .none kV_sP dc_sP pm_sP an_sP cd_sP ct_sP), sl_sP⟩)
    (c_sP : PySem.W.codeIn K cd_sP "Program.__str__" = true)
    (k_sP : PySem.W.keepIn K (.ref fsP) = true)
    (s_eqP : PySem.W.findIn K (.ref CP) "__eq__" = some (some (.ref feP)))
    (f_eqP : PySem.W.isFn K (.ref feP) = true)
    (l_eqP : K.lookup feP = some ⟨oc_eqP, od_eqP, .func (PySem.W.fnOf "__eq__" "Program.__eq__" (defArgs sEqP) (defBody sEqP) (defScope sEqP) .none kV_eqP dc_eqP pm_eqP an_eqP cd_eqP ct_eqP), sl_eqP⟩)
    (c_eqP : PySem.W.codeIn K cd_eqP "Program.__eq__" = true)
    (k_eqP : PySem.W.keepIn K (.ref feP) = true)
    (s_lP : PySem.W.findIn K (.ref CP) "__len__" = some (some (.ref flP)))
    (f_lP : PySem.W.isFn K (.ref flP) = true)
    (l_lP : K.lookup flP = some ⟨oc_lP, od_lP, .func (PySem.W.fnOf "__len__" "Program.__len__" (defArgs sLenP) (defBody sLenP) (defScope sLenP) .none kV_lP dc_lP pm_lP an_lP cd_lP ct_lP), sl_lP⟩)
    (c_lP : PySem.W.codeIn K cd_lP "Program.__len__" = true)
    (k_lP : PySem.W.keepIn K (.ref flP) = true)
    (s_gP : PySem.W.findIn K (.ref CP) "__getitem__" = some (some (.ref fgP)))
    (f_gP : PySem.W.isFn K (.ref fgP) = true)
    (l_gP : K.lookup fgP = some ⟨oc_gP, od_gP, .func (PySem.W.fnOf "__getitem__" "Program.__getitem__" (defArgs sGetP) (defBody sGetP) (defScope sGetP) .none kV_gP dc_gP pm_gP an_gP cd_gP ct_gP), sl_gP⟩)
    (c_gP : PySem.W.codeIn K cd_gP "Program.__getitem__" = true)
    (k_gP : PySem.W.keepIn K (.ref fgP) = true)
    (s_aP : PySem.W.findIn K (.ref CP) "__add__" = some (some (.ref faP)))
    (f_aP : PySem.W.isFn K (.ref faP) = true)
    (l_aP : K.lookup faP = some ⟨oc_aP, od_aP, .func (PySem.W.fnOf "__add__" "Program.__add__" (defArgs sAddP) (defBody sAddP) (defScope sAddP) .none kV_aP dc_aP pm_aP an_aP cd_aP ct_aP), sl_aP⟩)
    (c_aP : PySem.W.codeIn K cd_aP "Program.__add__" = true)
    (k_aP : PySem.W.keepIn K (.ref faP) = true)
    (fiP : PySem.W.fnIn K fgP = true)
    (sfP : PySem.W.selfFirst K CP = true)
    (neP : PySem.W.findIn K (.ref CP) "__ne__" = some (some (.builtin "object.__ne__")))
    (aCR : PySem.W.nsIn K mainGlobals "Row" = some (some (.ref CR)))
    (clCR : Cls K CR)
    (caCR : PySem.W.findIn K (.ref CR) "__class__" = some (some (.builtin "object.__class__")))
    (moCR : PySem.W.mroIn K CR (.type "object") = some true)
    (noCR_tests : PySem.W.findIn K (.ref CR) "tests" = some none)
    (noCR_deeds : PySem.W.findIn K (.ref CR) "deeds" = some none)
    (mkCR : Mk K CR fR)
    (FCR : FunD K "__init__" "Row.__init__" (defArgs sRowI) (defBody sRowI) (defScope sRowI) [.ref eT, .ref eQ] [] fR fd_CR)
    (aCT : PySem.W.nsIn K mainGlobals "Tool" = some (some (.ref CT)))
    (clCT : Cls K CT)
    (caCT : PySem.W.findIn K (.ref CT) "__class__" = some (some (.builtin "object.__class__")))
    (moCT : PySem.W.mroIn K CT (.type "object") = some true)
    (noCT_rows : PySem.W.findIn K (.ref CT) "rows" = some none)
    (noCT_sorts : PySem.W.findIn K (.ref CT) "sorts" = some none)
    (mkCT : Mk K CT fT)
    (FCT : FunD K "__init__" "Tool.__init__" (defArgs sToolI) (defBody sToolI) (defScope sToolI) [.ref eR, .bl false] [] fT fd_CT)
    (a_tT : PySem.W.nsIn K mainGlobals "TESTS" = some (some (.ref tT)))
    (h_tT : ∀ H : Hp, SqT K H tT (testL.map V.str))
    (a_tD : PySem.W.nsIn K mainGlobals "DEEDS" = some (some (.ref tD)))
    (h_tD : ∀ H : Hp, SqT K H tD (deedL.map V.str))
    (aSL : ∃ t, mg "SIGN_LENGTH" = some (.int 4 t))
    (a_int : PySem.W.nsIn K mainGlobals "is_integer" = some (some (.ref g_int)))
    (l_int : K.lookup g_int = some ⟨oc_int, od_int, .func (PySem.W.fnOf "is_integer" "is_integer" (defArgs sInt) (defBody sInt) (defScope sInt) .none kV_int dc_int pm_int an_int cd_int ct_int), sl_int⟩)
    (c_int : PySem.W.codeIn K cd_int "is_integer" = true)
    (k_int : PySem.W.keepIn K (.ref g_int) = true)
    (a_num : PySem.W.nsIn K mainGlobals "is_number" = some (some (.ref g_num)))
    (l_num : K.lookup g_num = some ⟨oc_num, od_num, .func (PySem.W.fnOf "is_number" "is_number" (defArgs sNum) (defBody sNum) (defScope sNum) .none kV_num dc_num pm_num an_num cd_num ct_num), sl_num⟩)
    (c_num : PySem.W.codeIn K cd_num "is_number" = true)
    (k_num : PySem.W.keepIn K (.ref g_num) = true)
    (a_seq : PySem.W.nsIn K mainGlobals "is_sequence" = some (some (.ref g_seq)))
    (l_seq : K.lookup g_seq = some ⟨oc_seq, od_seq, .func (PySem.W.fnOf "is_sequence" "is_sequence" (defArgs sSeq) (defBody sSeq) (defScope sSeq) .none kV_seq dc_seq pm_seq an_seq cd_seq ct_seq), sl_seq⟩)
    (c_seq : PySem.W.codeIn K cd_seq "is_sequence" = true)
    (k_seq : PySem.W.keepIn K (.ref g_seq) = true)
    (a_name : PySem.W.nsIn K mainGlobals "is_name" = some (some (.ref g_name)))
    (l_name : K.lookup g_name = some ⟨oc_name, od_name, .func (PySem.W.fnOf "is_name" "is_name" (defArgs sName) (defBody sName) (defScope sName) .none kV_name dc_name pm_name an_name cd_name ct_name), sl_name⟩)
    (c_name : PySem.W.codeIn K cd_name "is_name" = true)
    (k_name : PySem.W.keepIn K (.ref g_name) = true)
    (a_names : PySem.W.nsIn K mainGlobals "are_names" = some (some (.ref g_names)))
    (l_names : K.lookup g_names = some ⟨oc_names, od_names, .func (PySem.W.fnOf "are_names" "are_names" (defArgs sNames) (defBody sNames) (defScope sNames) .none kV_names dc_names pm_names an_names cd_names ct_names), sl_names⟩)
    (c_names : PySem.W.codeIn K cd_names "are_names" = true)
    (k_names : PySem.W.keepIn K (.ref g_names) = true)
    (a_req : PySem.W.nsIn K mainGlobals "require" = some (some (.ref g_req)))
    (l_req : K.lookup g_req = some ⟨oc_req, od_req, .func (PySem.W.fnOf "require" "require" (defArgs sReq) (defBody sReq) (defScope sReq) .none kV_req dc_req pm_req an_req cd_req ct_req), sl_req⟩)
    (c_req : PySem.W.codeIn K cd_req "require" = true)
    (k_req : PySem.W.keepIn K (.ref g_req) = true)
    (a_rem : PySem.W.nsIn K mainGlobals "is_remark" = some (some (.ref g_rem)))
    (l_rem : K.lookup g_rem = some ⟨oc_rem, od_rem, .func (PySem.W.fnOf "is_remark" "is_remark" (defArgs sRem) (defBody sRem) (defScope sRem) .none kV_rem dc_rem pm_rem an_rem cd_rem ct_rem), sl_rem⟩)
    (c_rem : PySem.W.codeIn K cd_rem "is_remark" = true)
    (k_rem : PySem.W.keepIn K (.ref g_rem) = true)
    (a_head : PySem.W.nsIn K mainGlobals "head_of" = some (some (.ref g_head)))
    (l_head : K.lookup g_head = some ⟨oc_head, od_head, .func (PySem.W.fnOf "head_of" "head_of" (defArgs sHead) (defBody sHead) (defScope sHead) .none kV_head dc_head pm_head an_head cd_head ct_head), sl_head⟩)
    (c_head : PySem.W.codeIn K cd_head "head_of" = true)
    (k_head : PySem.W.keepIn K (.ref g_head) = true)
    (a_tail : PySem.W.nsIn K mainGlobals "tail_of" = some (some (.ref g_tail)))
    (l_tail : K.lookup g_tail = some ⟨oc_tail, od_tail, .func (PySem.W.fnOf "tail_of" "tail_of" (defArgs sTail) (defBody sTail) (defScope sTail) .none kV_tail dc_tail pm_tail an_tail cd_tail ct_tail), sl_tail⟩)
    (c_tail : PySem.W.codeIn K cd_tail "tail_of" = true)
    (k_tail : PySem.W.keepIn K (.ref g_tail) = true)
    (a_body : PySem.W.nsIn K mainGlobals "body_rows" = some (some (.ref g_body)))
    (l_body : K.lookup g_body = some ⟨oc_body, od_body, .func (PySem.W.fnOf "body_rows" "body_rows" (defArgs sBody) (defBody sBody) (defScope sBody) .none kV_body dc_body pm_body an_body cd_body ct_body), sl_body⟩)
    (c_body : PySem.W.codeIn K cd_body "body_rows" = true)
    (k_body : PySem.W.keepIn K (.ref g_body) = true)
    (a_rows : PySem.W.nsIn K mainGlobals "rows_of" = some (some (.ref g_rows)))
    (l_rows : K.lookup g_rows = some ⟨oc_rows, od_rows, .func (PySem.W.fnOf "rows_of" "rows_of" (defArgs sRowsOf) (defBody sRowsOf) (defScope sRowsOf) .none kV_rows dc_rows pm_rows an_rows cd_rows ct_rows), sl_rows⟩)
    (c_rows : PySem.W.codeIn K cd_rows "rows_of" = true)
    (k_rows : PySem.W.keepIn K (.ref g_rows) = true)
    (a_check : PySem.W.nsIn K mainGlobals "check_pieces" = some (some (.ref g_check)))
    (l_check : K.lookup g_check = some ⟨oc_check, od_check, .func (PySem.W.fnOf "check_pieces" "check_pieces" (defArgs sCheck) (defBody sCheck) (defScope sCheck) .none kV_check dc_check pm_check an_check cd_check ct_check), sl_check⟩)
    (c_check : PySem.W.codeIn K cd_check "check_pieces" = true)
    (k_check : PySem.W.keepIn K (.ref g_check) = true)
    (a_gap : PySem.W.nsIn K mainGlobals "gap_of" = some (some (.ref g_gap)))
    (l_gap : K.lookup g_gap = some ⟨oc_gap, od_gap, .func (PySem.W.fnOf "gap_of" "gap_of" (defArgs sGap) (defBody sGap) (defScope sGap) .none kV_gap dc_gap pm_gap an_gap cd_gap ct_gap), sl_gap⟩)
    (c_gap : PySem.W.codeIn K cd_gap "gap_of" = true)
    (k_gap : PySem.W.keepIn K (.ref g_gap) = true)
    (a_shape : PySem.W.nsIn K mainGlobals "shape_of" = some (some (.ref g_shape)))
    (l_shape : K.lookup g_shape = some ⟨oc_shape, od_shape, .func (PySem.W.fnOf "shape_of" "shape_of" (defArgs sShape) (defBody sShape) (defScope sShape) .none kV_shape dc_shape pm_shape an_shape cd_shape ct_shape), sl_shape⟩)
    (c_shape : PySem.W.codeIn K cd_shape "shape_of" = true)
    (k_shape : PySem.W.keepIn K (.ref g_shape) = true)
    (a_facts : PySem.W.nsIn K mainGlobals "facts_of" = some (some (.ref g_facts)))
    (l_facts : K.lookup g_facts = some ⟨oc_facts, od_facts, .func (PySem.W.fnOf "facts_of" "facts_of" (defArgs sFacts) (defBody sFacts) (defScope sFacts) .none kV_facts dc_facts pm_facts an_facts cd_facts ct_facts), sl_facts⟩)
    (c_facts : PySem.W.codeIn K cd_facts "facts_of" = true)
    (k_facts : PySem.W.keepIn K (.ref g_facts) = true)
    (a_fp : PySem.W.nsIn K mainGlobals "facts_of_piece" = some (some (.ref g_fp)))
    (l_fp : K.lookup g_fp = some ⟨oc_fp, od_fp, .func (PySem.W.fnOf "facts_of_piece" "facts_of_piece" (defArgs sFP) (defBody sFP) (defScope sFP) .none kV_fp dc_fp pm_fp an_fp cd_fp ct_fp), sl_fp⟩)
    (c_fp : PySem.W.codeIn K cd_fp "facts_of_piece" = true)
    (k_fp : PySem.W.keepIn K (.ref g_fp) = true)
    (a_bits : PySem.W.nsIn K mainGlobals "bits_of" = some (some (.ref g_bits)))
    (l_bits : K.lookup g_bits = some ⟨oc_bits, od_bits, .func (PySem.W.fnOf "bits_of" "bits_of" (defArgs sBits) (defBody sBits) (defScope sBits) .none kV_bits dc_bits pm_bits an_bits cd_bits ct_bits), sl_bits⟩)
    (c_bits : PySem.W.codeIn K cd_bits "bits_of" = true)
    (k_bits : PySem.W.keepIn K (.ref g_bits) = true)
    (a_lanes : PySem.W.nsIn K mainGlobals "lanes_of" = some (some (.ref g_lanes)))
    (l_lanes : K.lookup g_lanes = some ⟨oc_lanes, od_lanes, .func (PySem.W.fnOf "lanes_of" "lanes_of" (defArgs sLanes) (defBody sLanes) (defScope sLanes) .none kV_lanes dc_lanes pm_lanes an_lanes cd_lanes ct_lanes), sl_lanes⟩)
    (c_lanes : PySem.W.codeIn K cd_lanes "lanes_of" = true)
    (k_lanes : PySem.W.keepIn K (.ref g_lanes) = true)
    (a_shin : PySem.W.nsIn K mainGlobals "shape_in" = some (some (.ref g_shin)))
    (l_shin : K.lookup g_shin = some ⟨oc_shin, od_shin, .func (PySem.W.fnOf "shape_in" "shape_in" (defArgs sShapeIn) (defBody sShapeIn) (defScope sShapeIn) .none kV_shin dc_shin pm_shin an_shin cd_shin ct_shin), sl_shin⟩)
    (c_shin : PySem.W.codeIn K cd_shin "shape_in" = true)
    (k_shin : PySem.W.keepIn K (.ref g_shin) = true)
    (a_beh : PySem.W.nsIn K mainGlobals "put_behind" = some (some (.ref g_beh)))
    (l_beh : K.lookup g_beh = some ⟨oc_beh, od_beh, .func (PySem.W.fnOf "put_behind" "put_behind" (defArgs sBeh) (defBody sBeh) (defScope sBeh) .none kV_beh dc_beh pm_beh an_beh cd_beh ct_beh), sl_beh⟩)
    (c_beh : PySem.W.codeIn K cd_beh "put_behind" = true)
    (k_beh : PySem.W.keepIn K (.ref g_beh) = true)
    (a_long : PySem.W.nsIn K mainGlobals "where_long" = some (some (.ref g_long)))
    (l_long : K.lookup g_long = some ⟨oc_long, od_long, .func (PySem.W.fnOf "where_long" "where_long" (defArgs sLong) (defBody sLong) (defScope sLong) .none kV_long dc_long pm_long an_long cd_long ct_long), sl_long⟩)
    (c_long : PySem.W.codeIn K cd_long "where_long" = true)
    (k_long : PySem.W.keepIn K (.ref g_long) = true)
    (a_holds : PySem.W.nsIn K mainGlobals "where_holds" = some (some (.ref g_holds)))
    (l_holds : K.lookup g_holds = some ⟨oc_holds, od_holds, .func (PySem.W.fnOf "where_holds" "where_holds" (defArgs sHolds) (defBody sHolds) (defScope sHolds) .none kV_holds dc_holds pm_holds an_holds cd_holds ct_holds), sl_holds⟩)
    (c_holds : PySem.W.codeIn K cd_holds "where_holds" = true)
    (k_holds : PySem.W.keepIn K (.ref g_holds) = true)
    (a_done : PySem.W.nsIn K mainGlobals "where_done" = some (some (.ref g_done)))
    (l_done : K.lookup g_done = some ⟨oc_done, od_done, .func (PySem.W.fnOf "where_done" "where_done" (defArgs sDone) (defBody sDone) (defScope sDone) .none kV_done dc_done pm_done an_done cd_done ct_done), sl_done⟩)
    (c_done : PySem.W.codeIn K cd_done "where_done" = true)
    (k_done : PySem.W.keepIn K (.ref g_done) = true)
    (a_dbreak : PySem.W.nsIn K mainGlobals "do_break" = some (some (.ref g_dbreak)))
    (l_dbreak : K.lookup g_dbreak = some ⟨oc_dbreak, od_dbreak, .func (PySem.W.fnOf "do_break" "do_break" (defArgs sBreak) (defBody sBreak) (defScope sBreak) .none kV_dbreak dc_dbreak pm_dbreak an_dbreak cd_dbreak ct_dbreak), sl_dbreak⟩)
    (c_dbreak : PySem.W.codeIn K cd_dbreak "do_break" = true)
    (k_dbreak : PySem.W.keepIn K (.ref g_dbreak) = true)
    (a_djoin : PySem.W.nsIn K mainGlobals "do_join" = some (some (.ref g_djoin)))
    (l_djoin : K.lookup g_djoin = some ⟨oc_djoin, od_djoin, .func (PySem.W.fnOf "do_join" "do_join" (defArgs sJoin) (defBody sJoin) (defScope sJoin) .none kV_djoin dc_djoin pm_djoin an_djoin cd_djoin ct_djoin), sl_djoin⟩)
    (c_djoin : PySem.W.codeIn K cd_djoin "do_join" = true)
    (k_djoin : PySem.W.keepIn K (.ref g_djoin) = true)
    (a_dmark : PySem.W.nsIn K mainGlobals "do_mark" = some (some (.ref g_dmark)))
    (l_dmark : K.lookup g_dmark = some ⟨oc_dmark, od_dmark, .func (PySem.W.fnOf "do_mark" "do_mark" (defArgs sMark) (defBody sMark) (defScope sMark) .none kV_dmark dc_dmark pm_dmark an_dmark cd_dmark ct_dmark), sl_dmark⟩)
    (c_dmark : PySem.W.codeIn K cd_dmark "do_mark" = true)
    (k_dmark : PySem.W.keepIn K (.ref g_dmark) = true)
    (a_dunmark : PySem.W.nsIn K mainGlobals "do_unmark" = some (some (.ref g_dunmark)))
    (l_dunmark : K.lookup g_dunmark = some ⟨oc_dunmark, od_dunmark, .func (PySem.W.fnOf "do_unmark" "do_unmark" (defArgs sUnmark) (defBody sUnmark) (defScope sUnmark) .none kV_dunmark dc_dunmark pm_dunmark an_dunmark cd_dunmark ct_dunmark), sl_dunmark⟩)
    (c_dunmark : PySem.W.codeIn K cd_dunmark "do_unmark" = true)
    (k_dunmark : PySem.W.keepIn K (.ref g_dunmark) = true)
    (a_dlift : PySem.W.nsIn K mainGlobals "do_lift" = some (some (.ref g_dlift)))
    (l_dlift : K.lookup g_dlift = some ⟨oc_dlift, od_dlift, .func (PySem.W.fnOf "do_lift" "do_lift" (defArgs sLift) (defBody sLift) (defScope sLift) .none kV_dlift dc_dlift pm_dlift an_dlift cd_dlift ct_dlift), sl_dlift⟩)
    (c_dlift : PySem.W.codeIn K cd_dlift "do_lift" = true)
    (k_dlift : PySem.W.keepIn K (.ref g_dlift) = true)
    (a_dlower : PySem.W.nsIn K mainGlobals "do_lower" = some (some (.ref g_dlower)))
    (l_dlower : K.lookup g_dlower = some ⟨oc_dlower, od_dlower, .func (PySem.W.fnOf "do_lower" "do_lower" (defArgs sLower) (defBody sLower) (defScope sLower) .none kV_dlower dc_dlower pm_dlower an_dlower cd_dlower ct_dlower), sl_dlower⟩)
    (c_dlower : PySem.W.codeIn K cd_dlower "do_lower" = true)
    (k_dlower : PySem.W.keepIn K (.ref g_dlower) = true)
    (a_dspace : PySem.W.nsIn K mainGlobals "do_space" = some (some (.ref g_dspace)))
    (l_dspace : K.lookup g_dspace = some ⟨oc_dspace, od_dspace, .func (PySem.W.fnOf "do_space" "do_space" (defArgs sSpace) (defBody sSpace) (defScope sSpace) .none kV_dspace dc_dspace pm_dspace an_dspace cd_dspace ct_dspace), sl_dspace⟩)
    (c_dspace : PySem.W.codeIn K cd_dspace "do_space" = true)
    (k_dspace : PySem.W.keepIn K (.ref g_dspace) = true)
    (a_dclose : PySem.W.nsIn K mainGlobals "do_close" = some (some (.ref g_dclose)))
    (l_dclose : K.lookup g_dclose = some ⟨oc_dclose, od_dclose, .func (PySem.W.fnOf "do_close" "do_close" (defArgs sClose) (defBody sClose) (defScope sClose) .none kV_dclose dc_dclose pm_dclose an_dclose cd_dclose ct_dclose), sl_dclose⟩)
    (c_dclose : PySem.W.codeIn K cd_dclose "do_close" = true)
    (k_dclose : PySem.W.keepIn K (.ref g_dclose) = true)
    (a_row : PySem.W.nsIn K mainGlobals "do_row" = some (some (.ref g_row)))
    (l_row : K.lookup g_row = some ⟨oc_row, od_row, .func (PySem.W.fnOf "do_row" "do_row" (defArgs sRow) (defBody sRow) (defScope sRow) .none kV_row dc_row pm_row an_row cd_row ct_row), sl_row⟩)
    (c_row : PySem.W.codeIn K cd_row "do_row" = true)
    (k_row : PySem.W.keepIn K (.ref g_row) = true)
    (a_rdone : PySem.W.nsIn K mainGlobals "rows_done" = some (some (.ref g_rdone)))
    (l_rdone : K.lookup g_rdone = some ⟨oc_rdone, od_rdone, .func (PySem.W.fnOf "rows_done" "rows_done" (defArgs sRows) (defBody sRows) (defScope sRows) .none kV_rdone dc_rdone pm_rdone an_rdone cd_rdone ct_rdone), sl_rdone⟩)
    (c_rdone : PySem.W.codeIn K cd_rdone "rows_done" = true)
    (k_rdone : PySem.W.keepIn K (.ref g_rdone) = true)
    (a_fence : PySem.W.nsIn K mainGlobals "is_fence" = some (some (.ref g_fence)))
    (l_fence : K.lookup g_fence = some ⟨oc_fence, od_fence, .func (PySem.W.fnOf "is_fence" "is_fence" (defArgs sFence) (defBody sFence) (defScope sFence) .none kV_fence dc_fence pm_fence an_fence cd_fence ct_fence), sl_fence⟩)
    (c_fence : PySem.W.codeIn K cd_fence "is_fence" = true)
    (k_fence : PySem.W.keepIn K (.ref g_fence) = true)
    (a_key : PySem.W.nsIn K mainGlobals "sorting_key" = some (some (.ref g_key)))
    (l_key : K.lookup g_key = some ⟨oc_key, od_key, .func (PySem.W.fnOf "sorting_key" "sorting_key" (defArgs sKeyS) (defBody sKeyS) (defScope sKeyS) .none kV_key dc_key pm_key an_key cd_key ct_key), sl_key⟩)
    (c_key : PySem.W.codeIn K cd_key "sorting_key" = true)
    (k_key : PySem.W.keepIn K (.ref g_key) = true)
    (a_ord : PySem.W.nsIn K mainGlobals "in_order" = some (some (.ref g_ord)))
    (l_ord : K.lookup g_ord = some ⟨oc_ord, od_ord, .func (PySem.W.fnOf "in_order" "in_order" (defArgs sInOrd) (defBody sInOrd) (defScope sInOrd) .none kV_ord dc_ord pm_ord an_ord cd_ord ct_ord), sl_ord⟩)
    (c_ord : PySem.W.codeIn K cd_ord "in_order" = true)
    (k_ord : PySem.W.keepIn K (.ref g_ord) = true)
    (a_layp : PySem.W.nsIn K mainGlobals "lay_piece" = some (some (.ref g_layp)))
    (l_layp : K.lookup g_layp = some ⟨oc_layp, od_layp, .func (PySem.W.fnOf "lay_piece" "lay_piece" (defArgs sLayP) (defBody sLayP) (defScope sLayP) .none kV_layp dc_layp pm_layp an_layp cd_layp ct_layp), sl_layp⟩)
    (c_layp : PySem.W.codeIn K cd_layp "lay_piece" = true)
    (k_layp : PySem.W.keepIn K (.ref g_layp) = true)
    (a_ahead : PySem.W.nsIn K mainGlobals "stands_ahead" = some (some (.ref g_ahead)))
    (l_ahead : K.lookup g_ahead = some ⟨oc_ahead, od_ahead, .func (PySem.W.fnOf "stands_ahead" "stands_ahead" (defArgs sAhead) (defBody sAhead) (defScope sAhead) .none kV_ahead dc_ahead pm_ahead an_ahead cd_ahead ct_ahead), sl_ahead⟩)
    (c_ahead : PySem.W.codeIn K cd_ahead "stands_ahead" = true)
    (k_ahead : PySem.W.keepIn K (.ref g_ahead) = true)
    (a_run : PySem.W.nsIn K mainGlobals "run" = some (some (.ref g_run)))
    (l_run : K.lookup g_run = some ⟨oc_run, od_run, .func (PySem.W.fnOf "run" "run" (defArgs sRun) (defBody sRun) (defScope sRun) .none kV_run dc_run pm_run an_run cd_run ct_run), sl_run⟩)
    (c_run : PySem.W.codeIn K cd_run "run" = true)
    (k_run : PySem.W.keepIn K (.ref g_run) = true)
    (a_test : PySem.W.nsIn K mainGlobals "is_test" = some (some (.ref g_test)))
    (l_test : K.lookup g_test = some ⟨oc_test, od_test, .func (PySem.W.fnOf "is_test" "is_test" (defArgs sTest) (defBody sTest) (defScope sTest) .none kV_test dc_test pm_test an_test cd_test ct_test), sl_test⟩)
    (c_test : PySem.W.codeIn K cd_test "is_test" = true)
    (k_test : PySem.W.keepIn K (.ref g_test) = true)
    (a_deed : PySem.W.nsIn K mainGlobals "is_deed" = some (some (.ref g_deed)))
    (l_deed : K.lookup g_deed = some ⟨oc_deed, od_deed, .func (PySem.W.fnOf "is_deed" "is_deed" (defArgs sDeed) (defBody sDeed) (defScope sDeed) .none kV_deed dc_deed pm_deed an_deed cd_deed ct_deed), sl_deed⟩)
    (c_deed : PySem.W.codeIn K cd_deed "is_deed" = true)
    (k_deed : PySem.W.keepIn K (.ref g_deed) = true)
    (a_areT : PySem.W.nsIn K mainGlobals "are_tests" = some (some (.ref g_areT)))
    (l_areT : K.lookup g_areT = some ⟨oc_areT, od_areT, .func (PySem.W.fnOf "are_tests" "are_tests" (defArgs sAreT) (defBody sAreT) (defScope sAreT) .none kV_areT dc_areT pm_areT an_areT cd_areT ct_areT), sl_areT⟩)
    (c_areT : PySem.W.codeIn K cd_areT "are_tests" = true)
    (k_areT : PySem.W.keepIn K (.ref g_areT) = true)
    (a_areD : PySem.W.nsIn K mainGlobals "are_deeds" = some (some (.ref g_areD)))
    (l_areD : K.lookup g_areD = some ⟨oc_areD, od_areD, .func (PySem.W.fnOf "are_deeds" "are_deeds" (defArgs sAreD) (defBody sAreD) (defScope sAreD) .none kV_areD dc_areD pm_areD an_areD cd_areD ct_areD), sl_areD⟩)
    (c_areD : PySem.W.codeIn K cd_areD "are_deeds" = true)
    (k_areD : PySem.W.keepIn K (.ref g_areD) = true)
    (a_areR : PySem.W.nsIn K mainGlobals "are_rows" = some (some (.ref g_areR)))
    (l_areR : K.lookup g_areR = some ⟨oc_areR, od_areR, .func (PySem.W.fnOf "are_rows" "are_rows" (defArgs sAreR) (defBody sAreR) (defScope sAreR) .none kV_areR dc_areR pm_areR an_areR cd_areR ct_areR), sl_areR⟩)
    (c_areR : PySem.W.codeIn K cd_areR "are_rows" = true)
    (k_areR : PySem.W.keepIn K (.ref g_areR) = true)
    (a_box : PySem.W.nsIn K mainGlobals "_law_box" = some (some (.ref g_box)))
    (l_box : K.lookup g_box = some ⟨oc_box, od_box, .func (PySem.W.fnOf "_law_box" "_law_box" (defArgs sBox) (defBody sBox) (defScope sBox) .none kV_box dc_box pm_box an_box cd_box ct_box), sl_box⟩)
    (c_box : PySem.W.codeIn K cd_box "_law_box" = true)
    (k_box : PySem.W.keepIn K (.ref g_box) = true)
    (a_take : PySem.W.nsIn K mainGlobals "_law_take" = some (some (.ref g_take)))
    (l_take : K.lookup g_take = some ⟨oc_take, od_take, .func (PySem.W.fnOf "_law_take" "_law_take" (defArgs sTake) (defBody sTake) (defScope sTake) .none kV_take dc_take pm_take an_take cd_take ct_take), sl_take⟩)
    (c_take : PySem.W.codeIn K cd_take "_law_take" = true)
    (k_take : PySem.W.keepIn K (.ref g_take) = true)
    (a_pick : PySem.W.nsIn K mainGlobals "_law_pick" = some (some (.ref g_pick)))
    (l_pick : K.lookup g_pick = some ⟨oc_pick, od_pick, .func (PySem.W.fnOf "_law_pick" "_law_pick" (defArgs sPick) (defBody sPick) (defScope sPick) .none kV_pick dc_pick pm_pick an_pick cd_pick ct_pick), sl_pick⟩)
    (c_pick : PySem.W.codeIn K cd_pick "_law_pick" = true)
    (k_pick : PySem.W.keepIn K (.ref g_pick) = true)
    (a_mixed : PySem.W.nsIn K mainGlobals "_law_mixed" = some (some (.ref g_mixed)))
    (l_mixed : K.lookup g_mixed = some ⟨oc_mixed, od_mixed, .func (PySem.W.fnOf "_law_mixed" "_law_mixed" (defArgs sMixed) (defBody sMixed) (defScope sMixed) .none kV_mixed dc_mixed pm_mixed an_mixed cd_mixed ct_mixed), sl_mixed⟩)
    (c_mixed : PySem.W.codeIn K cd_mixed "_law_mixed" = true)
    (k_mixed : PySem.W.keepIn K (.ref g_mixed) = true)
    (a_lname : PySem.W.nsIn K mainGlobals "_law_name" = some (some (.ref g_lname)))
    (l_lname : K.lookup g_lname = some ⟨oc_lname, od_lname, .func (PySem.W.fnOf "_law_name" "_law_name" (defArgs sLName) (defBody sLName) (defScope sLName) .none kV_lname dc_lname pm_lname an_lname cd_lname ct_lname), sl_lname⟩)
    (c_lname : PySem.W.codeIn K cd_lname "_law_name" = true)
    (k_lname : PySem.W.keepIn K (.ref g_lname) = true)
    (a_lpiece : PySem.W.nsIn K mainGlobals "_law_piece" = some (some (.ref g_lpiece)))
    (l_lpiece : K.lookup g_lpiece = some ⟨oc_lpiece, od_lpiece, .func (PySem.W.fnOf "_law_piece" "_law_piece" (defArgs sLPiece) (defBody sLPiece) (defScope sLPiece) .none kV_lpiece dc_lpiece pm_lpiece an_lpiece cd_lpiece ct_lpiece), sl_lpiece⟩)
    (c_lpiece : PySem.W.codeIn K cd_lpiece "_law_piece" = true)
    (k_lpiece : PySem.W.keepIn K (.ref g_lpiece) = true)
    (a_made : PySem.W.nsIn K mainGlobals "_law_made" = some (some (.ref g_made)))
    (l_made : K.lookup g_made = some ⟨oc_made, od_made, .func (PySem.W.fnOf "_law_made" "_law_made" (defArgs sLMade) (defBody sLMade) (defScope sLMade) .none kV_made dc_made pm_made an_made cd_made ct_made), sl_made⟩)
    (c_made : PySem.W.codeIn K cd_made "_law_made" = true)
    (k_made : PySem.W.keepIn K (.ref g_made) = true)
    (a_ltest : PySem.W.nsIn K mainGlobals "_law_test" = some (some (.ref g_ltest)))
    (l_ltest : K.lookup g_ltest = some ⟨oc_ltest, od_ltest, .func (PySem.W.fnOf "_law_test" "_law_test" (defArgs sLTest) (defBody sLTest) (defScope sLTest) .none kV_ltest dc_ltest pm_ltest an_ltest cd_ltest ct_ltest), sl_ltest⟩)
    (c_ltest : PySem.W.codeIn K cd_ltest "_law_test" = true)
    (k_ltest : PySem.W.keepIn K (.ref g_ltest) = true)
    (a_lrow : PySem.W.nsIn K mainGlobals "_law_row" = some (some (.ref g_lrow)))
    (l_lrow : K.lookup g_lrow = some ⟨oc_lrow, od_lrow, .func (PySem.W.fnOf "_law_row" "_law_row" (defArgs sLRow) (defBody sLRow) (defScope sLRow) .none kV_lrow dc_lrow pm_lrow an_lrow cd_lrow ct_lrow), sl_lrow⟩)
    (c_lrow : PySem.W.codeIn K cd_lrow "_law_row" = true)
    (k_lrow : PySem.W.keepIn K (.ref g_lrow) = true)
    (a_ltool : PySem.W.nsIn K mainGlobals "_law_tool" = some (some (.ref g_ltool)))
    (l_ltool : K.lookup g_ltool = some ⟨oc_ltool, od_ltool, .func (PySem.W.fnOf "_law_tool" "_law_tool" (defArgs sLTool) (defBody sLTool) (defScope sLTool) .none kV_ltool dc_ltool pm_ltool an_ltool cd_ltool ct_ltool), sl_ltool⟩)
    (c_ltool : PySem.W.codeIn K cd_ltool "_law_tool" = true)
    (k_ltool : PySem.W.keepIn K (.ref g_ltool) = true)
    (a_lof : PySem.W.nsIn K mainGlobals "_law_tool_of" = some (some (.ref g_lof)))
    (l_lof : K.lookup g_lof = some ⟨oc_lof, od_lof, .func (PySem.W.fnOf "_law_tool_of" "_law_tool_of" (defArgs sToolOf) (defBody sToolOf) (defScope sToolOf) .none kV_lof dc_lof pm_lof an_lof cd_lof ct_lof), sl_lof⟩)
    (c_lof : PySem.W.codeIn K cd_lof "_law_tool_of" = true)
    (k_lof : PySem.W.keepIn K (.ref g_lof) = true)
    (a_lfence : PySem.W.nsIn K mainGlobals "_law_is_fence" = some (some (.ref g_lfence)))
    (l_lfence : K.lookup g_lfence = some ⟨oc_lfence, od_lfence, .func (PySem.W.fnOf "_law_is_fence" "_law_is_fence" (defArgs sLFence) (defBody sLFence) (defScope sLFence) .none kV_lfence dc_lfence pm_lfence an_lfence cd_lfence ct_lfence), sl_lfence⟩)
    (c_lfence : PySem.W.codeIn K cd_lfence "_law_is_fence" = true)
    (k_lfence : PySem.W.keepIn K (.ref g_lfence) = true)
    (a_lkey : PySem.W.nsIn K mainGlobals "_law_key" = some (some (.ref g_lkey)))
    (l_lkey : K.lookup g_lkey = some ⟨oc_lkey, od_lkey, .func (PySem.W.fnOf "_law_key" "_law_key" (defArgs sLKey) (defBody sLKey) (defScope sLKey) .none kV_lkey dc_lkey pm_lkey an_lkey cd_lkey ct_lkey), sl_lkey⟩)
    (c_lkey : PySem.W.codeIn K cd_lkey "_law_key" = true)
    (k_lkey : PySem.W.keepIn K (.ref g_lkey) = true)
    (a_lsorted : PySem.W.nsIn K mainGlobals "_law_sorted" = some (some (.ref g_lsorted)))
    (l_lsorted : K.lookup g_lsorted = some ⟨oc_lsorted, od_lsorted, .func (PySem.W.fnOf "_law_sorted" "_law_sorted" (defArgs sLSorted) (defBody sLSorted) (defScope sLSorted) .none kV_lsorted dc_lsorted pm_lsorted an_lsorted cd_lsorted ct_lsorted), sl_lsorted⟩)
    (c_lsorted : PySem.W.codeIn K cd_lsorted "_law_sorted" = true)
    (k_lsorted : PySem.W.keepIn K (.ref g_lsorted) = true)
    (a_turned : PySem.W.nsIn K mainGlobals "_law_turned" = some (some (.ref g_turned)))
    (l_turned : K.lookup g_turned = some ⟨oc_turned, od_turned, .func (PySem.W.fnOf "_law_turned" "_law_turned" (defArgs sTurned) (defBody sTurned) (defScope sTurned) .none kV_turned dc_turned pm_turned an_turned cd_turned ct_turned), sl_turned⟩)
    (c_turned : PySem.W.codeIn K cd_turned "_law_turned" = true)
    (k_turned : PySem.W.keepIn K (.ref g_turned) = true)
    (a_law : PySem.W.nsIn K mainGlobals "law" = some (some (.ref g_law)))
    (l_law : K.lookup g_law = some ⟨oc_law, od_law, .func (PySem.W.fnOf "law" "law" (defArgs sLaw) (defBody sLaw) (defScope sLaw) .none kV_law dc_law pm_law an_law cd_law ct_law), sl_law⟩)
    (c_law : PySem.W.codeIn K cd_law "law" = true)
    (k_law : PySem.W.keepIn K (.ref g_law) = true)
    (aDO : PySem.W.nsIn K mainGlobals "DOING" = some (some (.ref DO)))
    (l_DO : K.lookup DO = some ⟨.type "dict", none, .dict esDO nDO, #[]⟩)
    (kl_DO : PySem.W.KeysLit w.params esDO.toList)
    (n_break : PySem.W.nsIn K DO "break" = some (some (.ref g_dbreak)))
    (n_join : PySem.W.nsIn K DO "join" = some (some (.ref g_djoin)))
    (n_mark : PySem.W.nsIn K DO "mark" = some (some (.ref g_dmark)))
    (n_unmark : PySem.W.nsIn K DO "unmark" = some (some (.ref g_dunmark)))
    (n_lift : PySem.W.nsIn K DO "lift" = some (some (.ref g_dlift)))
    (n_lower : PySem.W.nsIn K DO "lower" = some (some (.ref g_dlower)))
    (n_space : PySem.W.nsIn K DO "space" = some (some (.ref g_dspace)))
    (n_close : PySem.W.nsIn K DO "close" = some (some (.ref g_dclose)))
    (z_int : PySem.W.nsIn K mainGlobals "int" = some none)
    (z_bool : PySem.W.nsIn K mainGlobals "bool" = some none)
    (z_str : PySem.W.nsIn K mainGlobals "str" = some none)
    (z_list : PySem.W.nsIn K mainGlobals "list" = some none)
    (z_tuple : PySem.W.nsIn K mainGlobals "tuple" = some none)
    (z_dict : PySem.W.nsIn K mainGlobals "dict" = some none)
    (z_isinstance : PySem.W.nsIn K mainGlobals "isinstance" = some none)
    (z_len : PySem.W.nsIn K mainGlobals "len" = some none)
    (z_all : PySem.W.nsIn K mainGlobals "all" = some none)
    (z_any : PySem.W.nsIn K mainGlobals "any" = some none)
    (z_abs : PySem.W.nsIn K mainGlobals "abs" = some none)
    (z_range : PySem.W.nsIn K mainGlobals "range" = some none)
    (z_enumerate : PySem.W.nsIn K mainGlobals "enumerate" = some none)
    (z_zip : PySem.W.nsIn K mainGlobals "zip" = some none)
    (z_max : PySem.W.nsIn K mainGlobals "max" = some none)
    (z_min : PySem.W.nsIn K mainGlobals "min" = some none)
    (z_repr : PySem.W.nsIn K mainGlobals "repr" = some none)
    (z_sorted : PySem.W.nsIn K mainGlobals "sorted" = some none)
    : ∃ fd : FuncData, (∀ (s : Shared) (v : Value), BindsTo s fd ⟨[v], []⟩ [("_law_script", v)]) ∧ ∀ base : Heap, K.In base → base.Ns mainGlobals mg → FnOk l.prog w K mg base CX0 9 fa fd ["_law_script"] (spLaw K) := by
  have e := hfa.symm.trans (PySem.W.mg_of X G a_law)
  cases e
  have M : ∀ {x : Str} {a : Addr}, PySem.W.nsIn K mainGlobals x = some (some (.ref a)) → mg x = some (.ref a) := fun h => PySem.W.mg_of X G h
  have N : ∀ {x : Str}, PySem.W.nsIn K mainGlobals x = some none → mg x = none := fun h => PySem.W.mg_none_of X G h
  have F_but := fun_mk (st := sBut) l_but c_but k_but
  have F_eq := fun_mk (st := sEqPc) l_eq c_eq k_eq
  have b_eq := F_eq.binds (ps := ["self", "other"]) fun _ _ _ _ _ _ us hl => match us, hl with | [_, _], _ => rfl
  have F_bare := fun_mk (st := sBare) l_bare c_bare k_bare
  have b_bare := F_bare.binds (ps := ["self"]) fun _ _ _ _ _ _ us hl => match us, hl with | [_], _ => rfl
  have F_sP := fun_mk (st := sStrP) l_sP c_sP k_sP
  have b_sP := F_sP.binds (ps := ["self"]) fun _ _ _ _ _ _ us hl => match us, hl with | [_], _ => rfl
  have F_eqP := fun_mk (st := sEqP) l_eqP c_eqP k_eqP
  have b_eqP := F_eqP.binds (ps := ["self", "other"]) fun _ _ _ _ _ _ us hl => match us, hl with | [_, _], _ => rfl
  have F_lP := fun_mk (st := sLenP) l_lP c_lP k_lP
  have b_lP := F_lP.binds (ps := ["self"]) fun _ _ _ _ _ _ us hl => match us, hl with | [_], _ => rfl
  have F_gP := fun_mk (st := sGetP) l_gP c_gP k_gP
  have b_gP := F_gP.binds (ps := ["self", "at"]) fun _ _ _ _ _ _ us hl => match us, hl with | [_, _], _ => rfl
  have F_aP := fun_mk (st := sAddP) l_aP c_aP k_aP
  have b_aP := F_aP.binds (ps := ["self", "other"]) fun _ _ _ _ _ _ us hl => match us, hl with | [_, _], _ => rfl
  have F_int := fun_mk (st := sInt) l_int c_int k_int
  have b_int := F_int.binds (ps := ["value"]) fun _ _ _ _ _ _ us hl => match us, hl with | [_], _ => rfl
  have F_num := fun_mk (st := sNum) l_num c_num k_num
  have b_num := F_num.binds (ps := ["value", "many"]) fun _ _ _ _ _ _ us hl => match us, hl with | [_, _], _ => rfl
  have F_seq := fun_mk (st := sSeq) l_seq c_seq k_seq
  have b_seq := F_seq.binds (ps := ["value"]) fun _ _ _ _ _ _ us hl => match us, hl with | [_], _ => rfl
  have F_name := fun_mk (st := sName) l_name c_name k_name
  have b_name := F_name.binds (ps := ["value"]) fun _ _ _ _ _ _ us hl => match us, hl with | [_], _ => rfl
  have F_names := fun_mk (st := sNames) l_names c_names k_names
  have b_names := F_names.binds (ps := ["value"]) fun _ _ _ _ _ _ us hl => match us, hl with | [_], _ => rfl
  have F_req := fun_mk (st := sReq) l_req c_req k_req
  have b_req := F_req.binds (ps := ["holds", "word"]) fun _ _ _ _ _ _ us hl => match us, hl with | [_, _], _ => rfl
  have F_rem := fun_mk (st := sRem) l_rem c_rem k_rem
  have b_rem := F_rem.binds (ps := ["value"]) fun _ _ _ _ _ _ us hl => match us, hl with | [_], _ => rfl
  have F_head := fun_mk (st := sHead) l_head c_head k_head
  have b_head := F_head.binds (ps := ["piece"]) fun _ _ _ _ _ _ us hl => match us, hl with | [_], _ => rfl
  have F_tail := fun_mk (st := sTail) l_tail c_tail k_tail
  have b_tail := F_tail.binds (ps := ["piece"]) fun _ _ _ _ _ _ us hl => match us, hl with | [_], _ => rfl
  have F_body := fun_mk (st := sBody) l_body c_body k_body
  have b_body := F_body.binds (ps := ["piece"]) fun _ _ _ _ _ _ us hl => match us, hl with | [_], _ => rfl
  have F_rows := fun_mk (st := sRowsOf) l_rows c_rows k_rows
  have b_rows := F_rows.binds (ps := ["piece"]) fun _ _ _ _ _ _ us hl => match us, hl with | [_], _ => rfl
  have F_check := fun_mk (st := sCheck) l_check c_check k_check
  have b_check := F_check.binds (ps := ["value"]) fun _ _ _ _ _ _ us hl => match us, hl with | [_], _ => rfl
  have F_gap := fun_mk (st := sGap) l_gap c_gap k_gap
  have b_gap := F_gap.binds (ps := ["piece"]) fun _ _ _ _ _ _ us hl => match us, hl with | [_], _ => rfl
  have F_shape := fun_mk (st := sShape) l_shape c_shape k_shape
  have b_shape := F_shape.binds (ps := ["piece"]) fun _ _ _ _ _ _ us hl => match us, hl with | [_], _ => rfl
  have F_facts := fun_mk (st := sFacts) l_facts c_facts k_facts
  have b_facts := F_facts.binds (ps := ["shape", "over", "overmarked", "overbehind", "overboth"]) fun _ _ _ _ _ _ us hl => match us, hl with | [_, _, _, _, _], _ => rfl
  have F_fp := fun_mk (st := sFP) l_fp c_fp k_fp
  have b_fp := F_fp.binds (ps := ["piece", "width"]) fun _ _ _ _ _ _ us hl => match us, hl with | [_, _], _ => rfl
  have F_bits := fun_mk (st := sBits) l_bits c_bits k_bits
  have b_bits := F_bits.binds (ps := ["answers"]) fun _ _ _ _ _ _ us hl => match us, hl with | [_], _ => rfl
  have F_lanes := fun_mk (st := sLanes) l_lanes c_lanes k_lanes
  have b_lanes := F_lanes.binds (ps := ["many"]) fun _ _ _ _ _ _ us hl => match us, hl with | [_], _ => rfl
  have F_shin := fun_mk (st := sShapeIn) l_shin c_shin k_shin
  have b_shin := F_shin.binds (ps := ["lanes"]) fun _ _ _ _ _ _ us hl => match us, hl with | [_], _ => rfl
  have F_beh := fun_mk (st := sBeh) l_beh c_beh k_beh
  have b_beh := F_beh.binds (ps := ["before", "lanes"]) fun _ _ _ _ _ _ us hl => match us, hl with | [_, _], _ => rfl
  have F_long := fun_mk (st := sLong) l_long c_long k_long
  have b_long := F_long.binds (ps := ["lanes"]) fun _ _ _ _ _ _ us hl => match us, hl with | [_], _ => rfl
  have F_holds := fun_mk (st := sHolds) l_holds c_holds k_holds
  have b_holds := F_holds.binds (ps := ["lanes", "test"]) fun _ _ _ _ _ _ us hl => match us, hl with | [_, _], _ => rfl
  have F_done := fun_mk (st := sDone) l_done c_done k_done
  have b_done := F_done.binds (ps := ["lanes", "row"]) fun _ _ _ _ _ _ us hl => match us, hl with | [_, _], _ => rfl
  have F_dbreak := fun_mk (st := sBreak) l_dbreak c_dbreak k_dbreak
  have b_dbreak := F_dbreak.binds (ps := ["lanes", "where"]) fun _ _ _ _ _ _ us hl => match us, hl with | [_, _], _ => rfl
  have F_djoin := fun_mk (st := sJoin) l_djoin c_djoin k_djoin
  have b_djoin := F_djoin.binds (ps := ["lanes", "where"]) fun _ _ _ _ _ _ us hl => match us, hl with | [_, _], _ => rfl
  have F_dmark := fun_mk (st := sMark) l_dmark c_dmark k_dmark
  have b_dmark := F_dmark.binds (ps := ["lanes", "where"]) fun _ _ _ _ _ _ us hl => match us, hl with | [_, _], _ => rfl
  have F_dunmark := fun_mk (st := sUnmark) l_dunmark c_dunmark k_dunmark
  have b_dunmark := F_dunmark.binds (ps := ["lanes", "where"]) fun _ _ _ _ _ _ us hl => match us, hl with | [_, _], _ => rfl
  have F_dlift := fun_mk (st := sLift) l_dlift c_dlift k_dlift
  have b_dlift := F_dlift.binds (ps := ["lanes", "where"]) fun _ _ _ _ _ _ us hl => match us, hl with | [_, _], _ => rfl
  have F_dlower := fun_mk (st := sLower) l_dlower c_dlower k_dlower
  have b_dlower := F_dlower.binds (ps := ["lanes", "where"]) fun _ _ _ _ _ _ us hl => match us, hl with | [_, _], _ => rfl
  have F_dspace := fun_mk (st := sSpace) l_dspace c_dspace k_dspace
  have b_dspace := F_dspace.binds (ps := ["lanes", "where"]) fun _ _ _ _ _ _ us hl => match us, hl with | [_, _], _ => rfl
  have F_dclose := fun_mk (st := sClose) l_dclose c_dclose k_dclose
  have b_dclose := F_dclose.binds (ps := ["lanes", "where"]) fun _ _ _ _ _ _ us hl => match us, hl with | [_, _], _ => rfl
  have F_row := fun_mk (st := sRow) l_row c_row k_row
  have b_row := F_row.binds (ps := ["lanes", "row"]) fun _ _ _ _ _ _ us hl => match us, hl with | [_, _], _ => rfl
  have F_rdone := fun_mk (st := sRows) l_rdone c_rdone k_rdone
  have b_rdone := F_rdone.binds (ps := ["rows", "before", "lanes"]) fun _ _ _ _ _ _ us hl => match us, hl with | [_, _, _], _ => rfl
  have F_fence := fun_mk (st := sFence) l_fence c_fence k_fence
  have b_fence := F_fence.binds (ps := ["piece"]) fun _ _ _ _ _ _ us hl => match us, hl with | [_], _ => rfl
  have F_key := fun_mk (st := sKeyS) l_key c_key k_key
  have b_key := F_key.binds (ps := ["piece"]) fun _ _ _ _ _ _ us hl => match us, hl with | [_], _ => rfl
  have F_ord := fun_mk (st := sInOrd) l_ord c_ord k_ord
  have b_ord := F_ord.binds (ps := ["pieces"]) fun _ _ _ _ _ _ us hl => match us, hl with | [_], _ => rfl
  have F_layp := fun_mk (st := sLayP) l_layp c_layp k_layp
  have b_layp := F_layp.binds (ps := ["rows", "width", "before", "piece"]) fun _ _ _ _ _ _ us hl => match us, hl with | [_, _, _, _], _ => rfl
  have F_ahead := fun_mk (st := sAhead) l_ahead c_ahead k_ahead
  have b_ahead := F_ahead.binds (ps := ["piece"]) fun _ _ _ _ _ _ us hl => match us, hl with | [_], _ => rfl
  have F_run := fun_mk (st := sRun) l_run c_run k_run
  have b_run := F_run.binds (ps := ["tool", "width", "program"]) fun _ _ _ _ _ _ us hl => match us, hl with | [_, _, _], _ => rfl
  have F_test := fun_mk (st := sTest) l_test c_test k_test
  have b_test := F_test.binds (ps := ["value"]) fun _ _ _ _ _ _ us hl => match us, hl with | [_], _ => rfl
  have F_deed := fun_mk (st := sDeed) l_deed c_deed k_deed
  have b_deed := F_deed.binds (ps := ["value"]) fun _ _ _ _ _ _ us hl => match us, hl with | [_], _ => rfl
  have F_areT := fun_mk (st := sAreT) l_areT c_areT k_areT
  have b_areT := F_areT.binds (ps := ["value"]) fun _ _ _ _ _ _ us hl => match us, hl with | [_], _ => rfl
  have F_areD := fun_mk (st := sAreD) l_areD c_areD k_areD
  have b_areD := F_areD.binds (ps := ["value"]) fun _ _ _ _ _ _ us hl => match us, hl with | [_], _ => rfl
  have F_areR := fun_mk (st := sAreR) l_areR c_areR k_areR
  have b_areR := F_areR.binds (ps := ["value"]) fun _ _ _ _ _ _ us hl => match us, hl with | [_], _ => rfl
  have F_box := fun_mk (st := sBox) l_box c_box k_box
  have b_box := F_box.binds (ps := ["_law_script", "_law_k", "_law_own"]) fun _ _ _ _ _ _ us hl => match us, hl with | [_, _, _], _ => rfl
  have F_take := fun_mk (st := sTake) l_take c_take k_take
  have b_take := F_take.binds (ps := ["_law_box_here", "_law_many"]) fun _ _ _ _ _ _ us hl => match us, hl with | [_, _], _ => rfl
  have F_pick := fun_mk (st := sPick) l_pick c_pick k_pick
  have b_pick := F_pick.binds (ps := ["_law_box_here", "_law_items"]) fun _ _ _ _ _ _ us hl => match us, hl with | [_, _], _ => rfl
  have F_mixed := fun_mk (st := sMixed) l_mixed c_mixed k_mixed
  have b_mixed := F_mixed.binds (ps := ["_law_box_here", "_law_items"]) fun _ _ _ _ _ _ us hl => match us, hl with | [_, _], _ => rfl
  have F_lname := fun_mk (st := sLName) l_lname c_lname k_lname
  have b_lname := F_lname.binds (ps := ["_law_box_here", "_law_most"]) fun _ _ _ _ _ _ us hl => match us, hl with | [_, _], _ => rfl
  have F_lpiece := fun_mk (st := sLPiece) l_lpiece c_lpiece k_lpiece
  have b_lpiece := F_lpiece.binds (ps := ["_law_box_here", "_law_many"]) fun _ _ _ _ _ _ us hl => match us, hl with | [_, _], _ => rfl
  have F_made := fun_mk (st := sLMade) l_made c_made k_made
  have b_made := F_made.binds (ps := ["_law_piece_here"]) fun _ _ _ _ _ _ us hl => match us, hl with | [_], _ => rfl
  have F_ltest := fun_mk (st := sLTest) l_ltest c_ltest k_ltest
  have b_ltest := F_ltest.binds (ps := ["_law_box_here"]) fun _ _ _ _ _ _ us hl => match us, hl with | [_], _ => rfl
  have F_lrow := fun_mk (st := sLRow) l_lrow c_lrow k_lrow
  have b_lrow := F_lrow.binds (ps := ["_law_box_here"]) fun _ _ _ _ _ _ us hl => match us, hl with | [_], _ => rfl
  have F_ltool := fun_mk (st := sLTool) l_ltool c_ltool k_ltool
  have b_ltool := F_ltool.binds (ps := ["_law_box_here"]) fun _ _ _ _ _ _ us hl => match us, hl with | [_], _ => rfl
  have F_lof := fun_mk (st := sToolOf) l_lof c_lof k_lof
  have b_lof := F_lof.binds (ps := ["_law_tool_here"]) fun _ _ _ _ _ _ us hl => match us, hl with | [_], _ => rfl
  have F_lfence := fun_mk (st := sLFence) l_lfence c_lfence k_lfence
  have b_lfence := F_lfence.binds (ps := ["_law_piece_here"]) fun _ _ _ _ _ _ us hl => match us, hl with | [_], _ => rfl
  have F_lkey := fun_mk (st := sLKey) l_lkey c_lkey k_lkey
  have b_lkey := F_lkey.binds (ps := ["_law_piece_here"]) fun _ _ _ _ _ _ us hl => match us, hl with | [_], _ => rfl
  have F_lsorted := fun_mk (st := sLSorted) l_lsorted c_lsorted k_lsorted
  have b_lsorted := F_lsorted.binds (ps := ["_law_pieces"]) fun _ _ _ _ _ _ us hl => match us, hl with | [_], _ => rfl
  have F_turned := fun_mk (st := sTurned) l_turned c_turned k_turned
  have b_turned := F_turned.binds (ps := ["_law_pieces"]) fun _ _ _ _ _ _ us hl => match us, hl with | [_], _ => rfl
  have F_law := fun_mk (st := sLaw) l_law c_law k_law
  have b_law := F_law.binds (ps := ["_law_script"]) fun _ _ _ _ _ _ us hl => match us, hl with | [_], _ => rfl
  have D : TxtD mg := ⟨N z_int, N z_len, N z_abs, N z_range⟩
  have T : TxtK mg := ⟨N z_int, N z_bool, N z_str, N z_list, N z_tuple, N z_isinstance, N z_len, N z_all, N z_enumerate⟩
  have B : Bt mg := ⟨N z_int, N z_bool, N z_str, N z_list, N z_tuple, N z_dict, N z_isinstance, N z_len, N z_all, N z_any, N z_abs, N z_range, N z_enumerate, N z_zip, N z_max, N z_min, N z_repr, N z_sorted⟩
  refine ⟨PySem.W.fnOf "law" "law" (defArgs sLaw) (defBody sLaw) (defScope sLaw) .none kV_law dc_law pm_law an_law cd_law ct_law, fun s v => .of_eq rfl, fun base _ _ => ?_⟩
  have okName : FnOk l.prog w K mg base CX0 1 g_name _ ["value"] (spName K) := ok_name F_name T
  have okSeq : FnOk l.prog w K mg base CX0 1 g_seq _ ["value"] (spSeq K) := ok_seq F_seq T
  have okInt : FnOk l.prog w K mg base CX0 1 g_int _ ["value"] (spInt K) := ok_int F_int T
  have okNum := ok_num F_num okInt (M a_int) k_int b_int
  have okNames := ok_names F_names T okSeq (M a_seq) k_seq b_seq okName (M a_name) k_name b_name
  have ci : ClsI K C := ⟨clC, caC, hn, ht, moC⟩
  have ZC : PieceC K C := ⟨clC, noC_word, noC_parts, noC_broken, noC_marked, noC_ahead, noC_behind, noC_blanks, noC_left⟩
  have Dp : PieceD l.prog w K mg base g_req g_name g_names g_rem g_num _ _ _ _ _ := ⟨ok_req F_req, M a_req, k_req, b_req, okName, M a_name, k_name, b_name,
    okNames, M a_names, k_names, b_names, ok_rem F_rem T okName (M a_name) k_name b_name, M a_rem, k_rem, b_rem, okNum, M a_num, k_num, b_num⟩
  have okPI := ok_pieceI (C := C) FC T ZC Dp
  obtain ⟨its, kb⟩ := kbn_piece FC rfl
  have okBut1 : KwX.FnRK l.prog w K mg base CX0 5 fBu mk1 (spButN K C mk1) := ok_butG (P := l.prog) (w := w) (base := base) (ks := mk1) F_but ZC mkC (by decide +kernel) (by decide) okPI (M aC) kb (fun kV doc pm an cdv ct us ws h1 h2 => match us, ws, h1, h2 with | [_], [_], _, _ => rfl)
  have okButL : KwX.FnRK l.prog w K mg base CX0 5 fBu ksL (spButN K C ksL) := ok_butG (P := l.prog) (w := w) (base := base) (ks := ksL) F_but ZC mkC (by decide +kernel) (by decide) okPI (M aC) kb (fun kV doc pm an cdv ct us ws h1 h2 => match us, ws, h1, h2 with | [_], [_, _, _, _, _], _, _ => rfl)
  have mBut : Meth K C "but" fBu := ⟨s_but, f_but, k_but⟩
  have okHead := ok_head (P := l.prog) (w := w) (mg := mg) (base := base) (C := C) F_head ZC
  have okTail := ok_tail (P := l.prog) (w := w) (mg := mg) (base := base) (C := C) F_tail ZC
  have okBody := ok_body F_body ZC okHead (M a_head) k_head b_head okTail (M a_tail) k_tail b_tail
  have okRows := ok_rowsOf F_rows ZC okBody (M a_body) k_body b_body
  have okEq := ok_eqP (P := l.prog) (w := w) (base := base) F_eq B ci ZC (M aC)
  have okBare := ok_bare F_bare B ZC okHead (M a_head) k_head b_head
  have PB : BareP l.prog w K mg base C := ⟨_, _, _, p_bare, okBare, b_bare⟩
  have cip : ClsI K CP := ⟨clCP, caCP, hn, ht, moCP⟩
  have ZP : ProgC K CP := ⟨clCP, noCP_pieces⟩
  have okCh := ok_checkG (P := l.prog) (w := w) (base := base) (C := C) F_check T okSeq (M a_seq) k_seq b_seq (M aC)
  have okGI := ok_progG (C := C) FCP T ZP okCh (M a_check) k_check b_check
  have okStr := ok_strP (CP := CP) F_sP ZP okRows (M a_rows) k_rows b_rows
  have okEqP := ok_eqPg F_eqP T (N z_str) cip (M aCP) okStr s_sP f_sP b_sP
  obtain ⟨ds0, v0, b0⟩ := binds_prog0 FCP
  have okLen := ok_lenP (P := l.prog) (w := w) (base := base) (C := C) F_lP (N z_len) ZP
  have okGet := ok_getG (C := C) F_gP (N z_len) ZP okNum (M a_num) k_num b_num
  have okAdd := ok_addP F_aP T ci cip ZP (M aCP) mkCP okGI (binds_prog FCP)
  have PC : Pg l.prog w K mg base C CP := ⟨ZC, ci, cip, ZP, M aCP, ⟨_, _, okEq, s_eq, f_eq, b_eq⟩, neC, ⟨_, mBut, okBut1⟩, ⟨_, _, mkCP, okGI, binds_prog FCP, eP, ds0, v0, b0, em_eP⟩, ⟨_, _, okStr, s_sP, f_sP, b_sP⟩, ⟨_, _, okLen, s_lP, f_lP, b_lP⟩, ⟨_, _, okEqP, s_eqP, f_eqP, b_eqP⟩, neP, ⟨_, _, okGet, s_gP, fiP, f_gP, b_gP⟩, ⟨_, _, okAdd, s_aP, f_aP, b_aP⟩, sfP⟩
  have cr : ClsI K CR := ⟨clCR, caCR, hn, ht, moCR⟩
  have ct : ClsI K CT := ⟨clCT, caCT, hn, ht, moCT⟩
  have bR := binds_row FCR
  have bT := binds_tool FCT
  have okTest : FnOk l.prog w K mg base CX0 1 g_test _ ["value"] (spOne progT K) := ok_test F_test T (M a_tT) h_tT
  have okDeed : FnOk l.prog w K mg base CX0 1 g_deed _ ["value"] (spOne progD K) := ok_deed F_deed T (M a_tD) h_tD
  have okAT := ok_areT F_areT T okSeq (M a_seq) k_seq b_seq okTest (M a_test) k_test b_test
  have okAD := ok_areD F_areD T okSeq (M a_seq) k_seq b_seq okDeed (M a_deed) k_deed b_deed
  have RC : RowC K CR := ⟨clCR, noCR_tests, noCR_deeds⟩
  have okRG := ok_rowG FCR T RC okAT (M a_areT) k_areT b_areT okAD (M a_areD) k_areD b_areD
  have okAR := ok_areR (C := CR) F_areR T okSeq (M a_seq) k_seq b_seq (M aCR)
  have TCc : ToolC K CT := ⟨clCT, noCT_rows, noCT_sorts⟩
  have okTG := ok_toolG FCT T (N z_bool) TCc okAR (M a_areR) k_areR b_areR
  obtain ⟨dsT, vT1, bT1⟩ := binds_tool1 FCT
  have okFc := ok_facts (P := l.prog) (w := w) (mg := mg) (base := base) F_facts
  have okBi := ok_bits (P := l.prog) (w := w) (base := base) F_bits B
  have okLn := ok_lanes (P := l.prog) (w := w) (base := base) F_lanes ⟨_, _, okBi, M a_bits, k_bits, b_bits⟩
  have okSh := ok_shapeIn (P := l.prog) (w := w) (base := base) F_shin B
  have okBe := ok_beh (P := l.prog) (w := w) (base := base) F_beh B
  have okLg := ok_long (P := l.prog) (w := w) (mg := mg) (base := base) F_long
  have okHo := ok_holds (P := l.prog) (w := w) (base := base) F_holds ⟨_, _, okLg, M a_long, k_long, b_long⟩
  have okDn := ok_done (P := l.prog) (w := w) (base := base) F_done RC ⟨_, _, okHo, M a_holds, k_holds, b_holds⟩
  have okdbreak := ok_break (P := l.prog) (w := w) (mg := mg) (base := base) F_dbreak
  have okdjoin := ok_join (P := l.prog) (w := w) (mg := mg) (base := base) F_djoin
  have okdmark := ok_mark (P := l.prog) (w := w) (mg := mg) (base := base) F_dmark
  have okdunmark := ok_unmark (P := l.prog) (w := w) (mg := mg) (base := base) F_dunmark
  have okdlift := ok_lift (P := l.prog) (w := w) (mg := mg) (base := base) F_dlift
  have okdlower := ok_lower (P := l.prog) (w := w) (mg := mg) (base := base) F_dlower
  have okdspace := ok_space (P := l.prog) (w := w) (mg := mg) (base := base) F_dspace
  have okdclose := ok_close (P := l.prog) (w := w) (mg := mg) (base := base) F_dclose
  have DF : DoF l.prog w K mg base DO (fun i => match i with | 0 => g_dbreak | 1 => g_djoin | 2 => g_dmark | 3 => g_dunmark | 4 => g_dlift | 5 => g_dlower | 6 => g_dspace | _ => g_dclose) :=
    ⟨fun i hi => match i, hi with
      | 0, _ => (okdbreak.raw b_dbreak .nil).imp (fun vs H Q E h => by rw [List.append_nil]; exact h)
      | 1, _ => (okdjoin.raw b_djoin .nil).imp (fun vs H Q E h => by rw [List.append_nil]; exact h)
      | 2, _ => (okdmark.raw b_dmark .nil).imp (fun vs H Q E h => by rw [List.append_nil]; exact h)
      | 3, _ => (okdunmark.raw b_dunmark .nil).imp (fun vs H Q E h => by rw [List.append_nil]; exact h)
      | 4, _ => (okdlift.raw b_dlift .nil).imp (fun vs H Q E h => by rw [List.append_nil]; exact h)
      | 5, _ => (okdlower.raw b_dlower .nil).imp (fun vs H Q E h => by rw [List.append_nil]; exact h)
      | 6, _ => (okdspace.raw b_dspace .nil).imp (fun vs H Q E h => by rw [List.append_nil]; exact h)
      | 7, _ => (okdclose.raw b_dclose .nil).imp (fun vs H Q E h => by rw [List.append_nil]; exact h),
     fun i hi => match i, hi with
      | 0, _ => k_dbreak
      | 1, _ => k_djoin
      | 2, _ => k_dmark
      | 3, _ => k_dunmark
      | 4, _ => k_dlift
      | 5, _ => k_dlower
      | 6, _ => k_dspace
      | 7, _ => k_dclose,
     fun i hi => match i, hi with
      | 0, _ => ⟨_, _, _, l_DO, kl_DO, n_break, rfl⟩
      | 1, _ => ⟨_, _, _, l_DO, kl_DO, n_join, rfl⟩
      | 2, _ => ⟨_, _, _, l_DO, kl_DO, n_mark, rfl⟩
      | 3, _ => ⟨_, _, _, l_DO, kl_DO, n_unmark, rfl⟩
      | 4, _ => ⟨_, _, _, l_DO, kl_DO, n_lift, rfl⟩
      | 5, _ => ⟨_, _, _, l_DO, kl_DO, n_lower, rfl⟩
      | 6, _ => ⟨_, _, _, l_DO, kl_DO, n_space, rfl⟩
      | 7, _ => ⟨_, _, _, l_DO, kl_DO, n_close, rfl⟩⟩
  have okRo := ok_row (P := l.prog) (w := w) (base := base) F_row RC DF (M aDO) ⟨_, _, okDn, M a_done, k_done, b_done⟩
  have okRs := ok_rows (P := l.prog) (w := w) (base := base) F_rdone ⟨_, _, okBe, M a_beh, k_beh, b_beh⟩ ⟨_, _, okRo, M a_row, k_row, b_row⟩
  obtain ⟨u4, aSL'⟩ := aSL
  have okGap := ok_gap (P := l.prog) (w := w) (base := base) (C := C) F_gap B ZC aSL'
  have okShape := ok_shape (P := l.prog) (w := w) (mg := mg) (base := base) (C := C) F_shape ZC
  have okFp := ok_fp (P := l.prog) (w := w) (base := base) (C := C) F_fp ZC PB ⟨_, _, okGap, M a_gap, k_gap, b_gap⟩ ⟨_, _, okShape, M a_shape, k_shape, b_shape⟩ ⟨_, _, okFc, M a_facts, k_facts, b_facts⟩
  have okLy := ok_layP (P := l.prog) (w := w) (base := base) F_layp ZC ⟨_, _, okFp, M a_fp, k_fp, b_fp⟩ ⟨_, _, okLn, M a_lanes, k_lanes, b_lanes⟩ ⟨_, _, okRs, M a_rdone, k_rdone, b_rdone⟩ ⟨_, _, okSh, M a_shin, k_shin, b_shin⟩ mBut okButL
  have okAh := ok_ahead (P := l.prog) (w := w) (mg := mg) (base := base) F_ahead ZC
  have okTake : FnOk l.prog w K mg base CX0 1 g_take _ ["_law_box_here", "_law_many"] spTake := ok_take F_take D
  have okPick := ok_pick (P := l.prog) (w := w) (base := base) F_pick D F_take b_take (M a_take)
  have okLN := ok_lname F_lname (N z_range) (N z_list) okTake (M a_take) k_take b_take okPick (M a_pick) k_pick b_pick
  have okLP := ok_lpiece F_lpiece (N z_range) okTake (M a_take) k_take b_take okPick (M a_pick) k_pick b_pick okLN (M a_lname) k_lname b_lname
  have okMd := ok_lmade F_made (M aC) mkC okPI (binds_piece8 FC)
  have okX := ok_ltest (P := l.prog) (w := w) (base := base) F_ltest ⟨_, _, okPick, M a_pick, k_pick, b_pick⟩ ⟨_, _, okTake, M a_take, k_take, b_take⟩
  have okLR := ok_lrow (P := l.prog) (w := w) (base := base) F_lrow B ⟨_, _, okX, M a_ltest, k_ltest, b_ltest⟩ ⟨_, _, okPick, M a_pick, k_pick, b_pick⟩ ⟨_, _, okTake, M a_take, k_take, b_take⟩
  have okLT := ok_ltool (P := l.prog) (w := w) (base := base) F_ltool B ⟨_, _, okLR, M a_lrow, k_lrow, b_lrow⟩ ⟨_, _, okPick, M a_pick, k_pick, b_pick⟩ ⟨_, _, okTake, M a_take, k_take, b_take⟩
  have okOf := ok_toolOf (P := l.prog) (w := w) (base := base) F_lof cr mkCR okRG (M aCR) bR mkCT okTG (M aCT) bT
  have okFe := ok_fence (P := l.prog) (w := w) (mg := mg) (base := base) (C := C) F_fence ZC
  have okKy := ok_keyS (P := l.prog) (w := w) (mg := mg) (base := base) (C := C) F_key ZC
  have okIO := ok_inOrd (P := l.prog) (w := w) (base := base) (C := C) F_ord B ⟨_, _, okFe, M a_fence, k_fence, b_fence⟩ okKy (M a_key) b_key
  have okRn := ok_runS (P := l.prog) (w := w) (base := base) F_run PC TCc ⟨_, _, okIO, M a_ord, k_ord, b_ord⟩ ⟨_, _, okLy, M a_layp, k_layp, b_layp⟩ ⟨_, _, okAh, M a_ahead, k_ahead, b_ahead⟩
  have okLF := ok_lfence (P := l.prog) (w := w) (mg := mg) (base := base) F_lfence
  have okLK := ok_lkey (P := l.prog) (w := w) (mg := mg) (base := base) F_lkey
  have okLS := ok_lsorted (P := l.prog) (w := w) (base := base) F_lsorted B ⟨_, _, okLF, M a_lfence, k_lfence, b_lfence⟩ ⟨_, _, okLK, M a_lkey, k_lkey, b_lkey⟩
  have okTn := ok_turned (P := l.prog) (w := w) (mg := mg) (base := base) F_turned ⟨_, _, okLF, M a_lfence, k_lfence, b_lfence⟩
  have okMx := ok_mixed (P := l.prog) (w := w) (base := base) F_mixed B ⟨_, _, okTake, M a_take, k_take, b_take⟩
  exact ok_Law B PC ⟨_, _, (ok_box F_box D), M a_box, k_box, b_box⟩ ⟨_, _, okTake, M a_take, k_take, b_take⟩ ⟨_, _, okLP, M a_lpiece, k_lpiece, b_lpiece⟩ ⟨_, _, okMd, M a_made, k_made, b_made⟩ ⟨_, _, okLT, M a_ltool, k_ltool, b_ltool⟩ ⟨_, _, okOf, M a_lof, k_lof, b_lof⟩ ⟨_, _, okRn, M a_run, k_run, b_run⟩ ⟨_, _, okLS, M a_lsorted, k_lsorted, b_lsorted⟩ ⟨_, _, okTn, M a_turned, k_turned, b_turned⟩ ⟨_, _, okMx, M a_mixed, k_mixed, b_mixed⟩ ⟨_, _, okLF, M a_lfence, k_lfence, b_lfence⟩ F_law
end Lay
set_option Elab.async false
set_option linter.all false
set_option maxRecDepth 100000
set_option maxHeartbeats 8000000
namespace LayH
open PySem PySem.Spec PyProof.Rows L2 Lay
theorem emB_ok {K : PySem.W.Frag} {a : Addr} (h : emB K a = true) : ∀ H : Hp, TupG K H a [] := by
  unfold emB at h
  cases e : K.lookup a with
  | none =>
    rw [e] at h
    cases h
  | some o =>
    rw [e] at h
    obtain ⟨oc, od, dt, osl⟩ := o
    obtain ⟨h1, h2⟩ := He.ba h
    have h1 := of_decide_eq_true h1
    subst h1
    cases dt <;> first | cases h2 | skip
    rename_i its n
    have e2 : its.toList = [] := List.isEmpty_iff.mp h2
    refine fun H => .inr ⟨_, its, n, e, rfl, rfl, ?_, by rw [e2]; exact .nil⟩
    rw [← Array.length_toList, e2]
    exact Nat.zero_le _
theorem facts {l : PySem.W.OpenLaw} {w : World} {K : PySem.W.Frag} {h : Heap} {mg : Str → Option Value} {fa0 : Addr} (X : K.In h) (G : h.Ns mainGlobals mg) (hfa : mg "law" = some (.ref fa0)) (c : obsO K = valO w) :
    ∃ fd : FuncData, (∀ (s : Shared) (v : Value), BindsTo s fd ⟨[v], []⟩ [("_law_script", v)]) ∧ ∀ base : Heap, K.In base → base.Ns mainGlobals mg → FnOk l.prog w K mg base CX0 9 fa0 fd ["_law_script"] (spLaw K) := by
  have c0 : okB K = true := congrArg (fun z : AlO => z.1) c
  obtain ⟨cF, c0⟩ := He.ba c0
  obtain ⟨cC, c0⟩ := He.ba c0
  obtain ⟨cI, cX⟩ := He.ba c0
  have fact : ∀ (i : Nat) {f : He.Fa}, fa[i]? = some f → f.ok K = true := fun i f h => List.all_eq_true.mp cF f (List.mem_of_getElem? h)
  have exs : ∀ (i : Nat) {b : Bool}, (extras K)[i]? = some b → b = true := fun i b h => List.all_eq_true.mp cX b (List.mem_of_getElem? h)
  have e1 : fns.map (fun d => seeF K (d.at_ K)) = fns.map FnA.due := congrArg (fun z : AlO => z.2.1) c
  have e2 : ini.map (fun d => He.fnW K d.at_) = ini.map He.DefD.val := congrArg (fun z : AlO => z.2.2.1) c
  have def_ : ∀ (i : Nat) {d : FnA}, fns[i]? = some d → ∃ oc od osl kV doc pm an cdv ct, K.lookup (d.at_ K) = some ⟨oc, od, .func (PySem.W.fnOf d.name d.qual (defArgs d.st) (defBody d.st) (defScope d.st) .none kV doc pm an cdv ct), osl⟩ ∧ PySem.W.codeIn K cdv d.qual = true := fun i d h => by
    have e3 : (fns.map fun d => seeF K (d.at_ K))[i]? = (fns.map FnA.due)[i]? := by rw [e1]
    rw [List.getElem?_map, List.getElem?_map, h] at e3
    exact seeF_ok (Option.some.inj e3) (List.all_eq_true.mp cC d (List.mem_of_getElem? h))
  have ini_ : ∀ (i : Nat) {d : He.DefD}, ini[i]? = some d → ∃ fd, FunD K d.name d.qual d.params d.body d.scope (d.dvs K) (d.kws K) (He.fAd K d.at_) fd := fun i d h => by
    have e3 : (ini.map fun d => He.fnW K d.at_)[i]? = (ini.map He.DefD.val)[i]? := by rw [e2]
    rw [List.getElem?_map, List.getElem?_map, h] at e3
    exact He.DefD.funD (Option.some.inj e3) (List.all_eq_true.mp cI d (List.mem_of_getElem? h))
  obtain ⟨esD, nD, KD⟩ := He.dicW_ok (w := w) (congrArg (fun z : AlO => z.2.2.2) c)
  obtain ⟨oc_but, od_but, sl_but, kV_but, dc_but, pm_but, an_but, cd_but, ct_but, l_but, c_but⟩ := def_ 0 (d := ⟨fun K => He.ma K (He.ga K "Piece") "but", "but", "Piece.but", sBut⟩) rfl
  obtain ⟨oc_eq, od_eq, sl_eq, kV_eq, dc_eq, pm_eq, an_eq, cd_eq, ct_eq, l_eq, c_eq⟩ := def_ 1 (d := ⟨fun K => He.ma K (He.ga K "Piece") "__eq__", "__eq__", "Piece.__eq__", sEqPc⟩) rfl
  obtain ⟨oc_bare, od_bare, sl_bare, kV_bare, dc_bare, pm_bare, an_bare, cd_bare, ct_bare, l_bare, c_bare⟩ := def_ 2 (d := ⟨fun K => prA K (He.ma K (He.ga K "Piece") "bare"), "bare", "Piece.bare", sBare⟩) rfl
  obtain ⟨oc_sP, od_sP, sl_sP, kV_sP, dc_sP, pm_sP, an_sP, cd_sP, ct_sP, l_sP, c_sP⟩ := def_ 3 (d := ⟨fun K => He.ma K (He.ga K "Program") "__str__", "__str__", "Program.__str__", sStrP⟩) rfl
  obtain ⟨oc_eqP, od_eqP, sl_eqP, kV_eqP, dc_eqP, pm_eqP, an_eqP, cd_eqP, ct_eqP, l_eqP, c_eqP⟩ := def_ 4 (d := ⟨fun K => He.ma K (He.ga K "Program") "__eq__", "__eq__", "Program.__eq__", sEqP⟩) rfl
  obtain ⟨oc_lP, od_lP, sl_lP, kV_lP, dc_lP, pm_lP, an_lP, cd_lP, ct_lP, l_lP, c_lP⟩ := def_ 5 (d := ⟨fun K => He.ma K (He.ga K "Program") "__len__", "__len__", "Program.__len__", sLenP⟩) rfl
  obtain ⟨oc_gP, od_gP, sl_gP, kV_gP, dc_gP, pm_gP, an_gP, cd_gP, ct_gP, l_gP, c_gP⟩ := def_ 6 (d := ⟨fun K => He.ma K (He.ga K "Program") "__getitem__", "__getitem__", "Program.__getitem__", sGetP⟩) rfl
  obtain ⟨oc_aP, od_aP, sl_aP, kV_aP, dc_aP, pm_aP, an_aP, cd_aP, ct_aP, l_aP, c_aP⟩ := def_ 7 (d := ⟨fun K => He.ma K (He.ga K "Program") "__add__", "__add__", "Program.__add__", sAddP⟩) rfl
  obtain ⟨oc_int, od_int, sl_int, kV_int, dc_int, pm_int, an_int, cd_int, ct_int, l_int, c_int⟩ := def_ 8 (d := ⟨fun K => (He.ga K "is_integer"), "is_integer", "is_integer", sInt⟩) rfl
  obtain ⟨oc_num, od_num, sl_num, kV_num, dc_num, pm_num, an_num, cd_num, ct_num, l_num, c_num⟩ := def_ 9 (d := ⟨fun K => (He.ga K "is_number"), "is_number", "is_number", sNum⟩) rfl
  obtain ⟨oc_seq, od_seq, sl_seq, kV_seq, dc_seq, pm_seq, an_seq, cd_seq, ct_seq, l_seq, c_seq⟩ := def_ 10 (d := ⟨fun K => (He.ga K "is_sequence"), "is_sequence", "is_sequence", sSeq⟩) rfl
  obtain ⟨oc_name, od_name, sl_name, kV_name, dc_name, pm_name, an_name, cd_name, ct_name, l_name, c_name⟩ := def_ 11 (d := ⟨fun K => (He.ga K "is_name"), "is_name", "is_name", sName⟩) rfl
  obtain ⟨oc_names, od_names, sl_names, kV_names, dc_names, pm_names, an_names, cd_names, ct_names, l_names, c_names⟩ := def_ 12 (d := ⟨fun K => (He.ga K "are_names"), "are_names", "are_names", sNames⟩) rfl
  obtain ⟨oc_req, od_req, sl_req, kV_req, dc_req, pm_req, an_req, cd_req, ct_req, l_req, c_req⟩ := def_ 13 (d := ⟨fun K => (He.ga K "require"), "require", "require", sReq⟩) rfl
  obtain ⟨oc_rem, od_rem, sl_rem, kV_rem, dc_rem, pm_rem, an_rem, cd_rem, ct_rem, l_rem, c_rem⟩ := def_ 14 (d := ⟨fun K => (He.ga K "is_remark"), "is_remark", "is_remark", sRem⟩) rfl
  obtain ⟨oc_head, od_head, sl_head, kV_head, dc_head, pm_head, an_head, cd_head, ct_head, l_head, c_head⟩ := def_ 15 (d := ⟨fun K => (He.ga K "head_of"), "head_of", "head_of", sHead⟩) rfl
  obtain ⟨oc_tail, od_tail, sl_tail, kV_tail, dc_tail, pm_tail, an_tail, cd_tail, ct_tail, l_tail, c_tail⟩ := def_ 16 (d := ⟨fun K => (He.ga K "tail_of"), "tail_of", "tail_of", sTail⟩) rfl
  obtain ⟨oc_body, od_body, sl_body, kV_body, dc_body, pm_body, an_body, cd_body, ct_body, l_body, c_body⟩ := def_ 17 (d := ⟨fun K => (He.ga K "body_rows"), "body_rows", "body_rows", sBody⟩) rfl
  obtain ⟨oc_rows, od_rows, sl_rows, kV_rows, dc_rows, pm_rows, an_rows, cd_rows, ct_rows, l_rows, c_rows⟩ := def_ 18 (d := ⟨fun K => (He.ga K "rows_of"), "rows_of", "rows_of", sRowsOf⟩) rfl
  obtain ⟨oc_check, od_check, sl_check, kV_check, dc_check, pm_check, an_check, cd_check, ct_check, l_check, c_check⟩ := def_ 19 (d := ⟨fun K => (He.ga K "check_pieces"), "check_pieces", "check_pieces", sCheck⟩) rfl
  obtain ⟨oc_gap, od_gap, sl_gap, kV_gap, dc_gap, pm_gap, an_gap, cd_gap, ct_gap, l_gap, c_gap⟩ := def_ 20 (d := ⟨fun K => (He.ga K "gap_of"), "gap_of", "gap_of", sGap⟩) rfl
  obtain ⟨oc_shape, od_shape, sl_shape, kV_shape, dc_shape, pm_shape, an_shape, cd_shape, ct_shape, l_shape, c_shape⟩ := def_ 21 (d := ⟨fun K => (He.ga K "shape_of"), "shape_of", "shape_of", sShape⟩) rfl
  obtain ⟨oc_facts, od_facts, sl_facts, kV_facts, dc_facts, pm_facts, an_facts, cd_facts, ct_facts, l_facts, c_facts⟩ := def_ 22 (d := ⟨fun K => (He.ga K "facts_of"), "facts_of", "facts_of", sFacts⟩) rfl
  obtain ⟨oc_fp, od_fp, sl_fp, kV_fp, dc_fp, pm_fp, an_fp, cd_fp, ct_fp, l_fp, c_fp⟩ := def_ 23 (d := ⟨fun K => (He.ga K "facts_of_piece"), "facts_of_piece", "facts_of_piece", sFP⟩) rfl
  obtain ⟨oc_bits, od_bits, sl_bits, kV_bits, dc_bits, pm_bits, an_bits, cd_bits, ct_bits, l_bits, c_bits⟩ := def_ 24 (d := ⟨fun K => (He.ga K "bits_of"), "bits_of", "bits_of", sBits⟩) rfl
  obtain ⟨oc_lanes, od_lanes, sl_lanes, kV_lanes, dc_lanes, pm_lanes, an_lanes, cd_lanes, ct_lanes, l_lanes, c_lanes⟩ := def_ 25 (d := ⟨fun K => (He.ga K "lanes_of"), "lanes_of", "lanes_of", sLanes⟩) rfl
  obtain ⟨oc_shin, od_shin, sl_shin, kV_shin, dc_shin, pm_shin, an_shin, cd_shin, ct_shin, l_shin, c_shin⟩ := def_ 26 (d := ⟨fun K => (He.ga K "shape_in"), "shape_in", "shape_in", sShapeIn⟩) rfl
  obtain ⟨oc_beh, od_beh, sl_beh, kV_beh, dc_beh, pm_beh, an_beh, cd_beh, ct_beh, l_beh, c_beh⟩ := def_ 27 (d := ⟨fun K => (He.ga K "put_behind"), "put_behind", "put_behind", sBeh⟩) rfl
  obtain ⟨oc_long, od_long, sl_long, kV_long, dc_long, pm_long, an_long, cd_long, ct_long, l_long, c_long⟩ := def_ 28 (d := ⟨fun K => (He.ga K "where_long"), "where_long", "where_long", sLong⟩) rfl
  obtain ⟨oc_holds, od_holds, sl_holds, kV_holds, dc_holds, pm_holds, an_holds, cd_holds, ct_holds, l_holds, c_holds⟩ := def_ 29 (d := ⟨fun K => (He.ga K "where_holds"), "where_holds", "where_holds", sHolds⟩) rfl
  obtain ⟨oc_done, od_done, sl_done, kV_done, dc_done, pm_done, an_done, cd_done, ct_done, l_done, c_done⟩ := def_ 30 (d := ⟨fun K => (He.ga K "where_done"), "where_done", "where_done", sDone⟩) rfl
  obtain ⟨oc_dbreak, od_dbreak, sl_dbreak, kV_dbreak, dc_dbreak, pm_dbreak, an_dbreak, cd_dbreak, ct_dbreak, l_dbreak, c_dbreak⟩ := def_ 31 (d := ⟨fun K => (He.ga K "do_break"), "do_break", "do_break", sBreak⟩) rfl
  obtain ⟨oc_djoin, od_djoin, sl_djoin, kV_djoin, dc_djoin, pm_djoin, an_djoin, cd_djoin, ct_djoin, l_djoin, c_djoin⟩ := def_ 32 (d := ⟨fun K => (He.ga K "do_join"), "do_join", "do_join", sJoin⟩) rfl
  obtain ⟨oc_dmark, od_dmark, sl_dmark, kV_dmark, dc_dmark, pm_dmark, an_dmark, cd_dmark, ct_dmark, l_dmark, c_dmark⟩ := def_ 33 (d := ⟨fun K => (He.ga K "do_mark"), "do_mark", "do_mark", sMark⟩) rfl
  obtain ⟨oc_dunmark, od_dunmark, sl_dunmark, kV_dunmark, dc_dunmark, pm_dunmark, an_dunmark, cd_dunmark, ct_dunmark, l_dunmark, c_dunmark⟩ := def_ 34 (d := ⟨fun K => (He.ga K "do_unmark"), "do_unmark", "do_unmark", sUnmark⟩) rfl
  obtain ⟨oc_dlift, od_dlift, sl_dlift, kV_dlift, dc_dlift, pm_dlift, an_dlift, cd_dlift, ct_dlift, l_dlift, c_dlift⟩ := def_ 35 (d := ⟨fun K => (He.ga K "do_lift"), "do_lift", "do_lift", sLift⟩) rfl
  obtain ⟨oc_dlower, od_dlower, sl_dlower, kV_dlower, dc_dlower, pm_dlower, an_dlower, cd_dlower, ct_dlower, l_dlower, c_dlower⟩ := def_ 36 (d := ⟨fun K => (He.ga K "do_lower"), "do_lower", "do_lower", sLower⟩) rfl
  obtain ⟨oc_dspace, od_dspace, sl_dspace, kV_dspace, dc_dspace, pm_dspace, an_dspace, cd_dspace, ct_dspace, l_dspace, c_dspace⟩ := def_ 37 (d := ⟨fun K => (He.ga K "do_space"), "do_space", "do_space", sSpace⟩) rfl
  obtain ⟨oc_dclose, od_dclose, sl_dclose, kV_dclose, dc_dclose, pm_dclose, an_dclose, cd_dclose, ct_dclose, l_dclose, c_dclose⟩ := def_ 38 (d := ⟨fun K => (He.ga K "do_close"), "do_close", "do_close", sClose⟩) rfl
  obtain ⟨oc_row, od_row, sl_row, kV_row, dc_row, pm_row, an_row, cd_row, ct_row, l_row, c_row⟩ := def_ 39 (d := ⟨fun K => (He.ga K "do_row"), "do_row", "do_row", sRow⟩) rfl
  obtain ⟨oc_rdone, od_rdone, sl_rdone, kV_rdone, dc_rdone, pm_rdone, an_rdone, cd_rdone, ct_rdone, l_rdone, c_rdone⟩ := def_ 40 (d := ⟨fun K => (He.ga K "rows_done"), "rows_done", "rows_done", sRows⟩) rfl
  obtain ⟨oc_fence, od_fence, sl_fence, kV_fence, dc_fence, pm_fence, an_fence, cd_fence, ct_fence, l_fence, c_fence⟩ := def_ 41 (d := ⟨fun K => (He.ga K "is_fence"), "is_fence", "is_fence", sFence⟩) rfl
  obtain ⟨oc_key, od_key, sl_key, kV_key, dc_key, pm_key, an_key, cd_key, ct_key, l_key, c_key⟩ := def_ 42 (d := ⟨fun K => (He.ga K "sorting_key"), "sorting_key", "sorting_key", sKeyS⟩) rfl
  obtain ⟨oc_ord, od_ord, sl_ord, kV_ord, dc_ord, pm_ord, an_ord, cd_ord, ct_ord, l_ord, c_ord⟩ := def_ 43 (d := ⟨fun K => (He.ga K "in_order"), "in_order", "in_order", sInOrd⟩) rfl
  obtain ⟨oc_layp, od_layp, sl_layp, kV_layp, dc_layp, pm_layp, an_layp, cd_layp, ct_layp, l_layp, c_layp⟩ := def_ 44 (d := ⟨fun K => (He.ga K "lay_piece"), "lay_piece", "lay_piece", sLayP⟩) rfl
  obtain ⟨oc_ahead, od_ahead, sl_ahead, kV_ahead, dc_ahead, pm_ahead, an_ahead, cd_ahead, ct_ahead, l_ahead, c_ahead⟩ := def_ 45 (d := ⟨fun K => (He.ga K "stands_ahead"), "stands_ahead", "stands_ahead", sAhead⟩) rfl
  obtain ⟨oc_run, od_run, sl_run, kV_run, dc_run, pm_run, an_run, cd_run, ct_run, l_run, c_run⟩ := def_ 46 (d := ⟨fun K => (He.ga K "run"), "run", "run", sRun⟩) rfl
  obtain ⟨oc_test, od_test, sl_test, kV_test, dc_test, pm_test, an_test, cd_test, ct_test, l_test, c_test⟩ := def_ 47 (d := ⟨fun K => (He.ga K "is_test"), "is_test", "is_test", sTest⟩) rfl
  obtain ⟨oc_deed, od_deed, sl_deed, kV_deed, dc_deed, pm_deed, an_deed, cd_deed, ct_deed, l_deed, c_deed⟩ := def_ 48 (d := ⟨fun K => (He.ga K "is_deed"), "is_deed", "is_deed", sDeed⟩) rfl
  obtain ⟨oc_areT, od_areT, sl_areT, kV_areT, dc_areT, pm_areT, an_areT, cd_areT, ct_areT, l_areT, c_areT⟩ := def_ 49 (d := ⟨fun K => (He.ga K "are_tests"), "are_tests", "are_tests", sAreT⟩) rfl
  obtain ⟨oc_areD, od_areD, sl_areD, kV_areD, dc_areD, pm_areD, an_areD, cd_areD, ct_areD, l_areD, c_areD⟩ := def_ 50 (d := ⟨fun K => (He.ga K "are_deeds"), "are_deeds", "are_deeds", sAreD⟩) rfl
  obtain ⟨oc_areR, od_areR, sl_areR, kV_areR, dc_areR, pm_areR, an_areR, cd_areR, ct_areR, l_areR, c_areR⟩ := def_ 51 (d := ⟨fun K => (He.ga K "are_rows"), "are_rows", "are_rows", sAreR⟩) rfl
  obtain ⟨oc_box, od_box, sl_box, kV_box, dc_box, pm_box, an_box, cd_box, ct_box, l_box, c_box⟩ := def_ 52 (d := ⟨fun K => (He.ga K "_law_box"), "_law_box", "_law_box", sBox⟩) rfl
  obtain ⟨oc_take, od_take, sl_take, kV_take, dc_take, pm_take, an_take, cd_take, ct_take, l_take, c_take⟩ := def_ 53 (d := ⟨fun K => (He.ga K "_law_take"), "_law_take", "_law_take", sTake⟩) rfl
  obtain ⟨oc_pick, od_pick, sl_pick, kV_pick, dc_pick, pm_pick, an_pick, cd_pick, ct_pick, l_pick, c_pick⟩ := def_ 54 (d := ⟨fun K => (He.ga K "_law_pick"), "_law_pick", "_law_pick", sPick⟩) rfl
  obtain ⟨oc_mixed, od_mixed, sl_mixed, kV_mixed, dc_mixed, pm_mixed, an_mixed, cd_mixed, ct_mixed, l_mixed, c_mixed⟩ := def_ 55 (d := ⟨fun K => (He.ga K "_law_mixed"), "_law_mixed", "_law_mixed", sMixed⟩) rfl
  obtain ⟨oc_lname, od_lname, sl_lname, kV_lname, dc_lname, pm_lname, an_lname, cd_lname, ct_lname, l_lname, c_lname⟩ := def_ 56 (d := ⟨fun K => (He.ga K "_law_name"), "_law_name", "_law_name", sLName⟩) rfl
  obtain ⟨oc_lpiece, od_lpiece, sl_lpiece, kV_lpiece, dc_lpiece, pm_lpiece, an_lpiece, cd_lpiece, ct_lpiece, l_lpiece, c_lpiece⟩ := def_ 57 (d := ⟨fun K => (He.ga K "_law_piece"), "_law_piece", "_law_piece", sLPiece⟩) rfl
  obtain ⟨oc_made, od_made, sl_made, kV_made, dc_made, pm_made, an_made, cd_made, ct_made, l_made, c_made⟩ := def_ 58 (d := ⟨fun K => (He.ga K "_law_made"), "_law_made", "_law_made", sLMade⟩) rfl
  obtain ⟨oc_ltest, od_ltest, sl_ltest, kV_ltest, dc_ltest, pm_ltest, an_ltest, cd_ltest, ct_ltest, l_ltest, c_ltest⟩ := def_ 59 (d := ⟨fun K => (He.ga K "_law_test"), "_law_test", "_law_test", sLTest⟩) rfl
  obtain ⟨oc_lrow, od_lrow, sl_lrow, kV_lrow, dc_lrow, pm_lrow, an_lrow, cd_lrow, ct_lrow, l_lrow, c_lrow⟩ := def_ 60 (d := ⟨fun K => (He.ga K "_law_row"), "_law_row", "_law_row", sLRow⟩) rfl
  obtain ⟨oc_ltool, od_ltool, sl_ltool, kV_ltool, dc_ltool, pm_ltool, an_ltool, cd_ltool, ct_ltool, l_ltool, c_ltool⟩ := def_ 61 (d := ⟨fun K => (He.ga K "_law_tool"), "_law_tool", "_law_tool", sLTool⟩) rfl
  obtain ⟨oc_lof, od_lof, sl_lof, kV_lof, dc_lof, pm_lof, an_lof, cd_lof, ct_lof, l_lof, c_lof⟩ := def_ 62 (d := ⟨fun K => (He.ga K "_law_tool_of"), "_law_tool_of", "_law_tool_of", sToolOf⟩) rfl
  obtain ⟨oc_lfence, od_lfence, sl_lfence, kV_lfence, dc_lfence, pm_lfence, an_lfence, cd_lfence, ct_lfence, l_lfence, c_lfence⟩ := def_ 63 (d := ⟨fun K => (He.ga K "_law_is_fence"), "_law_is_fence", "_law_is_fence", sLFence⟩) rfl
  obtain ⟨oc_lkey, od_lkey, sl_lkey, kV_lkey, dc_lkey, pm_lkey, an_lkey, cd_lkey, ct_lkey, l_lkey, c_lkey⟩ := def_ 64 (d := ⟨fun K => (He.ga K "_law_key"), "_law_key", "_law_key", sLKey⟩) rfl
  obtain ⟨oc_lsorted, od_lsorted, sl_lsorted, kV_lsorted, dc_lsorted, pm_lsorted, an_lsorted, cd_lsorted, ct_lsorted, l_lsorted, c_lsorted⟩ := def_ 65 (d := ⟨fun K => (He.ga K "_law_sorted"), "_law_sorted", "_law_sorted", sLSorted⟩) rfl
  obtain ⟨oc_turned, od_turned, sl_turned, kV_turned, dc_turned, pm_turned, an_turned, cd_turned, ct_turned, l_turned, c_turned⟩ := def_ 66 (d := ⟨fun K => (He.ga K "_law_turned"), "_law_turned", "_law_turned", sTurned⟩) rfl
  obtain ⟨oc_law, od_law, sl_law, kV_law, dc_law, pm_law, an_law, cd_law, ct_law, l_law, c_law⟩ := def_ 67 (d := ⟨fun K => (He.ga K "law"), "law", "law", sLaw⟩) rfl
  obtain ⟨fd_C, FC⟩ := ini_ 0 rfl
  obtain ⟨fd_CP, FCP⟩ := ini_ 1 rfl
  obtain ⟨fd_CR, FCR⟩ := ini_ 2 rfl
  obtain ⟨fd_CT, FCT⟩ := ini_ 3 rfl
  exact all_mk X G hfa
    (He.eqO_ok (exs 0 rfl))
    (of_decide_eq_true (exs 1 rfl))
    (glo_ns (fact 0 (f := .glo "Piece") rfl))
    (He.cls_ok (fact 1 (f := .cls "Piece") rfl))
    (He.eqO_ok (exs 2 rfl))
    (of_decide_eq_true (exs 3 rfl))
    (He.noat_ok (fact 2 (f := .noat "Piece" "word") rfl))
    (He.noat_ok (fact 3 (f := .noat "Piece" "parts") rfl))
    (He.noat_ok (fact 4 (f := .noat "Piece" "broken") rfl))
    (He.noat_ok (fact 5 (f := .noat "Piece" "marked") rfl))
    (He.noat_ok (fact 6 (f := .noat "Piece" "ahead") rfl))
    (He.noat_ok (fact 7 (f := .noat "Piece" "behind") rfl))
    (He.noat_ok (fact 8 (f := .noat "Piece" "blanks") rfl))
    (He.noat_ok (fact 9 (f := .noat "Piece" "left") rfl))
    (He.mkr_ok (fact 10 (f := .mkr "Piece") rfl))
    FC
    (He.meth_ok (fact 11 (f := .meth "Piece" "but") rfl)).at_
    (He.meth_ok (fact 11 (f := .meth "Piece" "but") rfl)).fn
    l_but
    c_but
    (He.meth_ok (fact 11 (f := .meth "Piece" "but") rfl)).kp
    (He.meth_ok (fact 12 (f := .meth "Piece" "__eq__") rfl)).at_
    (He.meth_ok (fact 12 (f := .meth "Piece" "__eq__") rfl)).fn
    l_eq
    c_eq
    (He.meth_ok (fact 12 (f := .meth "Piece" "__eq__") rfl)).kp
    (He.eqO_ok (exs 4 rfl))
    ⟨(He.eqO_ok (exs 5 rfl)), (He.eqO_ok (exs 6 rfl)), (of_decide_eq_true (exs 7 rfl)), prB_ok (exs 8 rfl)⟩
    l_bare
    c_bare
    (exs 9 rfl)
    (glo_ns (fact 13 (f := .glo "Program") rfl))
    (He.cls_ok (fact 14 (f := .cls "Program") rfl))
    (He.eqO_ok (exs 10 rfl))
    (of_decide_eq_true (exs 11 rfl))
    (He.noat_ok (fact 15 (f := .noat "Program" "pieces") rfl))
    (He.mkr_ok (fact 16 (f := .mkr "Program") rfl))
    FCP
    (emB_ok (exs 12 rfl))
    (He.meth_ok (fact 17 (f := .meth "Program" "__str__") rfl)).at_
    (He.meth_ok (fact 17 (f := .meth "Program" "__str__") rfl)).fn
    l_sP
    c_sP
    (He.meth_ok (fact 17 (f := .meth "Program" "__str__") rfl)).kp
    (He.meth_ok (fact 18 (f := .meth "Program" "__eq__") rfl)).at_
    (He.meth_ok (fact 18 (f := .meth "Program" "__eq__") rfl)).fn
    l_eqP
    c_eqP
    (He.meth_ok (fact 18 (f := .meth "Program" "__eq__") rfl)).kp
    (He.meth_ok (fact 19 (f := .meth "Program" "__len__") rfl)).at_
    (He.meth_ok (fact 19 (f := .meth "Program" "__len__") rfl)).fn
    l_lP
    c_lP
    (He.meth_ok (fact 19 (f := .meth "Program" "__len__") rfl)).kp
    (He.meth_ok (fact 20 (f := .meth "Program" "__getitem__") rfl)).at_
    (He.meth_ok (fact 20 (f := .meth "Program" "__getitem__") rfl)).fn
    l_gP
    c_gP
    (He.meth_ok (fact 20 (f := .meth "Program" "__getitem__") rfl)).kp
    (He.meth_ok (fact 21 (f := .meth "Program" "__add__") rfl)).at_
    (He.meth_ok (fact 21 (f := .meth "Program" "__add__") rfl)).fn
    l_aP
    c_aP
    (He.meth_ok (fact 21 (f := .meth "Program" "__add__") rfl)).kp
    (exs 13 rfl)
    (exs 14 rfl)
    (He.eqO_ok (exs 15 rfl))
    (glo_ns (fact 22 (f := .glo "Row") rfl))
    (He.cls_ok (fact 23 (f := .cls "Row") rfl))
    (He.eqO_ok (exs 16 rfl))
    (of_decide_eq_true (exs 17 rfl))
    (He.noat_ok (fact 24 (f := .noat "Row" "tests") rfl))
    (He.noat_ok (fact 25 (f := .noat "Row" "deeds") rfl))
    (He.mkr_ok (fact 26 (f := .mkr "Row") rfl))
    FCR
    (glo_ns (fact 27 (f := .glo "Tool") rfl))
    (He.cls_ok (fact 28 (f := .cls "Tool") rfl))
    (He.eqO_ok (exs 18 rfl))
    (of_decide_eq_true (exs 19 rfl))
    (He.noat_ok (fact 29 (f := .noat "Tool" "rows") rfl))
    (He.noat_ok (fact 30 (f := .noat "Tool" "sorts") rfl))
    (He.mkr_ok (fact 31 (f := .mkr "Tool") rfl))
    FCT
    (glo_ns (fact 32 (f := .glo "TESTS") rfl))
    (He.tupB_ok (exs 20 rfl))
    (glo_ns (fact 33 (f := .glo "DEEDS") rfl))
    (He.tupB_ok (exs 21 rfl))
    (He.int_ok X G (fact 34 (f := .int "SIGN_LENGTH" 4) rfl))
    (glo_ns (fact 35 (f := .glo "is_integer") rfl))
    l_int
    c_int
    (He.keep_ok (fact 36 (f := .keep "is_integer") rfl))
    (glo_ns (fact 37 (f := .glo "is_number") rfl))
    l_num
    c_num
    (He.keep_ok (fact 38 (f := .keep "is_number") rfl))
    (glo_ns (fact 39 (f := .glo "is_sequence") rfl))
    l_seq
    c_seq
    (He.keep_ok (fact 40 (f := .keep "is_sequence") rfl))
    (glo_ns (fact 41 (f := .glo "is_name") rfl))
    l_name
    c_name
    (He.keep_ok (fact 42 (f := .keep "is_name") rfl))
    (glo_ns (fact 43 (f := .glo "are_names") rfl))
    l_names
    c_names
    (He.keep_ok (fact 44 (f := .keep "are_names") rfl))
    (glo_ns (fact 45 (f := .glo "require") rfl))
    l_req
    c_req
    (He.keep_ok (fact 46 (f := .keep "require") rfl))
    (glo_ns (fact 47 (f := .glo "is_remark") rfl))
    l_rem
    c_rem
    (He.keep_ok (fact 48 (f := .keep "is_remark") rfl))
    (glo_ns (fact 49 (f := .glo "head_of") rfl))
    l_head
    c_head
    (He.keep_ok (fact 50 (f := .keep "head_of") rfl))
    (glo_ns (fact 51 (f := .glo "tail_of") rfl))
    l_tail
    c_tail
    (He.keep_ok (fact 52 (f := .keep "tail_of") rfl))
    (glo_ns (fact 53 (f := .glo "body_rows") rfl))
    l_body
    c_body
    (He.keep_ok (fact 54 (f := .keep "body_rows") rfl))
    (glo_ns (fact 55 (f := .glo "rows_of") rfl))
    l_rows
    c_rows
    (He.keep_ok (fact 56 (f := .keep "rows_of") rfl))
    (glo_ns (fact 57 (f := .glo "check_pieces") rfl))
    l_check
    c_check
    (He.keep_ok (fact 58 (f := .keep "check_pieces") rfl))
    (glo_ns (fact 59 (f := .glo "gap_of") rfl))
    l_gap
    c_gap
    (He.keep_ok (fact 60 (f := .keep "gap_of") rfl))
    (glo_ns (fact 61 (f := .glo "shape_of") rfl))
    l_shape
    c_shape
    (He.keep_ok (fact 62 (f := .keep "shape_of") rfl))
    (glo_ns (fact 63 (f := .glo "facts_of") rfl))
    l_facts
    c_facts
    (He.keep_ok (fact 64 (f := .keep "facts_of") rfl))
    (glo_ns (fact 65 (f := .glo "facts_of_piece") rfl))
    l_fp
    c_fp
    (He.keep_ok (fact 66 (f := .keep "facts_of_piece") rfl))
    (glo_ns (fact 67 (f := .glo "bits_of") rfl))
    l_bits
    c_bits
    (He.keep_ok (fact 68 (f := .keep "bits_of") rfl))
    (glo_ns (fact 69 (f := .glo "lanes_of") rfl))
    l_lanes
    c_lanes
    (He.keep_ok (fact 70 (f := .keep "lanes_of") rfl))
    (glo_ns (fact 71 (f := .glo "shape_in") rfl))
    l_shin
    c_shin
    (He.keep_ok (fact 72 (f := .keep "shape_in") rfl))
    (glo_ns (fact 73 (f := .glo "put_behind") rfl))
    l_beh
    c_beh
    (He.keep_ok (fact 74 (f := .keep "put_behind") rfl))
    (glo_ns (fact 75 (f := .glo "where_long") rfl))
    l_long
    c_long
    (He.keep_ok (fact 76 (f := .keep "where_long") rfl))
    (glo_ns (fact 77 (f := .glo "where_holds") rfl))
    l_holds
    c_holds
    (He.keep_ok (fact 78 (f := .keep "where_holds") rfl))
    (glo_ns (fact 79 (f := .glo "where_done") rfl))
    l_done
    c_done
    (He.keep_ok (fact 80 (f := .keep "where_done") rfl))
    (glo_ns (fact 81 (f := .glo "do_break") rfl))
    l_dbreak
    c_dbreak
    (He.keep_ok (fact 82 (f := .keep "do_break") rfl))
    (glo_ns (fact 83 (f := .glo "do_join") rfl))
    l_djoin
    c_djoin
    (He.keep_ok (fact 84 (f := .keep "do_join") rfl))
    (glo_ns (fact 85 (f := .glo "do_mark") rfl))
    l_dmark
    c_dmark
    (He.keep_ok (fact 86 (f := .keep "do_mark") rfl))
    (glo_ns (fact 87 (f := .glo "do_unmark") rfl))
    l_dunmark
    c_dunmark
    (He.keep_ok (fact 88 (f := .keep "do_unmark") rfl))
    (glo_ns (fact 89 (f := .glo "do_lift") rfl))
    l_dlift
    c_dlift
    (He.keep_ok (fact 90 (f := .keep "do_lift") rfl))
    (glo_ns (fact 91 (f := .glo "do_lower") rfl))
    l_dlower
    c_dlower
    (He.keep_ok (fact 92 (f := .keep "do_lower") rfl))
    (glo_ns (fact 93 (f := .glo "do_space") rfl))
    l_dspace
    c_dspace
    (He.keep_ok (fact 94 (f := .keep "do_space") rfl))
    (glo_ns (fact 95 (f := .glo "do_close") rfl))
    l_dclose
    c_dclose
    (He.keep_ok (fact 96 (f := .keep "do_close") rfl))
    (glo_ns (fact 97 (f := .glo "do_row") rfl))
    l_row
    c_row
    (He.keep_ok (fact 98 (f := .keep "do_row") rfl))
    (glo_ns (fact 99 (f := .glo "rows_done") rfl))
    l_rdone
    c_rdone
    (He.keep_ok (fact 100 (f := .keep "rows_done") rfl))
    (glo_ns (fact 101 (f := .glo "is_fence") rfl))
    l_fence
    c_fence
    (He.keep_ok (fact 102 (f := .keep "is_fence") rfl))
    (glo_ns (fact 103 (f := .glo "sorting_key") rfl))
    l_key
    c_key
    (He.keep_ok (fact 104 (f := .keep "sorting_key") rfl))
    (glo_ns (fact 105 (f := .glo "in_order") rfl))
    l_ord
    c_ord
    (He.keep_ok (fact 106 (f := .keep "in_order") rfl))
    (glo_ns (fact 107 (f := .glo "lay_piece") rfl))
    l_layp
    c_layp
    (He.keep_ok (fact 108 (f := .keep "lay_piece") rfl))
    (glo_ns (fact 109 (f := .glo "stands_ahead") rfl))
    l_ahead
    c_ahead
    (He.keep_ok (fact 110 (f := .keep "stands_ahead") rfl))
    (glo_ns (fact 111 (f := .glo "run") rfl))
    l_run
    c_run
    (He.keep_ok (fact 112 (f := .keep "run") rfl))
    (glo_ns (fact 113 (f := .glo "is_test") rfl))
    l_test
    c_test
    (He.keep_ok (fact 114 (f := .keep "is_test") rfl))
    (glo_ns (fact 115 (f := .glo "is_deed") rfl))
    l_deed
    c_deed
    (He.keep_ok (fact 116 (f := .keep "is_deed") rfl))
    (glo_ns (fact 117 (f := .glo "are_tests") rfl))
    l_areT
    c_areT
    (He.keep_ok (fact 118 (f := .keep "are_tests") rfl))
    (glo_ns (fact 119 (f := .glo "are_deeds") rfl))
    l_areD
    c_areD
    (He.keep_ok (fact 120 (f := .keep "are_deeds") rfl))
    (glo_ns (fact 121 (f := .glo "are_rows") rfl))
    l_areR
    c_areR
    (He.keep_ok (fact 122 (f := .keep "are_rows") rfl))
    (glo_ns (fact 123 (f := .glo "_law_box") rfl))
    l_box
    c_box
    (He.keep_ok (fact 124 (f := .keep "_law_box") rfl))
    (glo_ns (fact 125 (f := .glo "_law_take") rfl))
    l_take
    c_take
    (He.keep_ok (fact 126 (f := .keep "_law_take") rfl))
    (glo_ns (fact 127 (f := .glo "_law_pick") rfl))
    l_pick
    c_pick
    (He.keep_ok (fact 128 (f := .keep "_law_pick") rfl))
    (glo_ns (fact 129 (f := .glo "_law_mixed") rfl))
    l_mixed
    c_mixed
    (He.keep_ok (fact 130 (f := .keep "_law_mixed") rfl))
    (glo_ns (fact 131 (f := .glo "_law_name") rfl))
    l_lname
    c_lname
    (He.keep_ok (fact 132 (f := .keep "_law_name") rfl))
    (glo_ns (fact 133 (f := .glo "_law_piece") rfl))
    l_lpiece
    c_lpiece
    (He.keep_ok (fact 134 (f := .keep "_law_piece") rfl))
    (glo_ns (fact 135 (f := .glo "_law_made") rfl))
    l_made
    c_made
    (He.keep_ok (fact 136 (f := .keep "_law_made") rfl))
    (glo_ns (fact 137 (f := .glo "_law_test") rfl))
    l_ltest
    c_ltest
    (He.keep_ok (fact 138 (f := .keep "_law_test") rfl))
    (glo_ns (fact 139 (f := .glo "_law_row") rfl))
    l_lrow
    c_lrow
    (He.keep_ok (fact 140 (f := .keep "_law_row") rfl))
    (glo_ns (fact 141 (f := .glo "_law_tool") rfl))
    l_ltool
    c_ltool
    (He.keep_ok (fact 142 (f := .keep "_law_tool") rfl))
    (glo_ns (fact 143 (f := .glo "_law_tool_of") rfl))
    l_lof
    c_lof
    (He.keep_ok (fact 144 (f := .keep "_law_tool_of") rfl))
    (glo_ns (fact 145 (f := .glo "_law_is_fence") rfl))
    l_lfence
    c_lfence
    (He.keep_ok (fact 146 (f := .keep "_law_is_fence") rfl))
    (glo_ns (fact 147 (f := .glo "_law_key") rfl))
    l_lkey
    c_lkey
    (He.keep_ok (fact 148 (f := .keep "_law_key") rfl))
    (glo_ns (fact 149 (f := .glo "_law_sorted") rfl))
    l_lsorted
    c_lsorted
    (He.keep_ok (fact 150 (f := .keep "_law_sorted") rfl))
    (glo_ns (fact 151 (f := .glo "_law_turned") rfl))
    l_turned
    c_turned
    (He.keep_ok (fact 152 (f := .keep "_law_turned") rfl))
    (glo_ns (fact 153 (f := .glo "law") rfl))
    l_law
    c_law
    (He.keep_ok (fact 154 (f := .keep "law") rfl))
    (glo_ns (fact 155 (f := .glo "DOING") rfl))
    KD.at_
    KD.lit
    (He.eqO_ok (exs 22 rfl))
    (He.eqO_ok (exs 23 rfl))
    (He.eqO_ok (exs 24 rfl))
    (He.eqO_ok (exs 25 rfl))
    (He.eqO_ok (exs 26 rfl))
    (He.eqO_ok (exs 27 rfl))
    (He.eqO_ok (exs 28 rfl))
    (He.eqO_ok (exs 29 rfl))
    (free_ns (fact 156 (f := .free "int") rfl))
    (free_ns (fact 157 (f := .free "bool") rfl))
    (free_ns (fact 158 (f := .free "str") rfl))
    (free_ns (fact 159 (f := .free "list") rfl))
    (free_ns (fact 160 (f := .free "tuple") rfl))
    (free_ns (fact 161 (f := .free "dict") rfl))
    (free_ns (fact 162 (f := .free "isinstance") rfl))
    (free_ns (fact 163 (f := .free "len") rfl))
    (free_ns (fact 164 (f := .free "all") rfl))
    (free_ns (fact 165 (f := .free "any") rfl))
    (free_ns (fact 166 (f := .free "abs") rfl))
    (free_ns (fact 167 (f := .free "range") rfl))
    (free_ns (fact 168 (f := .free "enumerate") rfl))
    (free_ns (fact 169 (f := .free "zip") rfl))
    (free_ns (fact 170 (f := .free "max") rfl))
    (free_ns (fact 171 (f := .free "min") rfl))
    (free_ns (fact 172 (f := .free "repr") rfl))
    (free_ns (fact 173 (f := .free "sorted") rfl))
end LayH
open PySem PySem.W PyProof.Rows
set_option Elab.async false
set_option maxRecDepth 100000
set_option maxHeartbeats 0
theorem PySem.Challenge.cw_laytwice_k65_whole_sorting_holds : PySem.Challenge.rw_laytwice_k65_whole_sorting.Holds := by
  w_on; o_law
  refine HandSHeadRun.head_any (r := OpenLaw.row PySem.Challenge.rw_laytwice_k65_whole_sorting) (q := LayH.qv) (H := LayH.hk) (ob := LayH.ob) (M := 40000) (loose := LayH.names) (d := HandSHeadRun.topDef (OpenLaw.row PySem.Challenge.rw_laytwice_k65_whole_sorting).prog 95) (kwd := []) LayH.ob_eq
    (by kernel_rfl) (fun s => by kernel_rfl) LayH.run (by kernel_rfl) (by kernel_rfl) (by kernel_rfl) (by rfl) (by first | assumption | decide +kernel) (by decide +kernel) ⟨rfl, rfl, rfl, rfl, rfl, by decide +kernel⟩ ?hw ?hc
  case hw => w_witness2
  case hc =>
    refine L2.walk_ofE (l := PySem.Challenge.rw_laytwice_k65_whole_sorting) (n := 63) (k := 9) (CX := L2.CX0) (x := "_law_script") rfl (by decide) (by kernel_rfl) ⟨rfl, by decide, by decide⟩ ?F (fun _ _ _ _ z => z.elim)
    intro w mg fa h Y G hmg0
    obtain ⟨K, KX, c⟩ := Y
    have hmg : mg ("law" : PySem.Str) = some (.ref fa) := by
      have e : (HandSHeadRun.topDef (OpenLaw.row PySem.Challenge.rw_laytwice_k65_whole_sorting).prog 95).name = ("law" : PySem.Str) := by kernel_rfl
      rw [← e]
      exact hmg0
    obtain ⟨fd, hb, hF⟩ := LayH.facts (l := PySem.Challenge.rw_laytwice_k65_whole_sorting) (w := w) KX G hmg c
    exact ⟨K, fd, Lay.spLaw K, KX, hb, fun H a ns hl _ hS => ⟨a, ns, rfl, hS, hl, fun _ => rfl⟩, hF⟩
