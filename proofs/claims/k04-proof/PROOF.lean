import PyProof.Rows.All
import Wide.All
import OpenK.AllK
import Wide.FinOn
import HandS.ForMost
import HandS.ForExc
import HandS.Defaults
import HandS.ExcInit
import HandS.ExcField
import HandS.ClsMeth
import HandS.HeadHook1
import HandS.HeadHook2
import HandS.HeadHook3
import HandS.HeadHook4
import HandS.Slots
import HandS.SlotsOwn
import KE.KStateDown
import HandS.Head0
import HandS.Head1
import HandS.Head2
import HandS.HeadEnd
import HandS.FStr
import HandS.StrMore
import HandS.Style
import HandS.Translate
import HandS.Replace
import HandS.ReplaceLit
import HandS.ReplaceDef
import HandS.Walk
import PyProof.EnumMake
import PyProof.Draws
import KE.GoesMore
import HandS.Evl
import HandS.Iter
import HandS.More
import HandS.ReplaceList
import PyProof.NeKinds
import HandS.Dict
import HandS.Rev
import HandS.IsInst
import HandS.Base
import HandS.Call
import HandS.Conv
import HandS.Wide
import PySem.Challenge.RW_pathloom_k04_whole_signs_kept
set_option Elab.async false
set_option linter.all false
set_option maxRecDepth 100000
set_option maxHeartbeats 0
/-! PXText -/
namespace PX
open PySem PySem.Spec PyProof.Rows L2
/-! ### the text -/
def top (i : Nat) : Stmt := PySem.Challenge.pw_pathloom_k04_whole_signs_kept.main.body.getD i (.Pass ⟨0, 0, 0, 0⟩)

abbrev s_markup_of : Stmt := top 1
abbrev s_tag_of : Stmt := top 2
abbrev s_attribute_markup : Stmt := top 3
abbrev s_text_markup : Stmt := top 4
abbrev s_instruction_markup : Stmt := top 5
abbrev s_TreeError_init : Stmt := inClass (top 7) 0
abbrev s_BadValue_init : Stmt := inClass (top 8) 0
abbrev s_NotDocument_init : Stmt := inClass (top 9) 0
abbrev s_Node_init : Stmt := inClass (top 11) 1
abbrev s_Node_put_attribute : Stmt := inClass (top 11) 2
abbrev s_Node_put_child : Stmt := inClass (top 11) 3
abbrev s_Tree_init : Stmt := inClass (top 12) 0
abbrev s_nodes_in : Stmt := top 13
abbrev s_string_value : Stmt := top 14
abbrev s_check_tree : Stmt := top 15
abbrev s_write : Stmt := top 17
abbrev s_end_of_run : Stmt := top 24
abbrev s_words_alone : Stmt := top 25
abbrev s_is_blank : Stmt := top 26
abbrev s_is_sign : Stmt := top 27
abbrev s_end_of_signs : Stmt := top 28
abbrev s_is_plain : Stmt := top 29
abbrev s_begins_word : Stmt := top 30
abbrev s_referred_sign : Stmt := top 31
abbrev s_leads_to_sign : Stmt := top 32
abbrev s_is_beginning : Stmt := top 33
abbrev s_Scanner_init : Stmt := inClass (top 38) 0
abbrev s_Scanner_peek : Stmt := inClass (top 38) 1
abbrev s_Scanner_expect : Stmt := inClass (top 38) 2
abbrev s_Scanner_read_one_of : Stmt := inClass (top 38) 3
abbrev s_Scanner_read_up_to : Stmt := inClass (top 38) 4
abbrev s_Scanner_read_blanks : Stmt := inClass (top 38) 5
abbrev s_Scanner_read_name : Stmt := inClass (top 38) 6
abbrev s_Scanner_read_plain : Stmt := inClass (top 38) 7
abbrev s_Scanner_read_reference : Stmt := inClass (top 38) 8
abbrev s_Scanner_read_numbered_reference : Stmt := inClass (top 38) 9
abbrev s_Scanner_read_digit : Stmt := inClass (top 38) 10
abbrev s_Scanner_read_attribute_text : Stmt := inClass (top 38) 11
abbrev s_read : Stmt := top 40
abbrev s_Reader_init : Stmt := inClass (top 41) 0
abbrev s_Reader_read_document : Stmt := inClass (top 41) 1
abbrev s_Reader_read_declaration : Stmt := inClass (top 41) 2
abbrev s_Reader_read_part_around : Stmt := inClass (top 41) 3
abbrev s_Reader_read_part_of_content : Stmt := inClass (top 41) 4
abbrev s_Reader_read_markup : Stmt := inClass (top 41) 5
abbrev s_Reader_read_comment_or_cdata : Stmt := inClass (top 41) 6
abbrev s_Reader_read_comment : Stmt := inClass (top 41) 7
abbrev s_Reader_read_instruction : Stmt := inClass (top 41) 8
abbrev s_Reader_read_tag : Stmt := inClass (top 41) 9
abbrev s_Reader_read_attributes : Stmt := inClass (top 41) 10
abbrev s_Reader_read_end_tag : Stmt := inClass (top 41) 11
abbrev s_Reader_put : Stmt := inClass (top 41) 12
abbrev s_Reader_put_text : Stmt := inClass (top 41) 13
abbrev s_string_at : Stmt := top 43
abbrev s_node_at : Stmt := top 44
abbrev s_node_in : Stmt := top 45
abbrev s_node_under : Stmt := top 46
abbrev s_Lcell_at : Stmt := top 48
abbrev s_Lwell : Stmt := top 49
abbrev s_Ldraw : Stmt := top 50
abbrev s_Lpick : Stmt := top 51
abbrev s_Lsigns : Stmt := top 52
abbrev s_Lreferred : Stmt := top 53
abbrev s_Lplain : Stmt := top 54
abbrev s_law : Stmt := top 55
def d_markup_of : He.DefD := ⟨("markup_of", none), "markup_of", "markup_of", defArgs s_markup_of, defBody s_markup_of, defScope s_markup_of, [], []⟩
def d_tag_of : He.DefD := ⟨("tag_of", none), "tag_of", "tag_of", defArgs s_tag_of, defBody s_tag_of, defScope s_tag_of, [], []⟩
def d_attribute_markup : He.DefD := ⟨("attribute_markup", none), "attribute_markup", "attribute_markup", defArgs s_attribute_markup, defBody s_attribute_markup, defScope s_attribute_markup, [], []⟩
def d_text_markup : He.DefD := ⟨("text_markup", none), "text_markup", "text_markup", defArgs s_text_markup, defBody s_text_markup, defScope s_text_markup, [], []⟩
def d_instruction_markup : He.DefD := ⟨("instruction_markup", none), "instruction_markup", "instruction_markup", defArgs s_instruction_markup, defBody s_instruction_markup, defScope s_instruction_markup, [], []⟩
def d_TreeError_init : He.DefD := ⟨("TreeError", some "__init__"), "__init__", "TreeError.__init__", defArgs s_TreeError_init, defBody s_TreeError_init, defScope s_TreeError_init, [.str ""], []⟩
def d_BadValue_init : He.DefD := ⟨("BadValue", some "__init__"), "__init__", "BadValue.__init__", defArgs s_BadValue_init, defBody s_BadValue_init, defScope s_BadValue_init, [.str ""], []⟩
def d_NotDocument_init : He.DefD := ⟨("NotDocument", some "__init__"), "__init__", "NotDocument.__init__", defArgs s_NotDocument_init, defBody s_NotDocument_init, defScope s_NotDocument_init, [], []⟩
def d_Node_init : He.DefD := ⟨("Node", some "__init__"), "__init__", "Node.__init__", defArgs s_Node_init, defBody s_Node_init, defScope s_Node_init, [], []⟩
def d_Node_put_attribute : He.DefD := ⟨("Node", some "put_attribute"), "put_attribute", "Node.put_attribute", defArgs s_Node_put_attribute, defBody s_Node_put_attribute, defScope s_Node_put_attribute, [], []⟩
def d_Node_put_child : He.DefD := ⟨("Node", some "put_child"), "put_child", "Node.put_child", defArgs s_Node_put_child, defBody s_Node_put_child, defScope s_Node_put_child, [], []⟩
def d_Tree_init : He.DefD := ⟨("Tree", some "__init__"), "__init__", "Tree.__init__", defArgs s_Tree_init, defBody s_Tree_init, defScope s_Tree_init, [], []⟩
def d_nodes_in : He.DefD := ⟨("nodes_in", none), "nodes_in", "nodes_in", defArgs s_nodes_in, defBody s_nodes_in, defScope s_nodes_in, [], []⟩
def d_string_value : He.DefD := ⟨("string_value", none), "string_value", "string_value", defArgs s_string_value, defBody s_string_value, defScope s_string_value, [], []⟩
def d_check_tree : He.DefD := ⟨("check_tree", none), "check_tree", "check_tree", defArgs s_check_tree, defBody s_check_tree, defScope s_check_tree, [], []⟩
def d_write : He.DefD := ⟨("write", none), "write", "write", defArgs s_write, defBody s_write, defScope s_write, [], []⟩
def d_end_of_run : He.DefD := ⟨("end_of_run", none), "end_of_run", "end_of_run", defArgs s_end_of_run, defBody s_end_of_run, defScope s_end_of_run, [], []⟩
def d_words_alone : He.DefD := ⟨("words_alone", none), "words_alone", "words_alone", defArgs s_words_alone, defBody s_words_alone, defScope s_words_alone, [], []⟩
def d_is_blank : He.DefD := ⟨("is_blank", none), "is_blank", "is_blank", defArgs s_is_blank, defBody s_is_blank, defScope s_is_blank, [], []⟩
def d_is_sign : He.DefD := ⟨("is_sign", none), "is_sign", "is_sign", defArgs s_is_sign, defBody s_is_sign, defScope s_is_sign, [], []⟩
def d_end_of_signs : He.DefD := ⟨("end_of_signs", none), "end_of_signs", "end_of_signs", defArgs s_end_of_signs, defBody s_end_of_signs, defScope s_end_of_signs, [], []⟩
def d_is_plain : He.DefD := ⟨("is_plain", none), "is_plain", "is_plain", defArgs s_is_plain, defBody s_is_plain, defScope s_is_plain, [], []⟩
def d_begins_word : He.DefD := ⟨("begins_word", none), "begins_word", "begins_word", defArgs s_begins_word, defBody s_begins_word, defScope s_begins_word, [], []⟩
def d_referred_sign : He.DefD := ⟨("referred_sign", none), "referred_sign", "referred_sign", defArgs s_referred_sign, defBody s_referred_sign, defScope s_referred_sign, [], []⟩
def d_leads_to_sign : He.DefD := ⟨("leads_to_sign", none), "leads_to_sign", "leads_to_sign", defArgs s_leads_to_sign, defBody s_leads_to_sign, defScope s_leads_to_sign, [], []⟩
def d_is_beginning : He.DefD := ⟨("is_beginning", none), "is_beginning", "is_beginning", defArgs s_is_beginning, defBody s_is_beginning, defScope s_is_beginning, [], []⟩
def d_Scanner_init : He.DefD := ⟨("Scanner", some "__init__"), "__init__", "Scanner.__init__", defArgs s_Scanner_init, defBody s_Scanner_init, defScope s_Scanner_init, [], []⟩
def d_Scanner_peek : He.DefD := ⟨("Scanner", some "peek"), "peek", "Scanner.peek", defArgs s_Scanner_peek, defBody s_Scanner_peek, defScope s_Scanner_peek, [], []⟩
def d_Scanner_expect : He.DefD := ⟨("Scanner", some "expect"), "expect", "Scanner.expect", defArgs s_Scanner_expect, defBody s_Scanner_expect, defScope s_Scanner_expect, [], []⟩
def d_Scanner_read_one_of : He.DefD := ⟨("Scanner", some "read_one_of"), "read_one_of", "Scanner.read_one_of", defArgs s_Scanner_read_one_of, defBody s_Scanner_read_one_of, defScope s_Scanner_read_one_of, [], []⟩
def d_Scanner_read_up_to : He.DefD := ⟨("Scanner", some "read_up_to"), "read_up_to", "Scanner.read_up_to", defArgs s_Scanner_read_up_to, defBody s_Scanner_read_up_to, defScope s_Scanner_read_up_to, [], []⟩
def d_Scanner_read_blanks : He.DefD := ⟨("Scanner", some "read_blanks"), "read_blanks", "Scanner.read_blanks", defArgs s_Scanner_read_blanks, defBody s_Scanner_read_blanks, defScope s_Scanner_read_blanks, [], []⟩
def d_Scanner_read_name : He.DefD := ⟨("Scanner", some "read_name"), "read_name", "Scanner.read_name", defArgs s_Scanner_read_name, defBody s_Scanner_read_name, defScope s_Scanner_read_name, [], []⟩
def d_Scanner_read_plain : He.DefD := ⟨("Scanner", some "read_plain"), "read_plain", "Scanner.read_plain", defArgs s_Scanner_read_plain, defBody s_Scanner_read_plain, defScope s_Scanner_read_plain, [], []⟩
def d_Scanner_read_reference : He.DefD := ⟨("Scanner", some "read_reference"), "read_reference", "Scanner.read_reference", defArgs s_Scanner_read_reference, defBody s_Scanner_read_reference, defScope s_Scanner_read_reference, [], []⟩
def d_Scanner_read_numbered_reference : He.DefD := ⟨("Scanner", some "read_numbered_reference"), "read_numbered_reference", "Scanner.read_numbered_reference", defArgs s_Scanner_read_numbered_reference, defBody s_Scanner_read_numbered_reference, defScope s_Scanner_read_numbered_reference, [], []⟩
def d_Scanner_read_digit : He.DefD := ⟨("Scanner", some "read_digit"), "read_digit", "Scanner.read_digit", defArgs s_Scanner_read_digit, defBody s_Scanner_read_digit, defScope s_Scanner_read_digit, [], []⟩
def d_Scanner_read_attribute_text : He.DefD := ⟨("Scanner", some "read_attribute_text"), "read_attribute_text", "Scanner.read_attribute_text", defArgs s_Scanner_read_attribute_text, defBody s_Scanner_read_attribute_text, defScope s_Scanner_read_attribute_text, [], []⟩
def d_read : He.DefD := ⟨("read", none), "read", "read", defArgs s_read, defBody s_read, defScope s_read, [], []⟩
def d_Reader_init : He.DefD := ⟨("Reader", some "__init__"), "__init__", "Reader.__init__", defArgs s_Reader_init, defBody s_Reader_init, defScope s_Reader_init, [], []⟩
def d_Reader_read_document : He.DefD := ⟨("Reader", some "read_document"), "read_document", "Reader.read_document", defArgs s_Reader_read_document, defBody s_Reader_read_document, defScope s_Reader_read_document, [], []⟩
def d_Reader_read_declaration : He.DefD := ⟨("Reader", some "read_declaration"), "read_declaration", "Reader.read_declaration", defArgs s_Reader_read_declaration, defBody s_Reader_read_declaration, defScope s_Reader_read_declaration, [], []⟩
def d_Reader_read_part_around : He.DefD := ⟨("Reader", some "read_part_around"), "read_part_around", "Reader.read_part_around", defArgs s_Reader_read_part_around, defBody s_Reader_read_part_around, defScope s_Reader_read_part_around, [], []⟩
def d_Reader_read_part_of_content : He.DefD := ⟨("Reader", some "read_part_of_content"), "read_part_of_content", "Reader.read_part_of_content", defArgs s_Reader_read_part_of_content, defBody s_Reader_read_part_of_content, defScope s_Reader_read_part_of_content, [], []⟩
def d_Reader_read_markup : He.DefD := ⟨("Reader", some "read_markup"), "read_markup", "Reader.read_markup", defArgs s_Reader_read_markup, defBody s_Reader_read_markup, defScope s_Reader_read_markup, [], []⟩
def d_Reader_read_comment_or_cdata : He.DefD := ⟨("Reader", some "read_comment_or_cdata"), "read_comment_or_cdata", "Reader.read_comment_or_cdata", defArgs s_Reader_read_comment_or_cdata, defBody s_Reader_read_comment_or_cdata, defScope s_Reader_read_comment_or_cdata, [], []⟩
def d_Reader_read_comment : He.DefD := ⟨("Reader", some "read_comment"), "read_comment", "Reader.read_comment", defArgs s_Reader_read_comment, defBody s_Reader_read_comment, defScope s_Reader_read_comment, [], []⟩
def d_Reader_read_instruction : He.DefD := ⟨("Reader", some "read_instruction"), "read_instruction", "Reader.read_instruction", defArgs s_Reader_read_instruction, defBody s_Reader_read_instruction, defScope s_Reader_read_instruction, [], []⟩
def d_Reader_read_tag : He.DefD := ⟨("Reader", some "read_tag"), "read_tag", "Reader.read_tag", defArgs s_Reader_read_tag, defBody s_Reader_read_tag, defScope s_Reader_read_tag, [], []⟩
def d_Reader_read_attributes : He.DefD := ⟨("Reader", some "read_attributes"), "read_attributes", "Reader.read_attributes", defArgs s_Reader_read_attributes, defBody s_Reader_read_attributes, defScope s_Reader_read_attributes, [], []⟩
def d_Reader_read_end_tag : He.DefD := ⟨("Reader", some "read_end_tag"), "read_end_tag", "Reader.read_end_tag", defArgs s_Reader_read_end_tag, defBody s_Reader_read_end_tag, defScope s_Reader_read_end_tag, [], []⟩
def d_Reader_put : He.DefD := ⟨("Reader", some "put"), "put", "Reader.put", defArgs s_Reader_put, defBody s_Reader_put, defScope s_Reader_put, [], []⟩
def d_Reader_put_text : He.DefD := ⟨("Reader", some "put_text"), "put_text", "Reader.put_text", defArgs s_Reader_put_text, defBody s_Reader_put_text, defScope s_Reader_put_text, [], []⟩
def d_string_at : He.DefD := ⟨("string_at", none), "string_at", "string_at", defArgs s_string_at, defBody s_string_at, defScope s_string_at, [], []⟩
def d_node_at : He.DefD := ⟨("node_at", none), "node_at", "node_at", defArgs s_node_at, defBody s_node_at, defScope s_node_at, [], []⟩
def d_node_in : He.DefD := ⟨("node_in", none), "node_in", "node_in", defArgs s_node_in, defBody s_node_in, defScope s_node_in, [], []⟩
def d_node_under : He.DefD := ⟨("node_under", none), "node_under", "node_under", defArgs s_node_under, defBody s_node_under, defScope s_node_under, [], []⟩
def d_Lcell_at : He.DefD := ⟨("_law_cell_at", none), "_law_cell_at", "_law_cell_at", defArgs s_Lcell_at, defBody s_Lcell_at, defScope s_Lcell_at, [], []⟩
def d_Lwell : He.DefD := ⟨("_law_well", none), "_law_well", "_law_well", defArgs s_Lwell, defBody s_Lwell, defScope s_Lwell, [], []⟩
def d_Ldraw : He.DefD := ⟨("_law_draw", none), "_law_draw", "_law_draw", defArgs s_Ldraw, defBody s_Ldraw, defScope s_Ldraw, [], []⟩
def d_Lpick : He.DefD := ⟨("_law_pick", none), "_law_pick", "_law_pick", defArgs s_Lpick, defBody s_Lpick, defScope s_Lpick, [], []⟩
def d_Lsigns : He.DefD := ⟨("_law_signs", none), "_law_signs", "_law_signs", defArgs s_Lsigns, defBody s_Lsigns, defScope s_Lsigns, [], []⟩
def d_Lreferred : He.DefD := ⟨("_law_referred", none), "_law_referred", "_law_referred", defArgs s_Lreferred, defBody s_Lreferred, defScope s_Lreferred, [], []⟩
def d_Lplain : He.DefD := ⟨("_law_plain", none), "_law_plain", "_law_plain", defArgs s_Lplain, defBody s_Lplain, defScope s_Lplain, [], []⟩
def d_law : He.DefD := ⟨("law", none), "law", "law", defArgs s_law, defBody s_law, defScope s_law, [], []⟩
def fn : List He.DefD := [d_markup_of, d_tag_of, d_attribute_markup, d_text_markup, d_instruction_markup, d_TreeError_init, d_BadValue_init, d_NotDocument_init, d_Node_init, d_Node_put_attribute, d_Node_put_child, d_Tree_init, d_nodes_in, d_string_value, d_check_tree, d_write, d_end_of_run, d_words_alone, d_is_blank, d_is_sign, d_end_of_signs, d_is_plain, d_begins_word, d_referred_sign, d_leads_to_sign, d_is_beginning, d_Scanner_init, d_Scanner_peek, d_Scanner_expect, d_Scanner_read_one_of, d_Scanner_read_up_to, d_Scanner_read_blanks, d_Scanner_read_name, d_Scanner_read_plain, d_Scanner_read_reference, d_Scanner_read_numbered_reference, d_Scanner_read_digit, d_Scanner_read_attribute_text, d_read, d_Reader_init, d_Reader_read_document, d_Reader_read_declaration, d_Reader_read_part_around, d_Reader_read_part_of_content, d_Reader_read_markup, d_Reader_read_comment_or_cdata, d_Reader_read_comment, d_Reader_read_instruction, d_Reader_read_tag, d_Reader_read_attributes, d_Reader_read_end_tag, d_Reader_put, d_Reader_put_text, d_string_at, d_node_at, d_node_in, d_node_under, d_Lcell_at, d_Lwell, d_Ldraw, d_Lpick, d_Lsigns, d_Lreferred, d_Lplain, d_law]
def fa : List He.Fa := [.glo "markup_of", .glo "tag_of", .glo "attribute_markup", .glo "text_markup", .glo "instruction_markup", .glo "TreeError", .glo "BadValue", .glo "NotDocument", .glo "Node", .glo "Tree", .glo "nodes_in", .glo "string_value", .glo "check_tree", .glo "write", .glo "end_of_run", .glo "words_alone", .glo "is_blank", .glo "is_sign", .glo "end_of_signs", .glo "is_plain", .glo "begins_word", .glo "referred_sign", .glo "leads_to_sign", .glo "is_beginning", .glo "Scanner", .glo "read", .glo "Reader", .glo "string_at", .glo "node_at", .glo "node_in", .glo "node_under", .glo "_law_cell_at", .glo "_law_well", .glo "_law_draw", .glo "_law_pick", .glo "_law_signs", .glo "_law_referred", .glo "_law_plain", .glo "law", .glo "WORDS_ALONE", .glo "NAMED_SIGNS", .free "bool", .free "enumerate", .free "int", .free "isinstance", .free "len", .free "list", .free "ord", .free "range", .free "str", .free "tuple", .str "REFERABLE" "\t\n !\"#$&'()*+,-./0123456789:;<=>?@ABCDEFGHIJKLMNOPQRSTUVWXYZ[\\]^_`abcdefghijklmnopqrstuvwxyz{|}~", .str "BLANKS" " \t\n", .str "FIRST_SIGNS" "_ABCDEFGHIJKLMNOPQRSTUVWXYZabcdefghijklmnopqrstuvwxyz", .str "DECIMAL" "0123456789", .str "HEXADECIMAL" "0123456789abcdef", .int "PIECE" 32, .mkr "Node", .meth "Node" "put_attribute", .meth "Node" "put_child", .cls "Tree", .mkr "Tree", .noat "Tree" "root", .noat "Tree" "number", .noat "Tree" "nodes", .cls "Scanner", .mkr "Scanner", .noat "Scanner" "text", .noat "Scanner" "words", .noat "Scanner" "at", .meth "Scanner" "peek", .meth "Scanner" "expect", .meth "Scanner" "read_one_of", .meth "Scanner" "read_up_to", .meth "Scanner" "read_blanks", .meth "Scanner" "read_name", .meth "Scanner" "read_plain", .meth "Scanner" "read_reference", .meth "Scanner" "read_numbered_reference", .meth "Scanner" "read_digit", .meth "Scanner" "read_attribute_text", .cls "Reader", .mkr "Reader", .noat "Reader" "scan", .noat "Reader" "root", .noat "Reader" "here", .noat "Reader" "has_outermost", .noat "Reader" "pieces", .meth "Reader" "read_document", .meth "Reader" "read_declaration", .meth "Reader" "read_part_around", .meth "Reader" "read_part_of_content", .meth "Reader" "read_markup", .meth "Reader" "read_comment_or_cdata", .meth "Reader" "read_comment", .meth "Reader" "read_instruction", .meth "Reader" "read_tag", .meth "Reader" "read_attributes", .meth "Reader" "read_end_tag", .meth "Reader" "put", .meth "Reader" "put_text"]
def keys_NAMED_SIGNS : List Str := ["lt;", "gt;", "amp;", "quot;", "apos;"]
def kvs_NAMED_SIGNS : List (Str × He.Dv) := [("lt;", .str "<"), ("gt;", .str ">"), ("amp;", .str "&"), ("quot;", .str "\""), ("apos;", .str "'")]
def ts : List He.Tab := [(fun K => He.ga K "NAMED_SIGNS", keys_NAMED_SIGNS)]
/-! ### what more the top must have left -/
def oexB (K : PySem.W.Frag) (x : Str) : Bool := (match K.lookup (He.ga K x) with
  | some ⟨.type c, _, .cls cd, sl⟩ => decide (c = "type") && (match cd.mro, sl.toList with
    | .ref C' :: bm, [_, _, _, _, some (.builtin n), _] => decide (C' = He.ga K x) && (decide (n = "ValueError.__new__") && (!cd.hasDel && (cd.hasDict && PySem.HandSPX.refsVE bm)))
    | _, _ => false)
  | _ => false) && (decide (PySem.W.findIn K (.ref (He.ga K x)) "__setattr__" = some (some (.builtin "object.__setattr__"))) && (decide (PySem.W.subIn K (.ref (He.ga K x)) (.type "BaseException") = some true) &&
  (decide (PySem.W.typeIn K (.ref (He.ga K x)) = some (.type "type")) && (PySem.W.keepIn K (.ref (He.ga K x)) && xfB K (He.ga K x)))))
def initB (K : PySem.W.Frag) (x : Str) : Bool := decide (PySem.W.findIn K (.ref (He.ga K x)) "__init__" = some (some (.ref (He.ma K (He.ga K x) "__init__")))) && decide (PySem.W.typeIn K (.ref (He.ma K (He.ga K x) "__init__")) = some (.type "function"))
def baseB (K : PySem.W.Frag) : Bool := (match PySem.W.findCls K (.ref (He.ga K "TreeError")) (.type "type") "__init__" with
  | some (.val (.ref f)) => decide (f = He.ma K (He.ga K "TreeError") "__init__")
  | _ => false) && (PySem.W.readsIn K (He.ga K "TreeError") (.type "type") && decide (PySem.W.specialIn K (.ref (He.ga K "TreeError")) "__getattribute__" = some (some (.builtin "type.__getattribute__"))))
def nbB (K : PySem.W.Frag) : Bool := match List.lookup cStatics K with
  | some o => (match o.data with
    | .dict es _ => es.toList.all (fun e => match e.key with | .str _ _ => true | _ => false) && (nsFind es sharingNotToldKey).isNone
    | _ => false)
  | none => false
/-- a tuple that the head made: its items -/
def tupB (K : PySem.W.Frag) (a : Addr) (vs : List He.Dv) : Bool := match K.lookup a with
  | some ⟨c, _, .seq us _, _⟩ => (match c with | .type n => decide (n = "tuple") | _ => false) && (decide (us.size = vs.length) && (us.toList.zip vs).all fun q => He.relB (q.2.v K) q.1)
  | _ => false
def strsB (K : PySem.W.Frag) (x : Str) (l : List Str) : Bool := tupB K (He.ga K x) (l.map .str)
def optD : Option Int → He.Dv
  | none => .non
  | some i => .int i

/-- a class with slots; one of them -/
def sclB (K : PySem.W.Frag) (x : Str) : Bool := PySem.W.plainGet K (He.ga K x) Str.empty && (PySem.W.isClsIn K (He.ga K x) && (PySem.W.plainOver K (He.ga K x) && decide (PySem.W.findIn K (.ref (He.ga K x)) "__setattr__" = some (some (.builtin "object.__setattr__")))))
def instB (K : PySem.W.Frag) (x : Str) : Bool := decide (PySem.W.findIn K (.ref (He.ga K x)) "__class__" = some (some (.builtin "object.__class__"))) && (decide (PySem.W.specialIn K (.builtin "object.__class__") "__get__" = some (some (.builtin "getset_descriptor.__get__"))) && (decide (PySem.W.takesIn K (.builtin "object.__class__") = some true) && (decide (PySem.W.mroIn K (He.ga K x) (.type "object") = some true) &&
  (decide (PySem.W.kitOne K (.ref (He.ga K x)) (.ref (He.ga K x)) = some true) && decide (PySem.W.kitOne K (.ref (He.ga K x)) (.type "str") = some false)))))
def slotB (K : PySem.W.Frag) (x f : Str) (i : Nat) : Bool := decide (PySem.W.findIn K (.ref (He.ga K x)) f = some (some (.ref (He.ma K (He.ga K x) f)))) && (decide (PySem.W.specialIn K (.ref (He.ma K (He.ga K x) f)) "__get__" = some (some (.builtin "member_descriptor.__get__"))) &&
  (decide (PySem.W.takesIn K (.ref (He.ma K (He.ga K x) f)) = some true) && (decide (PySem.W.typeIn K (.ref (He.ma K (He.ga K x) f)) = some (.type "member_descriptor")) && decide (PySem.W.slotIn K (He.ma K (He.ga K x) f) (He.ga K x) = some i))))

/-- a step of any kind of nodes that the head made -/
def stepB (K : PySem.W.Frag) (x : Str) (axis : Str) : Bool := match K.lookup (He.ga K x) with
  | some ⟨c, _, .seq us _, _⟩ => (match c with | .type n => decide (n = "tuple") | _ => false) && (match us.toList with
    | [u0, .ref a, .ref b] => He.relB (.str axis) u0 && (tupB K a [.str "kind", .str "node", .non] && tupB K b [])
    | _ => false)
  | _ => false

/-- a dict of numbers to texts that the head made -/
def intsB (K : PySem.W.Frag) (x : Str) (l : List (Int × Str)) : Bool := !(He.ga K x == sysModules) && match K.lookup (He.ga K x) with
  | some ⟨.type n, none, .dict es _, sl⟩ => decide (n = "dict") && (decide (sl = #[]) && (decide (es.toList.length = l.length) && (es.toList.zip l).all fun q => q.1.key.isInt q.2.1 && (decide (q.1.hash = hashInt q.2.1) && q.1.val.isStr q.2.2)))
  | _ => false

def ints_WORDS_ALONE : List (Int × Str) := [(9, " "), (10, " "), (33, " "), (34, " "), (35, " "), (36, " "), (37, " "), (38, " "), (39, " "), (40, " "), (41, " "), (42, " "), (43, " "), (44, " "), (47, " "), (58, " "), (59, " "), (60, " "), (61, " "), (62, " "), (63, " "), (64, " "), (91, " "), (92, " "), (93, " "), (94, " "), (96, " "), (123, " "), (124, " "), (125, " "), (126, " ")]
def ex (K : PySem.W.Frag) : Bool := [nbB K, instB K "Node", instB K "Tree", sclB K "Node", slotB K "Node" "attributes" 0, slotB K "Node" "children" 1, slotB K "Node" "end" 2, slotB K "Node" "kind" 3, slotB K "Node" "name" 4, slotB K "Node" "order" 5, slotB K "Node" "parent" 6, slotB K "Node" "part" 7, slotB K "Node" "text" 8, slotB K "Node" "tree" 9, He.valsB K (He.ga K "NAMED_SIGNS") kvs_NAMED_SIGNS, intsB K "WORDS_ALONE" ints_WORDS_ALONE].all id
theorem ex_all {K : PySem.W.Frag} (h : ex K = true) : nbB K = true ∧ instB K "Node" = true ∧ instB K "Tree" = true ∧ sclB K "Node" = true ∧ slotB K "Node" "attributes" 0 = true ∧ slotB K "Node" "children" 1 = true ∧ slotB K "Node" "end" 2 = true ∧ slotB K "Node" "kind" 3 = true ∧ slotB K "Node" "name" 4 = true ∧ slotB K "Node" "order" 5 = true ∧ slotB K "Node" "parent" 6 = true ∧ slotB K "Node" "part" 7 = true ∧ slotB K "Node" "text" 8 = true ∧ slotB K "Node" "tree" 9 = true ∧ He.valsB K (He.ga K "NAMED_SIGNS") kvs_NAMED_SIGNS = true ∧ intsB K "WORDS_ALONE" ints_WORDS_ALONE = true := by
  unfold ex at h
  simpa only [List.all_cons, List.all_nil, id, Bool.and_eq_true, Bool.and_true] using h
end PX
/-! PXHead -/
namespace PX
open PySem PySem.Spec PyProof.Rows L2
abbrev R : PySem.W.OpenRow := PySem.W.OpenLaw.row PySem.Challenge.rw_pathloom_k04_whole_signs_kept
/-! ### the Hook: what the head is asked for, the statics' names among what is looked at -/
abbrev AlM : Type := He.AlT × Bool
def lvM (g : Addr → Option Obj) (as : List Addr) : List Addr := as.flatMap fun a => match g a with
  | some o => He.refsD o
  | none => []
def gwM (g : Addr → Option Obj) : Nat → List Addr → List Addr
  | 0, as => as
  | n + 1, as => as ++ gwM g n (lvM g as)
def asM (g : Addr → Option Obj) (n : Nat) : List Addr := cStatics :: gwM g n [mainGlobals]
def obsM (n : Nat) (g : Addr → Option Obj) : AlM := (He.obsT fa fn ts (He.frG g (asM g n)), ex (He.frG g (asM g n)))
def hk : PySem.W.Hook where
  α := AlM
  obs := fun s => obsM 4 s.heap.get?
  val := fun w => (He.valT fn ts w, true)
  says := fun w h => ∃ K : PySem.W.Frag, K.In h ∧ He.SaysT fa fn ts w K ∧ ex K = true
  of := fun _ _ e => ⟨_, He.frG_in, congrArg (fun z : AlM => z.1) e, congrArg (fun z : AlM => z.2) e⟩
  keeps := fun _ _ _ ⟨K, hK, c⟩ k => ⟨K, PySem.W.Frag.In.keeps hK k, c⟩
def ob (s : PySem.W.SharedT) : AlM := obsM 4 (HandSHeadRun.getT s)
theorem ob_eq (s : PySem.W.SharedT) : ob s = hk.obs s.abs := by
  have e : HandSHeadRun.getT s = s.abs.heap.get? := funext (HandSHeadRun.getT_eq s)
  show obsM 4 (HandSHeadRun.getT s) = obsM 4 s.abs.heap.get?
  rw [e]
def names1 : List PySem.Str := ["markup_of", "tag_of", "attribute_markup", "text_markup", "instruction_markup", "TreeError", "BadValue", "NotDocument", "Node", "Tree", "nodes_in", "string_value", "check_tree", "write", "end_of_run", "words_alone", "is_blank", "is_sign", "end_of_signs", "is_plain"]
def names2 : List PySem.Str := ["begins_word", "referred_sign", "leads_to_sign", "is_beginning", "Scanner", "read", "Reader", "string_at", "node_at", "node_in", "node_under", "_law_cell_at", "_law_well", "_law_draw", "_law_pick", "_law_signs", "_law_referred", "_law_plain", "WORDS_ALONE", "NAMED_SIGNS"]
def names3 : List PySem.Str := ["REFERABLE", "BLANKS", "FIRST_SIGNS", "DECIMAL", "HEXADECIMAL", "PIECE"]
def names : List PySem.Str := names1 ++ (names2 ++ (names3))
def Kof (s : PySem.W.SharedT) : PySem.W.Frag := He.frG (HandSHeadRun.getT s) (asM (HandSHeadRun.getT s) 4)
noncomputable def endW (w : World) (os : PySem.OsState) : Option PySem.W.SharedT := HandSHeadRun.endF (HandSHeadRun.stepQ (HandSHeadRun.denQ HandSHeadRun.tabQ) R.prog w) 60000 R.prog w os
noncomputable def lookW (w : World) (s : PySem.W.SharedT) := (HandSHeadRun.looksF R.prog (PySem.W.boot_heap w.params) s.abs, HandSHeadRun.seenQ (PySem.W.view R.prog [55]) names (PySem.importedModules R.prog.main.body) (fun s => PySem.W.xlAt (PySem.W.view R.prog [55]) [] s && PySem.W.recOk R.toRowW.records s) s.abs)
theorem head_put (w : World) (h1 : ∀ os, (endW w os).map (lookW w) = some (true, PySem.W.openGood (PySem.W.view R.prog [55]) names))
    (h2 : ∀ os, (endW w os).map (fun s => ((fa.all fun f => f.ok (Kof s)), (fn.map fun d => He.fnW (Kof s) d.at_), (ts.map fun t => He.dicW (Kof s) (t.1 (Kof s))), ex (Kof s))) = some (true, fn.map He.DefD.val, ts.map (fun t => some (He.keysIn w.params t.2)), true))
    (h3 : ∀ os, (endW w os).map (fun s => fn.all fun d => d.ok (Kof s)) = some true) : HandSHeadRun.RunEq R (PySem.W.view R.prog [55]) hk ob 60000 names w := by
  intro os
  obtain ⟨s, hs, e1⟩ := Option.map_eq_some_iff.mp (h1 os)
  have e2 := h2 os
  have e3 := h3 os
  rw [hs] at e2 e3
  have e2' := Option.some.inj e2
  have e3' := Option.some.inj e3
  have a1 := congrArg Prod.fst e1
  have a2 := congrArg Prod.snd e1
  have b1 := congrArg Prod.fst e2'
  have b2 := congrArg (fun z => z.2.1) e2'
  have b3 := congrArg (fun z => z.2.2.1) e2'
  have b4 := congrArg (fun z => z.2.2.2) e2'
  show (endW w os).map _ = _
  rw [hs]
  show some ((lookW w s).1, (lookW w s).2, ((((fa.all fun f => f.ok (Kof s)) && fn.all fun d => d.ok (Kof s)), (fn.map fun d => He.fnW (Kof s) d.at_)), (ts.map fun t => He.dicW (Kof s) (t.1 (Kof s)))), ex (Kof s)) = some (true, PySem.W.openGood (PySem.W.view R.prog [55]) names, ((true, fn.map He.DefD.val), ts.map (fun t => some (He.keysIn w.params t.2))), true)
  rw [show (lookW w s).1 = true from a1, show (lookW w s).2 = _ from a2, show (fa.all fun f => f.ok (Kof s)) = true from b1, show (fn.all fun d => d.ok (Kof s)) = true from e3', show (fn.map fun d => He.fnW (Kof s) d.at_) = _ from b2, show (ts.map fun t => He.dicW (Kof s) (t.1 (Kof s))) = _ from b3, show ex (Kof s) = true from b4]
  rfl

theorem hrA1 (w : World) (os : PySem.OsState) : (endW (w.withFollow "special-get-raises" false) os).map (lookW (w.withFollow "special-get-raises" false)) = some (true, PySem.W.openGood (PySem.W.view R.prog [55]) names) := by
  kernel_rfl
theorem hrA2 (w : World) (os : PySem.OsState) : (endW (w.withFollow "special-get-raises" false) os).map (fun s => ((fa.all fun f => f.ok (Kof s)), (fn.map fun d => He.fnW (Kof s) d.at_), (ts.map fun t => He.dicW (Kof s) (t.1 (Kof s))), ex (Kof s))) = some (true, fn.map He.DefD.val, ts.map (fun t => some (He.keysIn (w.withFollow "special-get-raises" false).params t.2)), true) := by
  kernel_rfl
theorem hrA3 (w : World) (os : PySem.OsState) : (endW (w.withFollow "special-get-raises" false) os).map (fun s => fn.all fun d => d.ok (Kof s)) = some true := by
  kernel_rfl

theorem hrB1 (w : World) (os : PySem.OsState) : (endW (w.withFollow "special-get-raises" true) os).map (lookW (w.withFollow "special-get-raises" true)) = some (true, PySem.W.openGood (PySem.W.view R.prog [55]) names) := by
  kernel_rfl
theorem hrB2 (w : World) (os : PySem.OsState) : (endW (w.withFollow "special-get-raises" true) os).map (fun s => ((fa.all fun f => f.ok (Kof s)), (fn.map fun d => He.fnW (Kof s) d.at_), (ts.map fun t => He.dicW (Kof s) (t.1 (Kof s))), ex (Kof s))) = some (true, fn.map He.DefD.val, ts.map (fun t => some (He.keysIn (w.withFollow "special-get-raises" true).params t.2)), true) := by
  kernel_rfl
theorem hrB3 (w : World) (os : PySem.OsState) : (endW (w.withFollow "special-get-raises" true) os).map (fun s => fn.all fun d => d.ok (Kof s)) = some true := by
  kernel_rfl

theorem headRun (w : World) : HandSHeadRun.RunEq R (PySem.W.view R.prog [55]) hk ob 60000 names w :=
  PySem.W.byRow2 "special-get-raises" (P := fun w => HandSHeadRun.RunEq R (PySem.W.view R.prog [55]) hk ob 60000 names w) (fun w => head_put _ (hrA1 w) (hrA2 w) (hrA3 w)) (fun w => head_put _ (hrB1 w) (hrB2 w) (hrB3 w)) w
end PX
/-! PXBase -/
namespace PX
open PySem PySem.Spec PyProof.Rows L2
/-! ### what the head has left -/
structure Tx (w : World) (K : PySem.W.Frag) (mg : Str → Option Value) : Prop where
  c : He.SaysD fa fn K
  kin : ∃ h : Heap, K.In h ∧ h.Ns mainGlobals mg
  tab_NAMED_SIGNS : He.dicW K (He.ga K "NAMED_SIGNS") = some (He.keysIn w.params keys_NAMED_SIGNS)
  more : ex K = true
abbrev FnP (K : PySem.W.Frag) (d : He.DefD) (fd : FuncData) : Prop := FunD K d.name d.qual d.params d.body d.scope (d.dvs K) (d.kws K) (He.fAd K d.at_) fd
section
variable {w : World} {K : PySem.W.Frag} {mg : Str → Option Value}
theorem x_nb (T : Tx w K mg) : nbB K = true := (ex_all T.more).1
theorem x_in_Node (T : Tx w K mg) : instB K "Node" = true := (ex_all T.more).2.1
theorem x_in_Tree (T : Tx w K mg) : instB K "Tree" = true := (ex_all T.more).2.2.1
theorem x_scl_Node (T : Tx w K mg) : sclB K "Node" = true := (ex_all T.more).2.2.2.1
theorem x_sl_Node_attributes (T : Tx w K mg) : slotB K "Node" "attributes" 0 = true := (ex_all T.more).2.2.2.2.1
theorem x_sl_Node_children (T : Tx w K mg) : slotB K "Node" "children" 1 = true := (ex_all T.more).2.2.2.2.2.1
theorem x_sl_Node_end (T : Tx w K mg) : slotB K "Node" "end" 2 = true := (ex_all T.more).2.2.2.2.2.2.1
theorem x_sl_Node_kind (T : Tx w K mg) : slotB K "Node" "kind" 3 = true := (ex_all T.more).2.2.2.2.2.2.2.1
theorem x_sl_Node_name (T : Tx w K mg) : slotB K "Node" "name" 4 = true := (ex_all T.more).2.2.2.2.2.2.2.2.1
theorem x_sl_Node_order (T : Tx w K mg) : slotB K "Node" "order" 5 = true := (ex_all T.more).2.2.2.2.2.2.2.2.2.1
theorem x_sl_Node_parent (T : Tx w K mg) : slotB K "Node" "parent" 6 = true := (ex_all T.more).2.2.2.2.2.2.2.2.2.2.1
theorem x_sl_Node_part (T : Tx w K mg) : slotB K "Node" "part" 7 = true := (ex_all T.more).2.2.2.2.2.2.2.2.2.2.2.1
theorem x_sl_Node_text (T : Tx w K mg) : slotB K "Node" "text" 8 = true := (ex_all T.more).2.2.2.2.2.2.2.2.2.2.2.2.1
theorem x_sl_Node_tree (T : Tx w K mg) : slotB K "Node" "tree" 9 = true := (ex_all T.more).2.2.2.2.2.2.2.2.2.2.2.2.2.1
theorem x_v_NAMED_SIGNS (T : Tx w K mg) : He.valsB K (He.ga K "NAMED_SIGNS") kvs_NAMED_SIGNS = true := (ex_all T.more).2.2.2.2.2.2.2.2.2.2.2.2.2.2.1
theorem x_i_WORDS_ALONE (T : Tx w K mg) : intsB K "WORDS_ALONE" ints_WORDS_ALONE = true := (ex_all T.more).2.2.2.2.2.2.2.2.2.2.2.2.2.2.2
theorem g_markup_of (T : Tx w K mg) : mg "markup_of" = some (.ref (He.ga K "markup_of")) := by
  obtain ⟨h, X, G⟩ := T.kin
  exact He.glo_ok X G (T.c.fact 0 (f := .glo "markup_of") rfl)
theorem g_tag_of (T : Tx w K mg) : mg "tag_of" = some (.ref (He.ga K "tag_of")) := by
  obtain ⟨h, X, G⟩ := T.kin
  exact He.glo_ok X G (T.c.fact 1 (f := .glo "tag_of") rfl)
theorem g_attribute_markup (T : Tx w K mg) : mg "attribute_markup" = some (.ref (He.ga K "attribute_markup")) := by
  obtain ⟨h, X, G⟩ := T.kin
  exact He.glo_ok X G (T.c.fact 2 (f := .glo "attribute_markup") rfl)
theorem g_text_markup (T : Tx w K mg) : mg "text_markup" = some (.ref (He.ga K "text_markup")) := by
  obtain ⟨h, X, G⟩ := T.kin
  exact He.glo_ok X G (T.c.fact 3 (f := .glo "text_markup") rfl)
theorem g_instruction_markup (T : Tx w K mg) : mg "instruction_markup" = some (.ref (He.ga K "instruction_markup")) := by
  obtain ⟨h, X, G⟩ := T.kin
  exact He.glo_ok X G (T.c.fact 4 (f := .glo "instruction_markup") rfl)
theorem g_TreeError (T : Tx w K mg) : mg "TreeError" = some (.ref (He.ga K "TreeError")) := by
  obtain ⟨h, X, G⟩ := T.kin
  exact He.glo_ok X G (T.c.fact 5 (f := .glo "TreeError") rfl)
theorem g_BadValue (T : Tx w K mg) : mg "BadValue" = some (.ref (He.ga K "BadValue")) := by
  obtain ⟨h, X, G⟩ := T.kin
  exact He.glo_ok X G (T.c.fact 6 (f := .glo "BadValue") rfl)
theorem g_NotDocument (T : Tx w K mg) : mg "NotDocument" = some (.ref (He.ga K "NotDocument")) := by
  obtain ⟨h, X, G⟩ := T.kin
  exact He.glo_ok X G (T.c.fact 7 (f := .glo "NotDocument") rfl)
theorem g_Node (T : Tx w K mg) : mg "Node" = some (.ref (He.ga K "Node")) := by
  obtain ⟨h, X, G⟩ := T.kin
  exact He.glo_ok X G (T.c.fact 8 (f := .glo "Node") rfl)
theorem g_Tree (T : Tx w K mg) : mg "Tree" = some (.ref (He.ga K "Tree")) := by
  obtain ⟨h, X, G⟩ := T.kin
  exact He.glo_ok X G (T.c.fact 9 (f := .glo "Tree") rfl)
theorem g_nodes_in (T : Tx w K mg) : mg "nodes_in" = some (.ref (He.ga K "nodes_in")) := by
  obtain ⟨h, X, G⟩ := T.kin
  exact He.glo_ok X G (T.c.fact 10 (f := .glo "nodes_in") rfl)
theorem g_string_value (T : Tx w K mg) : mg "string_value" = some (.ref (He.ga K "string_value")) := by
  obtain ⟨h, X, G⟩ := T.kin
  exact He.glo_ok X G (T.c.fact 11 (f := .glo "string_value") rfl)
theorem g_check_tree (T : Tx w K mg) : mg "check_tree" = some (.ref (He.ga K "check_tree")) := by
  obtain ⟨h, X, G⟩ := T.kin
  exact He.glo_ok X G (T.c.fact 12 (f := .glo "check_tree") rfl)
theorem g_write (T : Tx w K mg) : mg "write" = some (.ref (He.ga K "write")) := by
  obtain ⟨h, X, G⟩ := T.kin
  exact He.glo_ok X G (T.c.fact 13 (f := .glo "write") rfl)
theorem g_end_of_run (T : Tx w K mg) : mg "end_of_run" = some (.ref (He.ga K "end_of_run")) := by
  obtain ⟨h, X, G⟩ := T.kin
  exact He.glo_ok X G (T.c.fact 14 (f := .glo "end_of_run") rfl)
theorem g_words_alone (T : Tx w K mg) : mg "words_alone" = some (.ref (He.ga K "words_alone")) := by
  obtain ⟨h, X, G⟩ := T.kin
  exact He.glo_ok X G (T.c.fact 15 (f := .glo "words_alone") rfl)
theorem g_is_blank (T : Tx w K mg) : mg "is_blank" = some (.ref (He.ga K "is_blank")) := by
  obtain ⟨h, X, G⟩ := T.kin
  exact He.glo_ok X G (T.c.fact 16 (f := .glo "is_blank") rfl)
theorem g_is_sign (T : Tx w K mg) : mg "is_sign" = some (.ref (He.ga K "is_sign")) := by
  obtain ⟨h, X, G⟩ := T.kin
  exact He.glo_ok X G (T.c.fact 17 (f := .glo "is_sign") rfl)
theorem g_end_of_signs (T : Tx w K mg) : mg "end_of_signs" = some (.ref (He.ga K "end_of_signs")) := by
  obtain ⟨h, X, G⟩ := T.kin
  exact He.glo_ok X G (T.c.fact 18 (f := .glo "end_of_signs") rfl)
theorem g_is_plain (T : Tx w K mg) : mg "is_plain" = some (.ref (He.ga K "is_plain")) := by
  obtain ⟨h, X, G⟩ := T.kin
  exact He.glo_ok X G (T.c.fact 19 (f := .glo "is_plain") rfl)
theorem g_begins_word (T : Tx w K mg) : mg "begins_word" = some (.ref (He.ga K "begins_word")) := by
  obtain ⟨h, X, G⟩ := T.kin
  exact He.glo_ok X G (T.c.fact 20 (f := .glo "begins_word") rfl)
theorem g_referred_sign (T : Tx w K mg) : mg "referred_sign" = some (.ref (He.ga K "referred_sign")) := by
  obtain ⟨h, X, G⟩ := T.kin
  exact He.glo_ok X G (T.c.fact 21 (f := .glo "referred_sign") rfl)
theorem g_leads_to_sign (T : Tx w K mg) : mg "leads_to_sign" = some (.ref (He.ga K "leads_to_sign")) := by
  obtain ⟨h, X, G⟩ := T.kin
  exact He.glo_ok X G (T.c.fact 22 (f := .glo "leads_to_sign") rfl)
theorem g_is_beginning (T : Tx w K mg) : mg "is_beginning" = some (.ref (He.ga K "is_beginning")) := by
  obtain ⟨h, X, G⟩ := T.kin
  exact He.glo_ok X G (T.c.fact 23 (f := .glo "is_beginning") rfl)
theorem g_Scanner (T : Tx w K mg) : mg "Scanner" = some (.ref (He.ga K "Scanner")) := by
  obtain ⟨h, X, G⟩ := T.kin
  exact He.glo_ok X G (T.c.fact 24 (f := .glo "Scanner") rfl)
theorem g_read (T : Tx w K mg) : mg "read" = some (.ref (He.ga K "read")) := by
  obtain ⟨h, X, G⟩ := T.kin
  exact He.glo_ok X G (T.c.fact 25 (f := .glo "read") rfl)
theorem g_Reader (T : Tx w K mg) : mg "Reader" = some (.ref (He.ga K "Reader")) := by
  obtain ⟨h, X, G⟩ := T.kin
  exact He.glo_ok X G (T.c.fact 26 (f := .glo "Reader") rfl)
theorem g_string_at (T : Tx w K mg) : mg "string_at" = some (.ref (He.ga K "string_at")) := by
  obtain ⟨h, X, G⟩ := T.kin
  exact He.glo_ok X G (T.c.fact 27 (f := .glo "string_at") rfl)
theorem g_node_at (T : Tx w K mg) : mg "node_at" = some (.ref (He.ga K "node_at")) := by
  obtain ⟨h, X, G⟩ := T.kin
  exact He.glo_ok X G (T.c.fact 28 (f := .glo "node_at") rfl)
theorem g_node_in (T : Tx w K mg) : mg "node_in" = some (.ref (He.ga K "node_in")) := by
  obtain ⟨h, X, G⟩ := T.kin
  exact He.glo_ok X G (T.c.fact 29 (f := .glo "node_in") rfl)
theorem g_node_under (T : Tx w K mg) : mg "node_under" = some (.ref (He.ga K "node_under")) := by
  obtain ⟨h, X, G⟩ := T.kin
  exact He.glo_ok X G (T.c.fact 30 (f := .glo "node_under") rfl)
theorem g_Lcell_at (T : Tx w K mg) : mg "_law_cell_at" = some (.ref (He.ga K "_law_cell_at")) := by
  obtain ⟨h, X, G⟩ := T.kin
  exact He.glo_ok X G (T.c.fact 31 (f := .glo "_law_cell_at") rfl)
theorem g_Lwell (T : Tx w K mg) : mg "_law_well" = some (.ref (He.ga K "_law_well")) := by
  obtain ⟨h, X, G⟩ := T.kin
  exact He.glo_ok X G (T.c.fact 32 (f := .glo "_law_well") rfl)
theorem g_Ldraw (T : Tx w K mg) : mg "_law_draw" = some (.ref (He.ga K "_law_draw")) := by
  obtain ⟨h, X, G⟩ := T.kin
  exact He.glo_ok X G (T.c.fact 33 (f := .glo "_law_draw") rfl)
theorem g_Lpick (T : Tx w K mg) : mg "_law_pick" = some (.ref (He.ga K "_law_pick")) := by
  obtain ⟨h, X, G⟩ := T.kin
  exact He.glo_ok X G (T.c.fact 34 (f := .glo "_law_pick") rfl)
theorem g_Lsigns (T : Tx w K mg) : mg "_law_signs" = some (.ref (He.ga K "_law_signs")) := by
  obtain ⟨h, X, G⟩ := T.kin
  exact He.glo_ok X G (T.c.fact 35 (f := .glo "_law_signs") rfl)
theorem g_Lreferred (T : Tx w K mg) : mg "_law_referred" = some (.ref (He.ga K "_law_referred")) := by
  obtain ⟨h, X, G⟩ := T.kin
  exact He.glo_ok X G (T.c.fact 36 (f := .glo "_law_referred") rfl)
theorem g_Lplain (T : Tx w K mg) : mg "_law_plain" = some (.ref (He.ga K "_law_plain")) := by
  obtain ⟨h, X, G⟩ := T.kin
  exact He.glo_ok X G (T.c.fact 37 (f := .glo "_law_plain") rfl)
theorem g_law (T : Tx w K mg) : mg "law" = some (.ref (He.ga K "law")) := by
  obtain ⟨h, X, G⟩ := T.kin
  exact He.glo_ok X G (T.c.fact 38 (f := .glo "law") rfl)
theorem g_WORDS_ALONE (T : Tx w K mg) : mg "WORDS_ALONE" = some (.ref (He.ga K "WORDS_ALONE")) := by
  obtain ⟨h, X, G⟩ := T.kin
  exact He.glo_ok X G (T.c.fact 39 (f := .glo "WORDS_ALONE") rfl)
theorem g_NAMED_SIGNS (T : Tx w K mg) : mg "NAMED_SIGNS" = some (.ref (He.ga K "NAMED_SIGNS")) := by
  obtain ⟨h, X, G⟩ := T.kin
  exact He.glo_ok X G (T.c.fact 40 (f := .glo "NAMED_SIGNS") rfl)
theorem n_bool (T : Tx w K mg) : mg "bool" = none := by
  obtain ⟨h, X, G⟩ := T.kin
  exact He.free_ok X G (T.c.fact 41 (f := .free "bool") rfl)
theorem n_enumerate (T : Tx w K mg) : mg "enumerate" = none := by
  obtain ⟨h, X, G⟩ := T.kin
  exact He.free_ok X G (T.c.fact 42 (f := .free "enumerate") rfl)
theorem n_int (T : Tx w K mg) : mg "int" = none := by
  obtain ⟨h, X, G⟩ := T.kin
  exact He.free_ok X G (T.c.fact 43 (f := .free "int") rfl)
theorem n_isinstance (T : Tx w K mg) : mg "isinstance" = none := by
  obtain ⟨h, X, G⟩ := T.kin
  exact He.free_ok X G (T.c.fact 44 (f := .free "isinstance") rfl)
theorem n_len (T : Tx w K mg) : mg "len" = none := by
  obtain ⟨h, X, G⟩ := T.kin
  exact He.free_ok X G (T.c.fact 45 (f := .free "len") rfl)
theorem n_list (T : Tx w K mg) : mg "list" = none := by
  obtain ⟨h, X, G⟩ := T.kin
  exact He.free_ok X G (T.c.fact 46 (f := .free "list") rfl)
theorem n_ord (T : Tx w K mg) : mg "ord" = none := by
  obtain ⟨h, X, G⟩ := T.kin
  exact He.free_ok X G (T.c.fact 47 (f := .free "ord") rfl)
theorem n_range (T : Tx w K mg) : mg "range" = none := by
  obtain ⟨h, X, G⟩ := T.kin
  exact He.free_ok X G (T.c.fact 48 (f := .free "range") rfl)
theorem n_str (T : Tx w K mg) : mg "str" = none := by
  obtain ⟨h, X, G⟩ := T.kin
  exact He.free_ok X G (T.c.fact 49 (f := .free "str") rfl)
theorem n_tuple (T : Tx w K mg) : mg "tuple" = none := by
  obtain ⟨h, X, G⟩ := T.kin
  exact He.free_ok X G (T.c.fact 50 (f := .free "tuple") rfl)
theorem c_REFERABLE (T : Tx w K mg) : ∃ t, mg "REFERABLE" = some (.str "\t\n !\"#$&'()*+,-./0123456789:;<=>?@ABCDEFGHIJKLMNOPQRSTUVWXYZ[\\]^_`abcdefghijklmnopqrstuvwxyz{|}~" t) := by
  obtain ⟨h, X, G⟩ := T.kin
  exact He.str_ok X G (T.c.fact 51 (f := .str "REFERABLE" "\t\n !\"#$&'()*+,-./0123456789:;<=>?@ABCDEFGHIJKLMNOPQRSTUVWXYZ[\\]^_`abcdefghijklmnopqrstuvwxyz{|}~") rfl)
theorem c_BLANKS (T : Tx w K mg) : ∃ t, mg "BLANKS" = some (.str " \t\n" t) := by
  obtain ⟨h, X, G⟩ := T.kin
  exact He.str_ok X G (T.c.fact 52 (f := .str "BLANKS" " \t\n") rfl)
theorem c_FIRST_SIGNS (T : Tx w K mg) : ∃ t, mg "FIRST_SIGNS" = some (.str "_ABCDEFGHIJKLMNOPQRSTUVWXYZabcdefghijklmnopqrstuvwxyz" t) := by
  obtain ⟨h, X, G⟩ := T.kin
  exact He.str_ok X G (T.c.fact 53 (f := .str "FIRST_SIGNS" "_ABCDEFGHIJKLMNOPQRSTUVWXYZabcdefghijklmnopqrstuvwxyz") rfl)
theorem c_DECIMAL (T : Tx w K mg) : ∃ t, mg "DECIMAL" = some (.str "0123456789" t) := by
  obtain ⟨h, X, G⟩ := T.kin
  exact He.str_ok X G (T.c.fact 54 (f := .str "DECIMAL" "0123456789") rfl)
theorem c_HEXADECIMAL (T : Tx w K mg) : ∃ t, mg "HEXADECIMAL" = some (.str "0123456789abcdef" t) := by
  obtain ⟨h, X, G⟩ := T.kin
  exact He.str_ok X G (T.c.fact 55 (f := .str "HEXADECIMAL" "0123456789abcdef") rfl)
theorem c_PIECE (T : Tx w K mg) : ∃ t, mg "PIECE" = some (.int 32 t) := by
  obtain ⟨h, X, G⟩ := T.kin
  exact He.int_ok X G (T.c.fact 56 (f := .int "PIECE" 32) rfl)
theorem mk_Node (T : Tx w K mg) : Mk K (He.ga K "Node") (He.fAd K d_Node_init.at_) := He.mkr_ok (T.c.fact 57 (f := .mkr "Node") rfl)
theorem m_Node_put_attribute (T : Tx w K mg) : Meth K (He.ga K "Node") "put_attribute" (He.fAd K d_Node_put_attribute.at_) := He.meth_ok (T.c.fact 58 (f := .meth "Node" "put_attribute") rfl)
theorem m_Node_put_child (T : Tx w K mg) : Meth K (He.ga K "Node") "put_child" (He.fAd K d_Node_put_child.at_) := He.meth_ok (T.c.fact 59 (f := .meth "Node" "put_child") rfl)
theorem cls_Tree (T : Tx w K mg) : Cls K (He.ga K "Tree") := He.cls_ok (T.c.fact 60 (f := .cls "Tree") rfl)
theorem mk_Tree (T : Tx w K mg) : Mk K (He.ga K "Tree") (He.fAd K d_Tree_init.at_) := He.mkr_ok (T.c.fact 61 (f := .mkr "Tree") rfl)
theorem na_Tree_root (T : Tx w K mg) : NoAttr K (He.ga K "Tree") "root" := He.noat_ok (T.c.fact 62 (f := .noat "Tree" "root") rfl)
theorem na_Tree_number (T : Tx w K mg) : NoAttr K (He.ga K "Tree") "number" := He.noat_ok (T.c.fact 63 (f := .noat "Tree" "number") rfl)
theorem na_Tree_nodes (T : Tx w K mg) : NoAttr K (He.ga K "Tree") "nodes" := He.noat_ok (T.c.fact 64 (f := .noat "Tree" "nodes") rfl)
theorem cls_Scanner (T : Tx w K mg) : Cls K (He.ga K "Scanner") := He.cls_ok (T.c.fact 65 (f := .cls "Scanner") rfl)
theorem mk_Scanner (T : Tx w K mg) : Mk K (He.ga K "Scanner") (He.fAd K d_Scanner_init.at_) := He.mkr_ok (T.c.fact 66 (f := .mkr "Scanner") rfl)
theorem na_Scanner_text (T : Tx w K mg) : NoAttr K (He.ga K "Scanner") "text" := He.noat_ok (T.c.fact 67 (f := .noat "Scanner" "text") rfl)
theorem na_Scanner_words (T : Tx w K mg) : NoAttr K (He.ga K "Scanner") "words" := He.noat_ok (T.c.fact 68 (f := .noat "Scanner" "words") rfl)
theorem na_Scanner_at (T : Tx w K mg) : NoAttr K (He.ga K "Scanner") "at" := He.noat_ok (T.c.fact 69 (f := .noat "Scanner" "at") rfl)
theorem m_Scanner_peek (T : Tx w K mg) : Meth K (He.ga K "Scanner") "peek" (He.fAd K d_Scanner_peek.at_) := He.meth_ok (T.c.fact 70 (f := .meth "Scanner" "peek") rfl)
theorem m_Scanner_expect (T : Tx w K mg) : Meth K (He.ga K "Scanner") "expect" (He.fAd K d_Scanner_expect.at_) := He.meth_ok (T.c.fact 71 (f := .meth "Scanner" "expect") rfl)
theorem m_Scanner_read_one_of (T : Tx w K mg) : Meth K (He.ga K "Scanner") "read_one_of" (He.fAd K d_Scanner_read_one_of.at_) := He.meth_ok (T.c.fact 72 (f := .meth "Scanner" "read_one_of") rfl)
theorem m_Scanner_read_up_to (T : Tx w K mg) : Meth K (He.ga K "Scanner") "read_up_to" (He.fAd K d_Scanner_read_up_to.at_) := He.meth_ok (T.c.fact 73 (f := .meth "Scanner" "read_up_to") rfl)
theorem m_Scanner_read_blanks (T : Tx w K mg) : Meth K (He.ga K "Scanner") "read_blanks" (He.fAd K d_Scanner_read_blanks.at_) := He.meth_ok (T.c.fact 74 (f := .meth "Scanner" "read_blanks") rfl)
theorem m_Scanner_read_name (T : Tx w K mg) : Meth K (He.ga K "Scanner") "read_name" (He.fAd K d_Scanner_read_name.at_) := He.meth_ok (T.c.fact 75 (f := .meth "Scanner" "read_name") rfl)
theorem m_Scanner_read_plain (T : Tx w K mg) : Meth K (He.ga K "Scanner") "read_plain" (He.fAd K d_Scanner_read_plain.at_) := He.meth_ok (T.c.fact 76 (f := .meth "Scanner" "read_plain") rfl)
theorem m_Scanner_read_reference (T : Tx w K mg) : Meth K (He.ga K "Scanner") "read_reference" (He.fAd K d_Scanner_read_reference.at_) := He.meth_ok (T.c.fact 77 (f := .meth "Scanner" "read_reference") rfl)
theorem m_Scanner_read_numbered_reference (T : Tx w K mg) : Meth K (He.ga K "Scanner") "read_numbered_reference" (He.fAd K d_Scanner_read_numbered_reference.at_) := He.meth_ok (T.c.fact 78 (f := .meth "Scanner" "read_numbered_reference") rfl)
theorem m_Scanner_read_digit (T : Tx w K mg) : Meth K (He.ga K "Scanner") "read_digit" (He.fAd K d_Scanner_read_digit.at_) := He.meth_ok (T.c.fact 79 (f := .meth "Scanner" "read_digit") rfl)
theorem m_Scanner_read_attribute_text (T : Tx w K mg) : Meth K (He.ga K "Scanner") "read_attribute_text" (He.fAd K d_Scanner_read_attribute_text.at_) := He.meth_ok (T.c.fact 80 (f := .meth "Scanner" "read_attribute_text") rfl)
theorem cls_Reader (T : Tx w K mg) : Cls K (He.ga K "Reader") := He.cls_ok (T.c.fact 81 (f := .cls "Reader") rfl)
theorem mk_Reader (T : Tx w K mg) : Mk K (He.ga K "Reader") (He.fAd K d_Reader_init.at_) := He.mkr_ok (T.c.fact 82 (f := .mkr "Reader") rfl)
theorem na_Reader_scan (T : Tx w K mg) : NoAttr K (He.ga K "Reader") "scan" := He.noat_ok (T.c.fact 83 (f := .noat "Reader" "scan") rfl)
theorem na_Reader_root (T : Tx w K mg) : NoAttr K (He.ga K "Reader") "root" := He.noat_ok (T.c.fact 84 (f := .noat "Reader" "root") rfl)
theorem na_Reader_here (T : Tx w K mg) : NoAttr K (He.ga K "Reader") "here" := He.noat_ok (T.c.fact 85 (f := .noat "Reader" "here") rfl)
theorem na_Reader_has_outermost (T : Tx w K mg) : NoAttr K (He.ga K "Reader") "has_outermost" := He.noat_ok (T.c.fact 86 (f := .noat "Reader" "has_outermost") rfl)
theorem na_Reader_pieces (T : Tx w K mg) : NoAttr K (He.ga K "Reader") "pieces" := He.noat_ok (T.c.fact 87 (f := .noat "Reader" "pieces") rfl)
theorem m_Reader_read_document (T : Tx w K mg) : Meth K (He.ga K "Reader") "read_document" (He.fAd K d_Reader_read_document.at_) := He.meth_ok (T.c.fact 88 (f := .meth "Reader" "read_document") rfl)
theorem m_Reader_read_declaration (T : Tx w K mg) : Meth K (He.ga K "Reader") "read_declaration" (He.fAd K d_Reader_read_declaration.at_) := He.meth_ok (T.c.fact 89 (f := .meth "Reader" "read_declaration") rfl)
theorem m_Reader_read_part_around (T : Tx w K mg) : Meth K (He.ga K "Reader") "read_part_around" (He.fAd K d_Reader_read_part_around.at_) := He.meth_ok (T.c.fact 90 (f := .meth "Reader" "read_part_around") rfl)
theorem m_Reader_read_part_of_content (T : Tx w K mg) : Meth K (He.ga K "Reader") "read_part_of_content" (He.fAd K d_Reader_read_part_of_content.at_) := He.meth_ok (T.c.fact 91 (f := .meth "Reader" "read_part_of_content") rfl)
theorem m_Reader_read_markup (T : Tx w K mg) : Meth K (He.ga K "Reader") "read_markup" (He.fAd K d_Reader_read_markup.at_) := He.meth_ok (T.c.fact 92 (f := .meth "Reader" "read_markup") rfl)
theorem m_Reader_read_comment_or_cdata (T : Tx w K mg) : Meth K (He.ga K "Reader") "read_comment_or_cdata" (He.fAd K d_Reader_read_comment_or_cdata.at_) := He.meth_ok (T.c.fact 93 (f := .meth "Reader" "read_comment_or_cdata") rfl)
theorem m_Reader_read_comment (T : Tx w K mg) : Meth K (He.ga K "Reader") "read_comment" (He.fAd K d_Reader_read_comment.at_) := He.meth_ok (T.c.fact 94 (f := .meth "Reader" "read_comment") rfl)
theorem m_Reader_read_instruction (T : Tx w K mg) : Meth K (He.ga K "Reader") "read_instruction" (He.fAd K d_Reader_read_instruction.at_) := He.meth_ok (T.c.fact 95 (f := .meth "Reader" "read_instruction") rfl)
theorem m_Reader_read_tag (T : Tx w K mg) : Meth K (He.ga K "Reader") "read_tag" (He.fAd K d_Reader_read_tag.at_) := He.meth_ok (T.c.fact 96 (f := .meth "Reader" "read_tag") rfl)
theorem m_Reader_read_attributes (T : Tx w K mg) : Meth K (He.ga K "Reader") "read_attributes" (He.fAd K d_Reader_read_attributes.at_) := He.meth_ok (T.c.fact 97 (f := .meth "Reader" "read_attributes") rfl)
theorem m_Reader_read_end_tag (T : Tx w K mg) : Meth K (He.ga K "Reader") "read_end_tag" (He.fAd K d_Reader_read_end_tag.at_) := He.meth_ok (T.c.fact 98 (f := .meth "Reader" "read_end_tag") rfl)
theorem m_Reader_put (T : Tx w K mg) : Meth K (He.ga K "Reader") "put" (He.fAd K d_Reader_put.at_) := He.meth_ok (T.c.fact 99 (f := .meth "Reader" "put") rfl)
theorem m_Reader_put_text (T : Tx w K mg) : Meth K (He.ga K "Reader") "put_text" (He.fAd K d_Reader_put_text.at_) := He.meth_ok (T.c.fact 100 (f := .meth "Reader" "put_text") rfl)
theorem f_markup_of (T : Tx w K mg) : ∃ fd, FnP K d_markup_of fd := T.c.def_ 0 (d := d_markup_of) rfl
abbrev p_markup_of : List Str := ["nodes", "cdata_names"]
abbrev N_markup_of : List Str := ["nodes", "cdata_names", "pieces", "waiting", "node"]
theorem sc_markup_of : FnScope N_markup_of p_markup_of (defScope s_markup_of) := ⟨rfl, rfl, rfl, by decide +kernel, rfl, by decide +kernel, by decide +kernel⟩
theorem b_markup_of {fd : FuncData} (F : FnP K d_markup_of fd) : Binds K fd p_markup_of [] := FunD.bindsN F fun _ _ _ _ _ _ us hl => match us, hl with | [_, _], _ => rfl
theorem f_tag_of (T : Tx w K mg) : ∃ fd, FnP K d_tag_of fd := T.c.def_ 1 (d := d_tag_of) rfl
abbrev p_tag_of : List Str := ["node", "end"]
abbrev N_tag_of : List Str := ["node", "end", "told", "attribute"]
theorem sc_tag_of : FnScope N_tag_of p_tag_of (defScope s_tag_of) := ⟨rfl, rfl, rfl, by decide +kernel, rfl, by decide +kernel, by decide +kernel⟩
theorem b_tag_of {fd : FuncData} (F : FnP K d_tag_of fd) : Binds K fd p_tag_of [] := FunD.bindsN F fun _ _ _ _ _ _ us hl => match us, hl with | [_, _], _ => rfl
theorem f_attribute_markup (T : Tx w K mg) : ∃ fd, FnP K d_attribute_markup fd := T.c.def_ 2 (d := d_attribute_markup) rfl
abbrev p_attribute_markup : List Str := ["text"]
abbrev N_attribute_markup : List Str := ["text"]
theorem sc_attribute_markup : FnScope N_attribute_markup p_attribute_markup (defScope s_attribute_markup) := ⟨rfl, rfl, rfl, by decide +kernel, rfl, by decide +kernel, by decide +kernel⟩
theorem b_attribute_markup {fd : FuncData} (F : FnP K d_attribute_markup fd) : Binds K fd p_attribute_markup [] := FunD.bindsN F fun _ _ _ _ _ _ us hl => match us, hl with | [_], _ => rfl
theorem f_text_markup (T : Tx w K mg) : ∃ fd, FnP K d_text_markup fd := T.c.def_ 3 (d := d_text_markup) rfl
abbrev p_text_markup : List Str := ["node", "cdata_names"]
abbrev N_text_markup : List Str := ["node", "cdata_names"]
theorem sc_text_markup : FnScope N_text_markup p_text_markup (defScope s_text_markup) := ⟨rfl, rfl, rfl, by decide +kernel, rfl, by decide +kernel, by decide +kernel⟩
theorem b_text_markup {fd : FuncData} (F : FnP K d_text_markup fd) : Binds K fd p_text_markup [] := FunD.bindsN F fun _ _ _ _ _ _ us hl => match us, hl with | [_, _], _ => rfl
theorem f_instruction_markup (T : Tx w K mg) : ∃ fd, FnP K d_instruction_markup fd := T.c.def_ 4 (d := d_instruction_markup) rfl
abbrev p_instruction_markup : List Str := ["node"]
abbrev N_instruction_markup : List Str := ["node"]
theorem sc_instruction_markup : FnScope N_instruction_markup p_instruction_markup (defScope s_instruction_markup) := ⟨rfl, rfl, rfl, by decide +kernel, rfl, by decide +kernel, by decide +kernel⟩
theorem b_instruction_markup {fd : FuncData} (F : FnP K d_instruction_markup fd) : Binds K fd p_instruction_markup [] := FunD.bindsN F fun _ _ _ _ _ _ us hl => match us, hl with | [_], _ => rfl
theorem f_TreeError_init (T : Tx w K mg) : ∃ fd, FnP K d_TreeError_init fd := T.c.def_ 5 (d := d_TreeError_init) rfl
abbrev p_TreeError_init : List Str := ["self", "why"]
abbrev N_TreeError_init : List Str := ["self", "why"]
theorem sc_TreeError_init : FnScope N_TreeError_init p_TreeError_init (defScope s_TreeError_init) := ⟨rfl, rfl, rfl, by decide +kernel, rfl, by decide +kernel, by decide +kernel⟩
theorem f_BadValue_init (T : Tx w K mg) : ∃ fd, FnP K d_BadValue_init fd := T.c.def_ 6 (d := d_BadValue_init) rfl
abbrev p_BadValue_init : List Str := ["self", "why"]
abbrev N_BadValue_init : List Str := ["self", "why"]
theorem sc_BadValue_init : FnScope N_BadValue_init p_BadValue_init (defScope s_BadValue_init) := ⟨rfl, rfl, rfl, by decide +kernel, rfl, by decide +kernel, by decide +kernel⟩
theorem f_NotDocument_init (T : Tx w K mg) : ∃ fd, FnP K d_NotDocument_init fd := T.c.def_ 7 (d := d_NotDocument_init) rfl
abbrev p_NotDocument_init : List Str := ["self", "at"]
abbrev N_NotDocument_init : List Str := ["self", "at"]
theorem sc_NotDocument_init : FnScope N_NotDocument_init p_NotDocument_init (defScope s_NotDocument_init) := ⟨rfl, rfl, rfl, by decide +kernel, rfl, by decide +kernel, by decide +kernel⟩
theorem b_NotDocument_init {fd : FuncData} (F : FnP K d_NotDocument_init fd) : Binds K fd p_NotDocument_init [] := FunD.bindsN F fun _ _ _ _ _ _ us hl => match us, hl with | [_, _], _ => rfl
theorem f_Node_init (T : Tx w K mg) : ∃ fd, FnP K d_Node_init fd := T.c.def_ 8 (d := d_Node_init) rfl
abbrev p_Node_init : List Str := ["self", "kind", "name", "text"]
abbrev N_Node_init : List Str := ["self", "kind", "name", "text"]
theorem sc_Node_init : FnScope N_Node_init p_Node_init (defScope s_Node_init) := ⟨rfl, rfl, rfl, by decide +kernel, rfl, by decide +kernel, by decide +kernel⟩
theorem b_Node_init {fd : FuncData} (F : FnP K d_Node_init fd) : Binds K fd p_Node_init [] := FunD.bindsN F fun _ _ _ _ _ _ us hl => match us, hl with | [_, _, _, _], _ => rfl
theorem f_Node_put_attribute (T : Tx w K mg) : ∃ fd, FnP K d_Node_put_attribute fd := T.c.def_ 9 (d := d_Node_put_attribute) rfl
abbrev p_Node_put_attribute : List Str := ["self", "node"]
abbrev N_Node_put_attribute : List Str := ["self", "node"]
theorem sc_Node_put_attribute : FnScope N_Node_put_attribute p_Node_put_attribute (defScope s_Node_put_attribute) := ⟨rfl, rfl, rfl, by decide +kernel, rfl, by decide +kernel, by decide +kernel⟩
theorem b_Node_put_attribute {fd : FuncData} (F : FnP K d_Node_put_attribute fd) : Binds K fd p_Node_put_attribute [] := FunD.bindsN F fun _ _ _ _ _ _ us hl => match us, hl with | [_, _], _ => rfl
theorem f_Node_put_child (T : Tx w K mg) : ∃ fd, FnP K d_Node_put_child fd := T.c.def_ 10 (d := d_Node_put_child) rfl
abbrev p_Node_put_child : List Str := ["self", "node"]
abbrev N_Node_put_child : List Str := ["self", "node"]
theorem sc_Node_put_child : FnScope N_Node_put_child p_Node_put_child (defScope s_Node_put_child) := ⟨rfl, rfl, rfl, by decide +kernel, rfl, by decide +kernel, by decide +kernel⟩
theorem b_Node_put_child {fd : FuncData} (F : FnP K d_Node_put_child fd) : Binds K fd p_Node_put_child [] := FunD.bindsN F fun _ _ _ _ _ _ us hl => match us, hl with | [_, _], _ => rfl
theorem f_Tree_init (T : Tx w K mg) : ∃ fd, FnP K d_Tree_init fd := T.c.def_ 11 (d := d_Tree_init) rfl
abbrev p_Tree_init : List Str := ["self", "root"]
abbrev N_Tree_init : List Str := ["self", "root", "order", "node", "above"]
theorem sc_Tree_init : FnScope N_Tree_init p_Tree_init (defScope s_Tree_init) := ⟨rfl, rfl, rfl, by decide +kernel, rfl, by decide +kernel, by decide +kernel⟩
theorem b_Tree_init {fd : FuncData} (F : FnP K d_Tree_init fd) : Binds K fd p_Tree_init [] := FunD.bindsN F fun _ _ _ _ _ _ us hl => match us, hl with | [_, _], _ => rfl
theorem f_nodes_in (T : Tx w K mg) : ∃ fd, FnP K d_nodes_in fd := T.c.def_ 12 (d := d_nodes_in) rfl
abbrev p_nodes_in : List Str := ["top"]
abbrev N_nodes_in : List Str := ["top", "found", "waiting", "node"]
theorem sc_nodes_in : FnScope N_nodes_in p_nodes_in (defScope s_nodes_in) := ⟨rfl, rfl, rfl, by decide +kernel, rfl, by decide +kernel, by decide +kernel⟩
theorem b_nodes_in {fd : FuncData} (F : FnP K d_nodes_in fd) : Binds K fd p_nodes_in [] := FunD.bindsN F fun _ _ _ _ _ _ us hl => match us, hl with | [_], _ => rfl
theorem f_string_value (T : Tx w K mg) : ∃ fd, FnP K d_string_value fd := T.c.def_ 13 (d := d_string_value) rfl
abbrev p_string_value : List Str := ["node"]
abbrev N_string_value : List Str := ["node", "inside", "part"]
theorem sc_string_value : FnScope N_string_value p_string_value (defScope s_string_value) := ⟨rfl, rfl, rfl, by decide +kernel, rfl, by decide +kernel, by decide +kernel⟩
theorem b_string_value {fd : FuncData} (F : FnP K d_string_value fd) : Binds K fd p_string_value [] := FunD.bindsN F fun _ _ _ _ _ _ us hl => match us, hl with | [_], _ => rfl
theorem f_check_tree (T : Tx w K mg) : ∃ fd, FnP K d_check_tree fd := T.c.def_ 14 (d := d_check_tree) rfl
abbrev p_check_tree : List Str := ["tree"]
abbrev N_check_tree : List Str := ["tree"]
theorem sc_check_tree : FnScope N_check_tree p_check_tree (defScope s_check_tree) := ⟨rfl, rfl, rfl, by decide +kernel, rfl, by decide +kernel, by decide +kernel⟩
theorem b_check_tree {fd : FuncData} (F : FnP K d_check_tree fd) : Binds K fd p_check_tree [] := FunD.bindsN F fun _ _ _ _ _ _ us hl => match us, hl with | [_], _ => rfl
theorem f_write (T : Tx w K mg) : ∃ fd, FnP K d_write fd := T.c.def_ 15 (d := d_write) rfl
abbrev p_write : List Str := ["tree"]
abbrev N_write : List Str := ["tree"]
theorem sc_write : FnScope N_write p_write (defScope s_write) := ⟨rfl, rfl, rfl, by decide +kernel, rfl, by decide +kernel, by decide +kernel⟩
theorem b_write {fd : FuncData} (F : FnP K d_write fd) : Binds K fd p_write [] := FunD.bindsN F fun _ _ _ _ _ _ us hl => match us, hl with | [_], _ => rfl
theorem f_end_of_run (T : Tx w K mg) : ∃ fd, FnP K d_end_of_run fd := T.c.def_ 16 (d := d_end_of_run) rfl
abbrev p_end_of_run : List Str := ["text", "at", "signs"]
abbrev N_end_of_run : List Str := ["text", "at", "signs", "piece", "rest"]
theorem sc_end_of_run : FnScope N_end_of_run p_end_of_run (defScope s_end_of_run) := ⟨rfl, rfl, rfl, by decide +kernel, rfl, by decide +kernel, by decide +kernel⟩
theorem b_end_of_run {fd : FuncData} (F : FnP K d_end_of_run fd) : Binds K fd p_end_of_run [] := FunD.bindsN F fun _ _ _ _ _ _ us hl => match us, hl with | [_, _, _], _ => rfl
theorem f_words_alone (T : Tx w K mg) : ∃ fd, FnP K d_words_alone fd := T.c.def_ 17 (d := d_words_alone) rfl
abbrev p_words_alone : List Str := ["text"]
abbrev N_words_alone : List Str := ["text"]
theorem sc_words_alone : FnScope N_words_alone p_words_alone (defScope s_words_alone) := ⟨rfl, rfl, rfl, by decide +kernel, rfl, by decide +kernel, by decide +kernel⟩
theorem b_words_alone {fd : FuncData} (F : FnP K d_words_alone fd) : Binds K fd p_words_alone [] := FunD.bindsN F fun _ _ _ _ _ _ us hl => match us, hl with | [_], _ => rfl
theorem f_is_blank (T : Tx w K mg) : ∃ fd, FnP K d_is_blank fd := T.c.def_ 18 (d := d_is_blank) rfl
abbrev p_is_blank : List Str := ["sign"]
abbrev N_is_blank : List Str := ["sign"]
theorem sc_is_blank : FnScope N_is_blank p_is_blank (defScope s_is_blank) := ⟨rfl, rfl, rfl, by decide +kernel, rfl, by decide +kernel, by decide +kernel⟩
theorem b_is_blank {fd : FuncData} (F : FnP K d_is_blank fd) : Binds K fd p_is_blank [] := FunD.bindsN F fun _ _ _ _ _ _ us hl => match us, hl with | [_], _ => rfl
theorem f_is_sign (T : Tx w K mg) : ∃ fd, FnP K d_is_sign fd := T.c.def_ 19 (d := d_is_sign) rfl
abbrev p_is_sign : List Str := ["character"]
abbrev N_is_sign : List Str := ["character"]
theorem sc_is_sign : FnScope N_is_sign p_is_sign (defScope s_is_sign) := ⟨rfl, rfl, rfl, by decide +kernel, rfl, by decide +kernel, by decide +kernel⟩
theorem b_is_sign {fd : FuncData} (F : FnP K d_is_sign fd) : Binds K fd p_is_sign [] := FunD.bindsN F fun _ _ _ _ _ _ us hl => match us, hl with | [_], _ => rfl
theorem f_end_of_signs (T : Tx w K mg) : ∃ fd, FnP K d_end_of_signs fd := T.c.def_ 20 (d := d_end_of_signs) rfl
abbrev p_end_of_signs : List Str := ["text"]
abbrev N_end_of_signs : List Str := ["text", "at", "character"]
theorem sc_end_of_signs : FnScope N_end_of_signs p_end_of_signs (defScope s_end_of_signs) := ⟨rfl, rfl, rfl, by decide +kernel, rfl, by decide +kernel, by decide +kernel⟩
theorem b_end_of_signs {fd : FuncData} (F : FnP K d_end_of_signs fd) : Binds K fd p_end_of_signs [] := FunD.bindsN F fun _ _ _ _ _ _ us hl => match us, hl with | [_], _ => rfl
theorem f_is_plain (T : Tx w K mg) : ∃ fd, FnP K d_is_plain fd := T.c.def_ 21 (d := d_is_plain) rfl
abbrev p_is_plain : List Str := ["text"]
abbrev N_is_plain : List Str := ["text"]
theorem sc_is_plain : FnScope N_is_plain p_is_plain (defScope s_is_plain) := ⟨rfl, rfl, rfl, by decide +kernel, rfl, by decide +kernel, by decide +kernel⟩
theorem b_is_plain {fd : FuncData} (F : FnP K d_is_plain fd) : Binds K fd p_is_plain [] := FunD.bindsN F fun _ _ _ _ _ _ us hl => match us, hl with | [_], _ => rfl
theorem f_begins_word (T : Tx w K mg) : ∃ fd, FnP K d_begins_word fd := T.c.def_ 22 (d := d_begins_word) rfl
abbrev p_begins_word : List Str := ["sign"]
abbrev N_begins_word : List Str := ["sign"]
theorem sc_begins_word : FnScope N_begins_word p_begins_word (defScope s_begins_word) := ⟨rfl, rfl, rfl, by decide +kernel, rfl, by decide +kernel, by decide +kernel⟩
theorem b_begins_word {fd : FuncData} (F : FnP K d_begins_word fd) : Binds K fd p_begins_word [] := FunD.bindsN F fun _ _ _ _ _ _ us hl => match us, hl with | [_], _ => rfl
theorem f_referred_sign (T : Tx w K mg) : ∃ fd, FnP K d_referred_sign fd := T.c.def_ 23 (d := d_referred_sign) rfl
abbrev p_referred_sign : List Str := ["number"]
abbrev N_referred_sign : List Str := ["number", "sign"]
theorem sc_referred_sign : FnScope N_referred_sign p_referred_sign (defScope s_referred_sign) := ⟨rfl, rfl, rfl, by decide +kernel, rfl, by decide +kernel, by decide +kernel⟩
theorem b_referred_sign {fd : FuncData} (F : FnP K d_referred_sign fd) : Binds K fd p_referred_sign [] := FunD.bindsN F fun _ _ _ _ _ _ us hl => match us, hl with | [_], _ => rfl
theorem f_leads_to_sign (T : Tx w K mg) : ∃ fd, FnP K d_leads_to_sign fd := T.c.def_ 24 (d := d_leads_to_sign) rfl
abbrev p_leads_to_sign : List Str := ["number", "base"]
abbrev N_leads_to_sign : List Str := ["number", "base", "sign"]
theorem sc_leads_to_sign : FnScope N_leads_to_sign p_leads_to_sign (defScope s_leads_to_sign) := ⟨rfl, rfl, rfl, by decide +kernel, rfl, by decide +kernel, by decide +kernel⟩
theorem b_leads_to_sign {fd : FuncData} (F : FnP K d_leads_to_sign fd) : Binds K fd p_leads_to_sign [] := FunD.bindsN F fun _ _ _ _ _ _ us hl => match us, hl with | [_, _], _ => rfl
theorem f_is_beginning (T : Tx w K mg) : ∃ fd, FnP K d_is_beginning fd := T.c.def_ 25 (d := d_is_beginning) rfl
abbrev p_is_beginning : List Str := ["number", "whole", "base"]
abbrev N_is_beginning : List Str := ["number", "whole", "base"]
theorem sc_is_beginning : FnScope N_is_beginning p_is_beginning (defScope s_is_beginning) := ⟨rfl, rfl, rfl, by decide +kernel, rfl, by decide +kernel, by decide +kernel⟩
theorem b_is_beginning {fd : FuncData} (F : FnP K d_is_beginning fd) : Binds K fd p_is_beginning [] := FunD.bindsN F fun _ _ _ _ _ _ us hl => match us, hl with | [_, _, _], _ => rfl
theorem f_Scanner_init (T : Tx w K mg) : ∃ fd, FnP K d_Scanner_init fd := T.c.def_ 26 (d := d_Scanner_init) rfl
abbrev p_Scanner_init : List Str := ["self", "text"]
abbrev N_Scanner_init : List Str := ["self", "text"]
theorem sc_Scanner_init : FnScope N_Scanner_init p_Scanner_init (defScope s_Scanner_init) := ⟨rfl, rfl, rfl, by decide +kernel, rfl, by decide +kernel, by decide +kernel⟩
theorem b_Scanner_init {fd : FuncData} (F : FnP K d_Scanner_init fd) : Binds K fd p_Scanner_init [] := FunD.bindsN F fun _ _ _ _ _ _ us hl => match us, hl with | [_, _], _ => rfl
theorem f_Scanner_peek (T : Tx w K mg) : ∃ fd, FnP K d_Scanner_peek fd := T.c.def_ 27 (d := d_Scanner_peek) rfl
abbrev p_Scanner_peek : List Str := ["self"]
abbrev N_Scanner_peek : List Str := ["self"]
theorem sc_Scanner_peek : FnScope N_Scanner_peek p_Scanner_peek (defScope s_Scanner_peek) := ⟨rfl, rfl, rfl, by decide +kernel, rfl, by decide +kernel, by decide +kernel⟩
theorem b_Scanner_peek {fd : FuncData} (F : FnP K d_Scanner_peek fd) : Binds K fd p_Scanner_peek [] := FunD.bindsN F fun _ _ _ _ _ _ us hl => match us, hl with | [_], _ => rfl
theorem f_Scanner_expect (T : Tx w K mg) : ∃ fd, FnP K d_Scanner_expect fd := T.c.def_ 28 (d := d_Scanner_expect) rfl
abbrev p_Scanner_expect : List Str := ["self", "word"]
abbrev N_Scanner_expect : List Str := ["self", "word", "sign"]
theorem sc_Scanner_expect : FnScope N_Scanner_expect p_Scanner_expect (defScope s_Scanner_expect) := ⟨rfl, rfl, rfl, by decide +kernel, rfl, by decide +kernel, by decide +kernel⟩
theorem b_Scanner_expect {fd : FuncData} (F : FnP K d_Scanner_expect fd) : Binds K fd p_Scanner_expect [] := FunD.bindsN F fun _ _ _ _ _ _ us hl => match us, hl with | [_, _], _ => rfl
theorem f_Scanner_read_one_of (T : Tx w K mg) : ∃ fd, FnP K d_Scanner_read_one_of fd := T.c.def_ 29 (d := d_Scanner_read_one_of) rfl
abbrev p_Scanner_read_one_of : List Str := ["self", "words"]
abbrev N_Scanner_read_one_of : List Str := ["self", "words", "word", "end"]
theorem sc_Scanner_read_one_of : FnScope N_Scanner_read_one_of p_Scanner_read_one_of (defScope s_Scanner_read_one_of) := ⟨rfl, rfl, rfl, by decide +kernel, rfl, by decide +kernel, by decide +kernel⟩
theorem b_Scanner_read_one_of {fd : FuncData} (F : FnP K d_Scanner_read_one_of fd) : Binds K fd p_Scanner_read_one_of [] := FunD.bindsN F fun _ _ _ _ _ _ us hl => match us, hl with | [_, _], _ => rfl
theorem f_Scanner_read_up_to (T : Tx w K mg) : ∃ fd, FnP K d_Scanner_read_up_to fd := T.c.def_ 30 (d := d_Scanner_read_up_to) rfl
abbrev p_Scanner_read_up_to : List Str := ["self", "end"]
abbrev N_Scanner_read_up_to : List Str := ["self", "end", "found", "ahead"]
theorem sc_Scanner_read_up_to : FnScope N_Scanner_read_up_to p_Scanner_read_up_to (defScope s_Scanner_read_up_to) := ⟨rfl, rfl, rfl, by decide +kernel, rfl, by decide +kernel, by decide +kernel⟩
theorem b_Scanner_read_up_to {fd : FuncData} (F : FnP K d_Scanner_read_up_to fd) : Binds K fd p_Scanner_read_up_to [] := FunD.bindsN F fun _ _ _ _ _ _ us hl => match us, hl with | [_, _], _ => rfl
theorem f_Scanner_read_blanks (T : Tx w K mg) : ∃ fd, FnP K d_Scanner_read_blanks fd := T.c.def_ 31 (d := d_Scanner_read_blanks) rfl
abbrev p_Scanner_read_blanks : List Str := ["self"]
abbrev N_Scanner_read_blanks : List Str := ["self"]
theorem sc_Scanner_read_blanks : FnScope N_Scanner_read_blanks p_Scanner_read_blanks (defScope s_Scanner_read_blanks) := ⟨rfl, rfl, rfl, by decide +kernel, rfl, by decide +kernel, by decide +kernel⟩
theorem b_Scanner_read_blanks {fd : FuncData} (F : FnP K d_Scanner_read_blanks fd) : Binds K fd p_Scanner_read_blanks [] := FunD.bindsN F fun _ _ _ _ _ _ us hl => match us, hl with | [_], _ => rfl
theorem f_Scanner_read_name (T : Tx w K mg) : ∃ fd, FnP K d_Scanner_read_name fd := T.c.def_ 32 (d := d_Scanner_read_name) rfl
abbrev p_Scanner_read_name : List Str := ["self"]
abbrev N_Scanner_read_name : List Str := ["self", "text", "start", "end"]
theorem sc_Scanner_read_name : FnScope N_Scanner_read_name p_Scanner_read_name (defScope s_Scanner_read_name) := ⟨rfl, rfl, rfl, by decide +kernel, rfl, by decide +kernel, by decide +kernel⟩
theorem b_Scanner_read_name {fd : FuncData} (F : FnP K d_Scanner_read_name fd) : Binds K fd p_Scanner_read_name [] := FunD.bindsN F fun _ _ _ _ _ _ us hl => match us, hl with | [_], _ => rfl
theorem f_Scanner_read_plain (T : Tx w K mg) : ∃ fd, FnP K d_Scanner_read_plain fd := T.c.def_ 33 (d := d_Scanner_read_plain) rfl
abbrev p_Scanner_read_plain : List Str := ["self"]
abbrev N_Scanner_read_plain : List Str := ["self", "end", "reference", "wrong", "signs"]
theorem sc_Scanner_read_plain : FnScope N_Scanner_read_plain p_Scanner_read_plain (defScope s_Scanner_read_plain) := ⟨rfl, rfl, rfl, by decide +kernel, rfl, by decide +kernel, by decide +kernel⟩
theorem b_Scanner_read_plain {fd : FuncData} (F : FnP K d_Scanner_read_plain fd) : Binds K fd p_Scanner_read_plain [] := FunD.bindsN F fun _ _ _ _ _ _ us hl => match us, hl with | [_], _ => rfl
theorem f_Scanner_read_reference (T : Tx w K mg) : ∃ fd, FnP K d_Scanner_read_reference fd := T.c.def_ 34 (d := d_Scanner_read_reference) rfl
abbrev p_Scanner_read_reference : List Str := ["self"]
abbrev N_Scanner_read_reference : List Str := ["self"]
theorem sc_Scanner_read_reference : FnScope N_Scanner_read_reference p_Scanner_read_reference (defScope s_Scanner_read_reference) := ⟨rfl, rfl, rfl, by decide +kernel, rfl, by decide +kernel, by decide +kernel⟩
theorem b_Scanner_read_reference {fd : FuncData} (F : FnP K d_Scanner_read_reference fd) : Binds K fd p_Scanner_read_reference [] := FunD.bindsN F fun _ _ _ _ _ _ us hl => match us, hl with | [_], _ => rfl
theorem f_Scanner_read_numbered_reference (T : Tx w K mg) : ∃ fd, FnP K d_Scanner_read_numbered_reference fd := T.c.def_ 35 (d := d_Scanner_read_numbered_reference) rfl
abbrev p_Scanner_read_numbered_reference : List Str := ["self"]
abbrev N_Scanner_read_numbered_reference : List Str := ["self", "digits", "number", "sign"]
theorem sc_Scanner_read_numbered_reference : FnScope N_Scanner_read_numbered_reference p_Scanner_read_numbered_reference (defScope s_Scanner_read_numbered_reference) := ⟨rfl, rfl, rfl, by decide +kernel, rfl, by decide +kernel, by decide +kernel⟩
theorem b_Scanner_read_numbered_reference {fd : FuncData} (F : FnP K d_Scanner_read_numbered_reference fd) : Binds K fd p_Scanner_read_numbered_reference [] := FunD.bindsN F fun _ _ _ _ _ _ us hl => match us, hl with | [_], _ => rfl
theorem f_Scanner_read_digit (T : Tx w K mg) : ∃ fd, FnP K d_Scanner_read_digit fd := T.c.def_ 36 (d := d_Scanner_read_digit) rfl
abbrev p_Scanner_read_digit : List Str := ["self", "number", "digits"]
abbrev N_Scanner_read_digit : List Str := ["self", "number", "digits", "sign"]
theorem sc_Scanner_read_digit : FnScope N_Scanner_read_digit p_Scanner_read_digit (defScope s_Scanner_read_digit) := ⟨rfl, rfl, rfl, by decide +kernel, rfl, by decide +kernel, by decide +kernel⟩
theorem b_Scanner_read_digit {fd : FuncData} (F : FnP K d_Scanner_read_digit fd) : Binds K fd p_Scanner_read_digit [] := FunD.bindsN F fun _ _ _ _ _ _ us hl => match us, hl with | [_, _, _], _ => rfl
theorem f_Scanner_read_attribute_text (T : Tx w K mg) : ∃ fd, FnP K d_Scanner_read_attribute_text fd := T.c.def_ 37 (d := d_Scanner_read_attribute_text) rfl
abbrev p_Scanner_read_attribute_text : List Str := ["self"]
abbrev N_Scanner_read_attribute_text : List Str := ["self", "quote", "end", "signs", "pieces", "sign"]
theorem sc_Scanner_read_attribute_text : FnScope N_Scanner_read_attribute_text p_Scanner_read_attribute_text (defScope s_Scanner_read_attribute_text) := ⟨rfl, rfl, rfl, by decide +kernel, rfl, by decide +kernel, by decide +kernel⟩
theorem b_Scanner_read_attribute_text {fd : FuncData} (F : FnP K d_Scanner_read_attribute_text fd) : Binds K fd p_Scanner_read_attribute_text [] := FunD.bindsN F fun _ _ _ _ _ _ us hl => match us, hl with | [_], _ => rfl
theorem f_read (T : Tx w K mg) : ∃ fd, FnP K d_read fd := T.c.def_ 38 (d := d_read) rfl
abbrev p_read : List Str := ["text"]
abbrev N_read : List Str := ["text", "end", "tree"]
theorem sc_read : FnScope N_read p_read (defScope s_read) := ⟨rfl, rfl, rfl, by decide +kernel, rfl, by decide +kernel, by decide +kernel⟩
theorem b_read {fd : FuncData} (F : FnP K d_read fd) : Binds K fd p_read [] := FunD.bindsN F fun _ _ _ _ _ _ us hl => match us, hl with | [_], _ => rfl
theorem f_Reader_init (T : Tx w K mg) : ∃ fd, FnP K d_Reader_init fd := T.c.def_ 39 (d := d_Reader_init) rfl
abbrev p_Reader_init : List Str := ["self", "text"]
abbrev N_Reader_init : List Str := ["self", "text"]
theorem sc_Reader_init : FnScope N_Reader_init p_Reader_init (defScope s_Reader_init) := ⟨rfl, rfl, rfl, by decide +kernel, rfl, by decide +kernel, by decide +kernel⟩
theorem b_Reader_init {fd : FuncData} (F : FnP K d_Reader_init fd) : Binds K fd p_Reader_init [] := FunD.bindsN F fun _ _ _ _ _ _ us hl => match us, hl with | [_, _], _ => rfl
theorem f_Reader_read_document (T : Tx w K mg) : ∃ fd, FnP K d_Reader_read_document fd := T.c.def_ 40 (d := d_Reader_read_document) rfl
abbrev p_Reader_read_document : List Str := ["self"]
abbrev N_Reader_read_document : List Str := ["self", "scan"]
theorem sc_Reader_read_document : FnScope N_Reader_read_document p_Reader_read_document (defScope s_Reader_read_document) := ⟨rfl, rfl, rfl, by decide +kernel, rfl, by decide +kernel, by decide +kernel⟩
theorem b_Reader_read_document {fd : FuncData} (F : FnP K d_Reader_read_document fd) : Binds K fd p_Reader_read_document [] := FunD.bindsN F fun _ _ _ _ _ _ us hl => match us, hl with | [_], _ => rfl
theorem f_Reader_read_declaration (T : Tx w K mg) : ∃ fd, FnP K d_Reader_read_declaration fd := T.c.def_ 41 (d := d_Reader_read_declaration) rfl
abbrev p_Reader_read_declaration : List Str := ["self"]
abbrev N_Reader_read_declaration : List Str := ["self"]
theorem sc_Reader_read_declaration : FnScope N_Reader_read_declaration p_Reader_read_declaration (defScope s_Reader_read_declaration) := ⟨rfl, rfl, rfl, by decide +kernel, rfl, by decide +kernel, by decide +kernel⟩
theorem b_Reader_read_declaration {fd : FuncData} (F : FnP K d_Reader_read_declaration fd) : Binds K fd p_Reader_read_declaration [] := FunD.bindsN F fun _ _ _ _ _ _ us hl => match us, hl with | [_], _ => rfl
theorem f_Reader_read_part_around (T : Tx w K mg) : ∃ fd, FnP K d_Reader_read_part_around fd := T.c.def_ 42 (d := d_Reader_read_part_around) rfl
abbrev p_Reader_read_part_around : List Str := ["self"]
abbrev N_Reader_read_part_around : List Str := ["self", "scan"]
theorem sc_Reader_read_part_around : FnScope N_Reader_read_part_around p_Reader_read_part_around (defScope s_Reader_read_part_around) := ⟨rfl, rfl, rfl, by decide +kernel, rfl, by decide +kernel, by decide +kernel⟩
theorem b_Reader_read_part_around {fd : FuncData} (F : FnP K d_Reader_read_part_around fd) : Binds K fd p_Reader_read_part_around [] := FunD.bindsN F fun _ _ _ _ _ _ us hl => match us, hl with | [_], _ => rfl
theorem f_Reader_read_part_of_content (T : Tx w K mg) : ∃ fd, FnP K d_Reader_read_part_of_content fd := T.c.def_ 43 (d := d_Reader_read_part_of_content) rfl
abbrev p_Reader_read_part_of_content : List Str := ["self"]
abbrev N_Reader_read_part_of_content : List Str := ["self", "scan", "sign"]
theorem sc_Reader_read_part_of_content : FnScope N_Reader_read_part_of_content p_Reader_read_part_of_content (defScope s_Reader_read_part_of_content) := ⟨rfl, rfl, rfl, by decide +kernel, rfl, by decide +kernel, by decide +kernel⟩
theorem b_Reader_read_part_of_content {fd : FuncData} (F : FnP K d_Reader_read_part_of_content fd) : Binds K fd p_Reader_read_part_of_content [] := FunD.bindsN F fun _ _ _ _ _ _ us hl => match us, hl with | [_], _ => rfl
theorem f_Reader_read_markup (T : Tx w K mg) : ∃ fd, FnP K d_Reader_read_markup fd := T.c.def_ 44 (d := d_Reader_read_markup) rfl
abbrev p_Reader_read_markup : List Str := ["self"]
abbrev N_Reader_read_markup : List Str := ["self", "sign"]
theorem sc_Reader_read_markup : FnScope N_Reader_read_markup p_Reader_read_markup (defScope s_Reader_read_markup) := ⟨rfl, rfl, rfl, by decide +kernel, rfl, by decide +kernel, by decide +kernel⟩
theorem b_Reader_read_markup {fd : FuncData} (F : FnP K d_Reader_read_markup fd) : Binds K fd p_Reader_read_markup [] := FunD.bindsN F fun _ _ _ _ _ _ us hl => match us, hl with | [_], _ => rfl
theorem f_Reader_read_comment_or_cdata (T : Tx w K mg) : ∃ fd, FnP K d_Reader_read_comment_or_cdata fd := T.c.def_ 45 (d := d_Reader_read_comment_or_cdata) rfl
abbrev p_Reader_read_comment_or_cdata : List Str := ["self"]
abbrev N_Reader_read_comment_or_cdata : List Str := ["self"]
theorem sc_Reader_read_comment_or_cdata : FnScope N_Reader_read_comment_or_cdata p_Reader_read_comment_or_cdata (defScope s_Reader_read_comment_or_cdata) := ⟨rfl, rfl, rfl, by decide +kernel, rfl, by decide +kernel, by decide +kernel⟩
theorem b_Reader_read_comment_or_cdata {fd : FuncData} (F : FnP K d_Reader_read_comment_or_cdata fd) : Binds K fd p_Reader_read_comment_or_cdata [] := FunD.bindsN F fun _ _ _ _ _ _ us hl => match us, hl with | [_], _ => rfl
theorem f_Reader_read_comment (T : Tx w K mg) : ∃ fd, FnP K d_Reader_read_comment fd := T.c.def_ 46 (d := d_Reader_read_comment) rfl
abbrev p_Reader_read_comment : List Str := ["self"]
abbrev N_Reader_read_comment : List Str := ["self", "text"]
theorem sc_Reader_read_comment : FnScope N_Reader_read_comment p_Reader_read_comment (defScope s_Reader_read_comment) := ⟨rfl, rfl, rfl, by decide +kernel, rfl, by decide +kernel, by decide +kernel⟩
theorem b_Reader_read_comment {fd : FuncData} (F : FnP K d_Reader_read_comment fd) : Binds K fd p_Reader_read_comment [] := FunD.bindsN F fun _ _ _ _ _ _ us hl => match us, hl with | [_], _ => rfl
theorem f_Reader_read_instruction (T : Tx w K mg) : ∃ fd, FnP K d_Reader_read_instruction fd := T.c.def_ 47 (d := d_Reader_read_instruction) rfl
abbrev p_Reader_read_instruction : List Str := ["self"]
abbrev N_Reader_read_instruction : List Str := ["self", "scan", "name", "text"]
theorem sc_Reader_read_instruction : FnScope N_Reader_read_instruction p_Reader_read_instruction (defScope s_Reader_read_instruction) := ⟨rfl, rfl, rfl, by decide +kernel, rfl, by decide +kernel, by decide +kernel⟩
theorem b_Reader_read_instruction {fd : FuncData} (F : FnP K d_Reader_read_instruction fd) : Binds K fd p_Reader_read_instruction [] := FunD.bindsN F fun _ _ _ _ _ _ us hl => match us, hl with | [_], _ => rfl
theorem f_Reader_read_tag (T : Tx w K mg) : ∃ fd, FnP K d_Reader_read_tag fd := T.c.def_ 48 (d := d_Reader_read_tag) rfl
abbrev p_Reader_read_tag : List Str := ["self"]
abbrev N_Reader_read_tag : List Str := ["self", "scan", "node", "is_open"]
theorem sc_Reader_read_tag : FnScope N_Reader_read_tag p_Reader_read_tag (defScope s_Reader_read_tag) := ⟨rfl, rfl, rfl, by decide +kernel, rfl, by decide +kernel, by decide +kernel⟩
theorem b_Reader_read_tag {fd : FuncData} (F : FnP K d_Reader_read_tag fd) : Binds K fd p_Reader_read_tag [] := FunD.bindsN F fun _ _ _ _ _ _ us hl => match us, hl with | [_], _ => rfl
theorem f_Reader_read_attributes (T : Tx w K mg) : ∃ fd, FnP K d_Reader_read_attributes fd := T.c.def_ 49 (d := d_Reader_read_attributes) rfl
abbrev p_Reader_read_attributes : List Str := ["self", "node"]
abbrev N_Reader_read_attributes : List Str := ["self", "node", "scan", "known", "name"]
theorem sc_Reader_read_attributes : FnScope N_Reader_read_attributes p_Reader_read_attributes (defScope s_Reader_read_attributes) := ⟨rfl, rfl, rfl, by decide +kernel, rfl, by decide +kernel, by decide +kernel⟩
theorem b_Reader_read_attributes {fd : FuncData} (F : FnP K d_Reader_read_attributes fd) : Binds K fd p_Reader_read_attributes [] := FunD.bindsN F fun _ _ _ _ _ _ us hl => match us, hl with | [_, _], _ => rfl
theorem f_Reader_read_end_tag (T : Tx w K mg) : ∃ fd, FnP K d_Reader_read_end_tag fd := T.c.def_ 50 (d := d_Reader_read_end_tag) rfl
abbrev p_Reader_read_end_tag : List Str := ["self"]
abbrev N_Reader_read_end_tag : List Str := ["self", "scan", "end"]
theorem sc_Reader_read_end_tag : FnScope N_Reader_read_end_tag p_Reader_read_end_tag (defScope s_Reader_read_end_tag) := ⟨rfl, rfl, rfl, by decide +kernel, rfl, by decide +kernel, by decide +kernel⟩
theorem b_Reader_read_end_tag {fd : FuncData} (F : FnP K d_Reader_read_end_tag fd) : Binds K fd p_Reader_read_end_tag [] := FunD.bindsN F fun _ _ _ _ _ _ us hl => match us, hl with | [_], _ => rfl
theorem f_Reader_put (T : Tx w K mg) : ∃ fd, FnP K d_Reader_put fd := T.c.def_ 51 (d := d_Reader_put) rfl
abbrev p_Reader_put : List Str := ["self", "node"]
abbrev N_Reader_put : List Str := ["self", "node"]
theorem sc_Reader_put : FnScope N_Reader_put p_Reader_put (defScope s_Reader_put) := ⟨rfl, rfl, rfl, by decide +kernel, rfl, by decide +kernel, by decide +kernel⟩
theorem b_Reader_put {fd : FuncData} (F : FnP K d_Reader_put fd) : Binds K fd p_Reader_put [] := FunD.bindsN F fun _ _ _ _ _ _ us hl => match us, hl with | [_, _], _ => rfl
theorem f_Reader_put_text (T : Tx w K mg) : ∃ fd, FnP K d_Reader_put_text fd := T.c.def_ 52 (d := d_Reader_put_text) rfl
abbrev p_Reader_put_text : List Str := ["self"]
abbrev N_Reader_put_text : List Str := ["self", "text"]
theorem sc_Reader_put_text : FnScope N_Reader_put_text p_Reader_put_text (defScope s_Reader_put_text) := ⟨rfl, rfl, rfl, by decide +kernel, rfl, by decide +kernel, by decide +kernel⟩
theorem b_Reader_put_text {fd : FuncData} (F : FnP K d_Reader_put_text fd) : Binds K fd p_Reader_put_text [] := FunD.bindsN F fun _ _ _ _ _ _ us hl => match us, hl with | [_], _ => rfl
theorem f_string_at (T : Tx w K mg) : ∃ fd, FnP K d_string_at fd := T.c.def_ 53 (d := d_string_at) rfl
abbrev p_string_at : List Str := ["tree", "place"]
abbrev N_string_at : List Str := ["tree", "place"]
theorem sc_string_at : FnScope N_string_at p_string_at (defScope s_string_at) := ⟨rfl, rfl, rfl, by decide +kernel, rfl, by decide +kernel, by decide +kernel⟩
theorem b_string_at {fd : FuncData} (F : FnP K d_string_at fd) : Binds K fd p_string_at [] := FunD.bindsN F fun _ _ _ _ _ _ us hl => match us, hl with | [_, _], _ => rfl
theorem f_node_at (T : Tx w K mg) : ∃ fd, FnP K d_node_at fd := T.c.def_ 54 (d := d_node_at) rfl
abbrev p_node_at : List Str := ["tree", "place"]
abbrev N_node_at : List Str := ["tree", "place", "node"]
theorem sc_node_at : FnScope N_node_at p_node_at (defScope s_node_at) := ⟨rfl, rfl, rfl, by decide +kernel, rfl, by decide +kernel, by decide +kernel⟩
theorem b_node_at {fd : FuncData} (F : FnP K d_node_at fd) : Binds K fd p_node_at [] := FunD.bindsN F fun _ _ _ _ _ _ us hl => match us, hl with | [_, _], _ => rfl
theorem f_node_in (T : Tx w K mg) : ∃ fd, FnP K d_node_in fd := T.c.def_ 55 (d := d_node_in) rfl
abbrev p_node_in : List Str := ["tree", "place"]
abbrev N_node_in : List Str := ["tree", "place", "node", "part"]
theorem sc_node_in : FnScope N_node_in p_node_in (defScope s_node_in) := ⟨rfl, rfl, rfl, by decide +kernel, rfl, by decide +kernel, by decide +kernel⟩
theorem b_node_in {fd : FuncData} (F : FnP K d_node_in fd) : Binds K fd p_node_in [] := FunD.bindsN F fun _ _ _ _ _ _ us hl => match us, hl with | [_, _], _ => rfl
theorem f_node_under (T : Tx w K mg) : ∃ fd, FnP K d_node_under fd := T.c.def_ 56 (d := d_node_under) rfl
abbrev p_node_under : List Str := ["node", "part"]
abbrev N_node_under : List Str := ["node", "part", "attribute"]
theorem sc_node_under : FnScope N_node_under p_node_under (defScope s_node_under) := ⟨rfl, rfl, rfl, by decide +kernel, rfl, by decide +kernel, by decide +kernel⟩
theorem b_node_under {fd : FuncData} (F : FnP K d_node_under fd) : Binds K fd p_node_under [] := FunD.bindsN F fun _ _ _ _ _ _ us hl => match us, hl with | [_, _], _ => rfl
theorem f_Lcell_at (T : Tx w K mg) : ∃ fd, FnP K d_Lcell_at fd := T.c.def_ 57 (d := d_Lcell_at) rfl
abbrev p_Lcell_at : List Str := ["_law_script", "_law_k"]
abbrev N_Lcell_at : List Str := ["_law_script", "_law_k"]
theorem sc_Lcell_at : FnScope N_Lcell_at p_Lcell_at (defScope s_Lcell_at) := ⟨rfl, rfl, rfl, by decide +kernel, rfl, by decide +kernel, by decide +kernel⟩
theorem b_Lcell_at {fd : FuncData} (F : FnP K d_Lcell_at fd) : Binds K fd p_Lcell_at [] := FunD.bindsN F fun _ _ _ _ _ _ us hl => match us, hl with | [_, _], _ => rfl
theorem f_Lwell (T : Tx w K mg) : ∃ fd, FnP K d_Lwell fd := T.c.def_ 58 (d := d_Lwell) rfl
abbrev p_Lwell : List Str := ["_law_cell"]
abbrev N_Lwell : List Str := ["_law_cell"]
theorem sc_Lwell : FnScope N_Lwell p_Lwell (defScope s_Lwell) := ⟨rfl, rfl, rfl, by decide +kernel, rfl, by decide +kernel, by decide +kernel⟩
theorem b_Lwell {fd : FuncData} (F : FnP K d_Lwell fd) : Binds K fd p_Lwell [] := FunD.bindsN F fun _ _ _ _ _ _ us hl => match us, hl with | [_], _ => rfl
theorem f_Ldraw (T : Tx w K mg) : ∃ fd, FnP K d_Ldraw fd := T.c.def_ 59 (d := d_Ldraw) rfl
abbrev p_Ldraw : List Str := ["_law_well_here", "_law_size"]
abbrev N_Ldraw : List Str := ["_law_well_here", "_law_size", "_law_found", "_law_seed", "_law_mixed"]
theorem sc_Ldraw : FnScope N_Ldraw p_Ldraw (defScope s_Ldraw) := ⟨rfl, rfl, rfl, by decide +kernel, rfl, by decide +kernel, by decide +kernel⟩
theorem b_Ldraw {fd : FuncData} (F : FnP K d_Ldraw fd) : Binds K fd p_Ldraw [] := FunD.bindsN F fun _ _ _ _ _ _ us hl => match us, hl with | [_, _], _ => rfl
theorem f_Lpick (T : Tx w K mg) : ∃ fd, FnP K d_Lpick fd := T.c.def_ 60 (d := d_Lpick) rfl
abbrev p_Lpick : List Str := ["_law_well_here", "_law_some"]
abbrev N_Lpick : List Str := ["_law_well_here", "_law_some"]
theorem sc_Lpick : FnScope N_Lpick p_Lpick (defScope s_Lpick) := ⟨rfl, rfl, rfl, by decide +kernel, rfl, by decide +kernel, by decide +kernel⟩
theorem b_Lpick {fd : FuncData} (F : FnP K d_Lpick fd) : Binds K fd p_Lpick [] := FunD.bindsN F fun _ _ _ _ _ _ us hl => match us, hl with | [_, _], _ => rfl
theorem f_Lsigns (T : Tx w K mg) : ∃ fd, FnP K d_Lsigns fd := T.c.def_ 61 (d := d_Lsigns) rfl
abbrev p_Lsigns : List Str := ["_law_well_here"]
abbrev N_Lsigns : List Str := ["_law_well_here", "_law_some", "_law_k"]
theorem sc_Lsigns : FnScope N_Lsigns p_Lsigns (defScope s_Lsigns) := ⟨rfl, rfl, rfl, by decide +kernel, rfl, by decide +kernel, by decide +kernel⟩
theorem b_Lsigns {fd : FuncData} (F : FnP K d_Lsigns fd) : Binds K fd p_Lsigns [] := FunD.bindsN F fun _ _ _ _ _ _ us hl => match us, hl with | [_], _ => rfl
theorem f_Lreferred (T : Tx w K mg) : ∃ fd, FnP K d_Lreferred fd := T.c.def_ 62 (d := d_Lreferred) rfl
abbrev p_Lreferred : List Str := ["_law_well_here", "_law_signs_here", "_law_base"]
abbrev N_Lreferred : List Str := ["_law_well_here", "_law_signs_here", "_law_base", "_law_found", "_law_sign", "_law_number", "_law_digits", "_law_turn", "_law_front"]
theorem sc_Lreferred : FnScope N_Lreferred p_Lreferred (defScope s_Lreferred) := ⟨rfl, rfl, rfl, by decide +kernel, rfl, by decide +kernel, by decide +kernel⟩
theorem b_Lreferred {fd : FuncData} (F : FnP K d_Lreferred fd) : Binds K fd p_Lreferred [] := FunD.bindsN F fun _ _ _ _ _ _ us hl => match us, hl with | [_, _, _], _ => rfl
theorem f_Lplain (T : Tx w K mg) : ∃ fd, FnP K d_Lplain fd := T.c.def_ 63 (d := d_Lplain) rfl
abbrev p_Lplain : List Str := ["_law_signs_here", "_law_is_inside"]
abbrev N_Lplain : List Str := ["_law_signs_here", "_law_is_inside", "_law_table", "_law_more", "_law_sign"]
theorem sc_Lplain : FnScope N_Lplain p_Lplain (defScope s_Lplain) := ⟨rfl, rfl, rfl, by decide +kernel, rfl, by decide +kernel, by decide +kernel⟩
theorem b_Lplain {fd : FuncData} (F : FnP K d_Lplain fd) : Binds K fd p_Lplain [] := FunD.bindsN F fun _ _ _ _ _ _ us hl => match us, hl with | [_, _], _ => rfl
theorem f_law (T : Tx w K mg) : ∃ fd, FnP K d_law fd := T.c.def_ 64 (d := d_law) rfl
abbrev p_law : List Str := ["_law_script"]
abbrev N_law : List Str := ["_law_script", "_law_cell", "_law_well_here", "_law_one", "_law_two", "_law_base", "_law_text", "_law_tree", "_law_due", "_law_again"]
theorem sc_law : FnScope N_law p_law (defScope s_law) := ⟨rfl, rfl, rfl, by decide +kernel, rfl, by decide +kernel, by decide +kernel⟩
theorem b_law {fd : FuncData} (F : FnP K d_law fd) : Binds K fd p_law [] := FunD.bindsN F fun _ _ _ _ _ _ us hl => match us, hl with | [_], _ => rfl
end
end PX
/-! PXExc -/
namespace PX
open PySem PySem.Spec PyProof.Rows L2
section
variable {P : Program} {w : World} {K : PySem.W.Frag} {mg : Str → Option Value} {base : Heap}
theorem nb_of (T : Tx w K mg) : nbB K = true := x_nb T
theorem vals_of : ∀ {vs : List He.Dv} (us : List Value), ((us.zip vs).all fun q => He.relB (q.2.v K) q.1) = true → us.length = vs.length → Vals (vs.map (He.Dv.v K)) us
  | [], [], _, _ => .nil
  | v :: vs, u :: us, h, e => by
    have h4 : (He.relB (v.v K) u && (us.zip vs).all fun q => He.relB (q.2.v K) q.1) = true := h
    obtain ⟨h5, h6⟩ := He.ba h4
    exact .cons (He.relB_ok h5) (vals_of us h6 (Nat.succ.inj e))
  | [], _ :: _, _, e => by cases e
  | _ :: _, [], _, e => by cases e
/-- a tuple of the head -/
theorem tup_of {a : Addr} {vs : List He.Dv} (h : tupB K a vs = true) (hl : vs.length ≤ sizeLine := by decide) : ∀ H, SqT K H a (vs.map (He.Dv.v K)) := by
  intro H
  unfold tupB at h
  cases q : K.lookup a with
  | none =>
    rw [q] at h
    cases h
  | some o =>
    obtain ⟨oc, od, dt, osl⟩ := o
    rw [q] at h
    cases dt with
    | seq us n =>
      obtain ⟨h1, h⟩ := He.ba h
      obtain ⟨h2, h3⟩ := He.ba h
      cases oc with
      | type c =>
        have ec : c = "tuple" := of_decide_eq_true h1
        subst ec
        have el : us.size = vs.length := of_decide_eq_true h2
        refine .inr ⟨_, us, n, q, rfl, rfl, by rw [el]; exact hl, ?_⟩
        obtain ⟨us⟩ := us
        exact vals_of us h3 el
      | _ => cases h1
    | _ => cases h
theorem strs_of {x : Str} {l : List Str} (h : strsB K x l = true) (hl : l.length ≤ sizeLine := by decide) : ∀ H, SqT K H (He.ga K x) (l.map V.str) := by
  intro H
  have := tup_of h (by rw [List.length_map]; exact hl) H
  rw [List.map_map] at this
  exact this
theorem none_booked (T : Tx w K mg) : ∀ h : Heap, K.In h → NoneBooked h := by
  intro h hK
  have hb := nb_of T
  unfold nbB at hb
  cases e : List.lookup cStatics K with
  | none => rw [e] at hb; cases hb
  | some o =>
    rw [e] at hb
    dsimp only at hb
    cases e2 : o.data with
    | dict es ep =>
      rw [e2] at hb
      dsimp only at hb
      rw [Bool.and_eq_true] at hb
      refine ⟨nsFind es, ⟨o, es, ep, hK _ _ e, e2, fun x hx => ?_, fun _ => rfl⟩, ?_⟩
      · have h1 := List.all_eq_true.mp hb.1 x (Array.mem_toList_iff.mpr hx)
        cases e3 : x.key with
        | str n t => exact ⟨n, t, rfl⟩
        | _ => rw [e3] at h1; cases h1
      · have h2 := hb.2
        cases e4 : nsFind es sharingNotToldKey with
        | none => rfl
        | some v => rw [e4] at h2; cases h2
    | _ => rw [e2] at hb; cases hb
end
end PX
/-! PXSpec -/
/-! What the tokens of a path's text are, on lists of codes. Plain Lean. -/
namespace PX
def isBl (c : Nat) : Bool := c == 32 || c == 9 || c == 10
def isLt (c : Nat) : Bool := (97 ≤ c && c ≤ 122) || (65 ≤ c && c ≤ 90) || c == 95
def isWd (c : Nat) : Bool := isLt c || (48 ≤ c && c ≤ 57) || c == 45 || c == 46
def isSg (c : Nat) : Bool := (32 ≤ c && c ≤ 126) || c == 9 || c == 10
def isDg (c : Nat) : Bool := 48 ≤ c && c ≤ 57
/-- how many signs at the head are such -/
def spN (p : Nat → Bool) : List Nat → Nat
  | [] => 0
  | c :: r => if p c then spN p r + 1 else 0
/-- is the first sign such a one -/
def hP (p : Nat → Bool) : List Nat → Bool
  | [] => false
  | c :: _ => p c
def nmN (l : List Nat) : Nat :=
  if hP (· == 58) (l.drop (spN isWd l)) && hP isLt (l.drop (spN isWd l + 1)) then spN isWd l + 1 + spN isWd (l.drop (spN isWd l + 1)) else spN isWd l
def nuN (l : List Nat) : Nat :=
  if hP (· == 46) (l.drop (spN isDg l)) then spN isDg l + 1 + spN isDg (l.drop (spN isDg l + 1)) else spN isDg l
inductive Ki where
  | nam | num | txt | sgn | opn | brk | fin
deriving DecidableEq
/-- a token: its kind, its length -/
def sgL : List (List Nat) := [[58, 58], [47, 47], [46, 46], [33, 61], [60, 61], [62, 61], [47], [46], [64], [36], [42], [124], [43], [45], [61], [60], [62], [40], [41], [91], [93], [44]]
def sgN (l : List Nat) : Option (List Nat) := sgL.find? fun w => l.take w.length == w
def qtN (l : List Nat) : Nat := spN (fun c => isSg c && c != 39 && c != 34) l
def tkN : List Nat → Ki × Nat
  | [] => (.fin, 0)
  | c :: r =>
    if isLt c then (.nam, nmN (c :: r))
    else if isDg c || (c == 46 && hP isDg r) then (.num, nuN (c :: r))
    else if c == 39 || c == 34 then
      let n := spN (fun d => isSg d && d != c) r
      if hP (· == c) (r.drop n) then (.txt, n + 2) else (.opn, n + 1)
    else match sgN (c :: r) with
      | some w => (.sgn, w.length)
      | none => (.brk, 1)
def Ki.ends : Ki → Bool
  | .fin | .opn | .brk => true
  | _ => false
/-- the tokens behind the place i: fuel, the place, the signs from there -/
def tksN : Nat → Nat → List Nat → List (Ki × List Nat × Nat)
  | 0, _, _ => []
  | f + 1, i, l =>
    let b := spN isBl l
    let t := tkN (l.drop b)
    let wd := (l.drop b).take t.2
    (t.1, wd, i + b) :: if t.1.ends then [] else tksN f (i + b + wd.length) (l.drop (b + wd.length))
theorem spN_le (p : Nat → Bool) : ∀ l : List Nat, spN p l ≤ l.length
  | [] => Nat.le_refl _
  | c :: r => by
    show (if p c = true then spN p r + 1 else 0) ≤ r.length + 1
    have := spN_le p r
    split <;> omega
theorem nmN_pos {c : Nat} {r : List Nat} (h : isLt c = true) : 1 ≤ nmN (c :: r) := by
  have hw : isWd c = true := by
    unfold isWd
    rw [h]
    rfl
  have e : spN isWd (c :: r) = spN isWd r + 1 := by
    show (if isWd c = true then spN isWd r + 1 else 0) = _
    rw [if_pos hw]
  unfold nmN
  split <;> omega
theorem nuN_pos {c : Nat} {r : List Nat} (h : (isDg c || (c == 46 && hP isDg r)) = true) : 1 ≤ nuN (c :: r) := by
  unfold nuN
  split
  · omega
  · rename_i h2
    have e : spN isDg (c :: r) = if isDg c = true then spN isDg r + 1 else 0 := rfl
    cases hd : isDg c with
    | true => rw [e, hd, if_pos rfl]; omega
    | false =>
      rw [hd, Bool.false_or, Bool.and_eq_true] at h
      rw [e, hd, if_neg Bool.false_ne_true] at h2
      exact absurd h.1 h2
theorem sgN_len {l w : List Nat} (h : sgN l = some w) : 1 ≤ w.length := by
  unfold sgN at h
  have hm := List.mem_of_find?_eq_some h
  have : ∀ w ∈ sgL, 1 ≤ w.length := by decide
  exact this w hm
theorem tkN_pos {l : List Nat} (h : (tkN l).1.ends = false) : 1 ≤ (tkN l).2 ∧ l ≠ [] := by
  cases l with
  | nil => cases h
  | cons c r =>
    refine ⟨?_, List.cons_ne_nil c r⟩
    have htk : tkN (c :: r) = if isLt c = true then (.nam, nmN (c :: r)) else if (isDg c || (c == 46 && hP isDg r)) = true then (.num, nuN (c :: r)) else if (c == 39 || c == 34) = true then
          (if hP (· == c) (r.drop (spN (fun d => isSg d && d != c) r)) = true then (.txt, spN (fun d => isSg d && d != c) r + 2) else (.opn, spN (fun d => isSg d && d != c) r + 1))
        else match sgN (c :: r) with
          | some w => (.sgn, w.length)
          | none => (.brk, 1) := rfl
    rw [htk] at h ⊢
    split
    · rename_i h1
      exact nmN_pos h1
    · split
      · rename_i h1
        exact nuN_pos h1
      · split
        · split
          · show 1 ≤ spN _ r + 2
            omega
          · show 1 ≤ spN _ r + 1
            omega
        · cases hs : sgN (c :: r) with
          | some w => exact sgN_len hs
          | none => exact Nat.le_refl _
end PX
/-! PXStr -/
namespace PX
open PySem PySem.Spec PyProof.Rows L2 TL
/-! ### texts by their codes -/
def mkS (l : List Nat) : Str := ⟨l.toArray⟩
theorem tl_mkS (l : List Nat) : tl (mkS l) = l := rfl
theorem mkS_tl (z : Str) : mkS (tl z) = z := mk_tl z
theorem mkS_len (l : List Nat) : (mkS l).length = l.length := by rw [len_tl, tl_mkS]
/-- the next sign, as a text -/
abbrev sg (l : List Nat) : Str := mkS (l.take 1)
theorem mkS_inj {a b : List Nat} (h : mkS a = mkS b) : a = b := by
  have e := congrArg tl h
  exact e
theorem lit {s : String} {l : List Nat} (h : s.toList.map Char.toNat = l := by rfl) : (Str.ofString s) = mkS l := ext_tl (by rw [tl_ofString, h, tl_mkS])
theorem dec_str (a b : Str) : decide (V.str a = V.str b) = decide (tl a = tl b) := by
  by_cases h : a = b
  · subst h
    simp
  · have h1 : ¬ V.str a = V.str b := fun e => h (V.str.inj e)
    have h2 : ¬ tl a = tl b := fun e => h (ext_tl e)
    simp [h1, h2]
theorem eqV_str (a b : Str) : eqV (.str a) (.str b) = decide (tl a = tl b) := by
  show (a == b) = _
  rw [← dec_str]
  by_cases h : a = b
  · subst h
    simp
  · have h1 : ¬ V.str a = V.str b := fun e => h (V.str.inj e)
    simp [h, h1]
def hB (p : Nat → Bool) : List Nat → Bool
  | c :: _ => p c
  | [] => false
theorem cut_nat (z : Str) (i j : Nat) : cutS z (some (i : Int)) (some (j : Int)) = mkS (((tl z).drop i).take (j - i)) := by
  refine ext_tl ?_
  show ((z.cps.toList.drop (HT.sIx z.length 0 (some (i : Int)))).take (HT.sIx z.length z.length (some (j : Int)) - HT.sIx z.length 0 (some (i : Int)))) = ((tl z).drop i).take (j - i)
  rw [HT.sIx_nat, HT.sIx_nat]
  have hl : z.length = (tl z).length := len_tl z
  rw [hl]
  show (((tl z).drop (min i (tl z).length)).take (min j (tl z).length - min i (tl z).length)) = _
  generalize tl z = t
  by_cases h : i ≤ t.length
  · rw [Nat.min_eq_left h]
    by_cases h2 : j ≤ t.length
    · rw [Nat.min_eq_left h2]
    · rw [Nat.min_eq_right (Nat.le_of_not_le h2), List.take_of_length_le (by rw [List.length_drop]; omega), List.take_of_length_le (by rw [List.length_drop]; omega)]
  · have h' := Nat.le_of_not_le h
    rw [Nat.min_eq_right h', List.drop_of_length_le (Nat.le_refl _), List.drop_of_length_le h']
    simp
theorem cut_one (z : Str) (i : Nat) : cutS z (some (i : Int)) (some ((i : Int) + 1)) = sg ((tl z).drop i) := by
  have e : ((i : Int) + 1) = ((i + 1 : Nat) : Int) := by omega
  rw [e, cut_nat, show i + 1 - i = 1 by omega]
theorem dec1 (a c : Nat) : decide ([a] = [c]) = (c == a) := by
  by_cases h : c = a
  · subst h
    simp
  · rw [decide_eq_false (fun e => h (List.cons.inj e).1.symm)]
    exact (beq_eq_false_iff_ne.mpr h).symm
theorem sg_cons (c : Nat) (r : List Nat) : sg (c :: r) = mkS [c] := rfl
theorem sg_nil : sg [] = mkS [] := rfl
/-! ### the signs -/
section
variable {P : Program} {w : World} {K : PySem.W.Frag} {mg : Str → Option Value} {base : Heap}
/-- a def of a text of one sign (or none) that tells a truth, and changes nothing -/
def spSg (p : Nat → Bool) : Sp := fun vs H Q _ => ∃ l : List Nat, vs = [.str (sg l)] ∧ ∀ H', Same H H' → Q (.bl (hB p l)) H'
theorem same_new {H : Hp} {p : Addr} {o : HO} (h : H p = none) : Same H (upd H p o) := fun b o' e => by rw [upd_ne (ne_of_none e h)]; exact e
end
end PX
/-! PXSig -/
namespace PX
open PySem PySem.Spec PyProof.Rows L2 TL
theorem hB_sg {p : Nat → Bool} {c : Nat} {r : List Nat} : hB p (c :: r) = p c := rfl
theorem lt1 (a b : Nat) : decide ([a] < [b]) = decide (a < b) := by
  by_cases h : a < b
  · rw [decide_eq_true h, decide_eq_true (List.cons_lt_cons_iff.mpr (.inl h))]
  · rw [decide_eq_false h]
    refine decide_eq_false fun e => ?_
    rcases List.cons_lt_cons_iff.mp e with e | ⟨_, e⟩
    · exact h e
    · exact absurd e (by simp)
theorem lt0 (b : Nat) : decide (([] : List Nat) < [b]) = true := decide_eq_true (List.nil_lt_cons _ _)
theorem dec1r (a c : Nat) : decide ([c] = [a]) = (c == a) := by
  by_cases h : c = a
  · subst h
    simp
  · rw [decide_eq_false (fun e => h (List.cons.inj e).1)]
    exact (beq_eq_false_iff_ne.mpr h).symm
def spSgA (p : Nat → Bool) : Sp := fun vs H Q _ => ∃ l : List Nat, vs = [.str (sg l)] ∧ (∀ c r, l = c :: r → c < 128) ∧ ∀ H', Same H H' → Q (.bl (hB p l)) H'
abbrev Ok (P : Program) (w : World) (K : PySem.W.Frag) (mg : Str → Option Value) (base : Heap) (CX : CXT) (k : Nat) (f : Addr) (ps : List Str) (sp : Sp) : Prop :=
  ∃ fd, FnOk P w K mg base CX k f fd ps sp ∧ Binds K fd ps [] ∧ PySem.W.keepIn K (.ref f) = true
section
variable {P : Program} {w : World} {K : PySem.W.Frag} {mg : Str → Option Value} {base : Heap}
theorem ok_is_sign (T : Tx w K mg) : Ok P w K mg base CX0 1 (He.fAd K d_is_sign.at_) p_is_sign (spSg isSg) := by
  obtain ⟨fd, F⟩ := f_is_sign T
  refine ⟨fd, ?_, b_is_sign F, F.kp⟩
  refine F.ok sc_is_sign (fun vs H Q E h => ?_) (fun cdv A outer s H vs Q E hr h => ?_)
  · obtain ⟨l, rfl, _⟩ := h
    rfl
  · obtain ⟨l, rfl, k⟩ := h
    refine ⟨_, PSs.nox (pss_one (ps_ret (pe_or (pe_chain op_le_str op_le_str pe_str (pv 0) pe_str) (pe_one (pe_cmpR op_in_seq (pv 0) (pe_tup (pa_cons pe_str (pa_cons pe_str pa_nil))) (by rfl)))))), ?_⟩
    have tup : ∀ (B : Bool), (B = false → hB isSg l = (inV (.str (sg l)) [.str (Str.ofString "\t"), .str (Str.ofString "\n")])) → (B = true → hB isSg l = true) → ∃ c, V.bl B = .bl c ∧ if c = true then Q (.bl true) H else
        ∃ v, (start N_is_sign [V.str (sg l)])[0]? = some (some v) ∧ (2 ≤ sizeLine) ∧ ∀ p, H p = none → rIn K false v (.ref p) (upd H p (.tup [.str (Str.ofString "\t"), .str (Str.ofString "\n")])) Q := by
      intro B h1 h2
      refine ⟨B, rfl, ?_⟩
      cases B with
      | true =>
        rw [if_pos rfl]
        have e := k H (Same.refl H)
        rw [h2 rfl] at e
        exact e
      | false =>
        rw [if_neg Bool.false_ne_true]
        refine ⟨_, rfl, (by decide), fun p hp => ⟨p, _, rfl, .inr (SqT.of upd_same), rfl, rfl, ?_⟩⟩
        show Q (.bl (if false = true then !inV _ _ else inV _ _)) _
        rw [if_neg Bool.false_ne_true, ← h1 rfl]
        exact k _ (same_new hp)
    have e9 : ∀ c r, l = c :: r → inV (.str (sg l)) [.str (Str.ofString "\t"), .str (Str.ofString "\n")] = (c == 9 || c == 10) := by
      intro c r e
      show (eqV _ _ || (eqV _ _ || false)) = _
      rw [eqV_str, eqV_str, lit (s := "\t") (l := [9]), lit (s := "\n") (l := [10]), tl_mkS, tl_mkS, tl_mkS, e]
      show (decide ([9] = [c]) || (decide ([10] = [c]) || false)) = _
      rw [dec1, dec1, Bool.or_false]
    refine ⟨_, rfl, _, _, rfl, rfl, _, rfl, ?_⟩
    rw [show (Str.ofString " ").cps.toList = [32] by rfl, show (sg l).cps.toList = l.take 1 by rfl]
    cases l with
    | nil =>
      rw [show ([] : List Nat).take 1 = [] by rfl, lt0]
      show if (!true) = true then _ else _
      rw [if_neg (by decide)]
      exact tup false (fun _ => by rfl) (fun z => by cases z)
    | cons c r =>
      rw [show (c :: r).take 1 = [c] by rfl, lt1]
      by_cases h1 : c < 32
      · rw [decide_eq_true h1]
        show if (!true) = true then _ else _
        rw [if_neg (by decide)]
        refine tup false (fun _ => ?_) (fun z => by cases z)
        rw [e9 c r rfl, hB_sg]
        unfold isSg
        have : ¬ 32 ≤ c := by omega
        simp [this]
      · rw [decide_eq_false h1]
        show if (!false) = true then _ else _
        rw [if_pos (by decide)]
        refine ⟨_, _, rfl, rfl, ?_⟩
        rw [show (Str.ofString "~").cps.toList = [126] by rfl, show (sg (c :: r)).cps.toList = [c] by rfl, lt1]
        refine tup _ (fun z => ?_) (fun z => ?_)
        · rw [e9 c r rfl, hB_sg]
          unfold isSg
          have h2 : 126 < c := by
            have z2 : decide (126 < c) = true := by
              cases q : decide (126 < c) with
              | true => rfl
              | false => rw [q] at z; cases z
            exact of_decide_eq_true z2
          have : ¬ c ≤ 126 := by omega
          simp [this]
        · rw [hB_sg]
          unfold isSg
          have h2 : ¬ 126 < c := by
            have z2 : decide (126 < c) = false := by
              cases q : decide (126 < c) with
              | false => rfl
              | true => rw [q] at z; cases z
            exact of_decide_eq_false z2
          have h3 : c ≤ 126 := by omega
          have h4 : 32 ≤ c := by omega
          simp [h3, h4]

end
end PX
/-! PXTa -/
namespace PX
open PySem PySem.Spec PyProof.Rows L2 TL
theorem iteT {c : Bool} {p q : Prop} (h : p) (e : c = true := by rfl) : if c = true then p else q := by
  rw [if_pos e]
  exact h
theorem iteF {c : Bool} {p q : Prop} (h : q) (e : c = false := by rfl) : if c = true then p else q := by
  rw [e, if_neg Bool.false_ne_true]
  exact h
/-- the texts that are read -/
structure Gd (z : Str) : Prop where
  sg : ∀ c ∈ tl z, isSg c = true
  len : z.length ≤ 400000
theorem Gd.lt {z : Str} (g : Gd z) {i : Nat} {c : Nat} {r : List Nat} (h : (tl z).drop i = c :: r) : c < 128 := by
  have m : c ∈ tl z := List.mem_of_mem_drop (i := i) (by rw [h]; exact List.mem_cons_self)
  have := g.sg c m
  unfold isSg at this
  simp only [Bool.or_eq_true, Bool.and_eq_true, decide_eq_true_eq, beq_iff_eq] at this
  omega
theorem Gd.log {z : Str} (g : Gd z) {n : Nat} (h : n ≤ z.length) : ((n : Int)).natAbs.log2 < 1920 := by
  have h1 := g.len
  have h2 : n < 2 ^ 20 := by omega
  rw [Int.natAbs_natCast]
  by_cases h0 : n = 0
  · subst h0
    decide
  · have := (Nat.log2_lt h0).mpr h2
    omega
theorem Gd.line {z : Str} (g : Gd z) : z.length ≤ sizeLine := by
  have := g.len
  rw [sizeLine_eq]
  omega
theorem drop_cons {l : List Nat} {i c : Nat} {r : List Nat} (h : l.drop i = c :: r) : i < l.length ∧ l.drop (i + 1) = r := by
  constructor
  · have := congrArg List.length h
    simp only [List.length_drop, List.length_cons] at this
    omega
  · rw [← List.drop_drop, h]
    rfl
theorem drop_add {l : List Nat} {i n : Nat} : l.drop (i + n) = (l.drop i).drop n := by rw [List.drop_drop]
theorem while_x {c : TT} {tb : TS} {D : Ends} {σ : L2.St} {H : Hp} (Pv : Nat → L2.St → Hp → Prop) (Fin : L2.St → Hp → Prop) (h0 : ∃ m, Pv m σ H) (hf : ∀ σ H, Fin σ H → D.nx σ H)
    (hs : (∀ σ H, Fin σ H → D.nx σ H) → ∀ m σ H (R : Bool → Hp → Prop), Pv m σ H → (∀ H1, Fin σ H1 → R false H1) →
      (∀ H1, tb { D with nx := fun σ' H' => ∃ m', m' < m ∧ Pv m' σ' H', ct := fun σ' H' => ∃ m', m' < m ∧ Pv m' σ' H', bk := D.nx } σ H1 → R true H1) → c σ H R) : tWhile c tb D σ H :=
  ⟨Pv, h0, fun m σ H p => hs hf m σ H _ p (fun H1 f => by rw [if_neg Bool.false_ne_true]; exact hf _ _ f) (fun H1 b => by rw [if_pos rfl]; exact ⟨_, fun _ _ z => z, b⟩)⟩
theorem hB_hP (p : Nat → Bool) (l : List Nat) : hB p l = hP p l := by cases l <;> rfl
theorem sg_is (l : List Nat) (c : Nat) : decide (V.str (sg l) = V.str (mkS [c])) = hP (· == c) l := by
  rw [dec_str, tl_mkS, tl_mkS]
  cases l with
  | nil => exact decide_eq_false (fun h => by cases h)
  | cons d r => exact dec1r c d
theorem sg_lit (l : List Nat) {s : String} {c : Nat} (h : s.toList.map Char.toNat = [c] := by rfl) : decide (V.str (sg l) = V.str (Str.ofString s)) = hP (· == c) l := by
  rw [lit h]
  exact sg_is l c
theorem sg_empty (l : List Nat) : decide (V.str (sg l) = V.str (Str.ofString "")) = l.isEmpty := by
  rw [dec_str, lit (s := "") (l := []), tl_mkS, tl_mkS]
  cases l with
  | nil => rfl
  | cons d r => exact decide_eq_false (fun h => by cases h)
theorem mem_eq {l : List Nat} {p : Nat → Bool} (h1 : (List.range 128).all (fun c => decide (c ∈ l) == p c) = true) (h2 : l.all (fun c => decide (c < 128)) = true) (h3 : ∀ c, 128 ≤ c → p c = false) (c : Nat) : decide (c ∈ l) = p c := by
  by_cases h : c < 128
  · have := List.all_eq_true.mp h1 c (List.mem_range.mpr h)
    exact eq_of_beq this
  · rw [h3 c (by omega)]
    refine decide_eq_false fun hc => ?_
    have := List.all_eq_true.mp h2 c hc
    exact h (of_decide_eq_true this)
theorem isDg_hi (c : Nat) (h : 128 ≤ c) : isDg c = false := by
  unfold isDg
  rw [decide_eq_false (p := c ≤ 57) (by omega), Bool.and_false]
def spTo (p : Nat → Bool) : Sp := fun vs H Q _ => ∃ (z : Str) (i : Nat), vs = [.str z, .int i] ∧ Gd z ∧ ∀ H', Same H H' → Q (.int ((i + spN p ((tl z).drop i) : Nat) : Int)) H'
end PX
/-! PXTr -/
namespace PX
open PySem PySem.Spec PyProof.Rows L2 TL PySem.Builtin PySem.Builtin.Str
/-! ### text.translate(table), a table that gives a blank for some small signs -/
def TabT (p : Nat → Bool) (f : Int → Option Value) : Prop := ∀ c : Nat, c < 128 → (p c = true → ∃ tk, f c = some (.str (Str.ofString " ") tk)) ∧ (p c = false → f c = none)
def exch (p : Nat → Bool) (c : Nat) : Nat := if p c then 32 else c
def mapd (p : Nat → Bool) (c : Nat) : Mapped := if p c then .text (Str.ofString " ") else .keep
section
variable {P : Program} {w : World}
theorem tab_keeps {h1 h2 : Heap} {d : Addr} {f : Int → Option Value} (m : h1.MapOf (intKind P w) d f) (k : ∀ a o, h1.get? a = some o → h2.get? a = some o) : h2.MapOf (intKind P w) d f :=
  let ⟨o, es, n, e, r⟩ := m
  ⟨o, es, n, k _ _ e, r⟩
theorem look_tab {p : Nat → Bool} {f : Int → Option Value} {A : Around} {s : Shared} {d : Addr} {c : Nat} {Q : Mapped → Shared → Prop} {E : Value → Shared → Prop} (quiet : A.handled = none) (low : (d == sysModules) = false)
    (m : s.heap.MapOf (intKind P w) d f) (tb : TabT p f) (hc : c < 128) (q : ∀ h2 k, (∀ a o, s.heap.get? a = some o → h2.get? a = some o) → Q (mapd p c) { s with heap := h2, toks := k }) :
    wpAny (model P w) A (tableLookup (.ref d) c) Q E s := by
  obtain ⟨t1, t2⟩ := tb c hc
  unfold tableLookup
  apply wpAny_bind
  apply wpAny_attempt
  apply wpAny_bind
  apply wpAny_mkInt
  cases hp : p c with
  | true =>
    obtain ⟨tk, e⟩ := t1 hp
    have em : mapd p c = .text (Str.ofString " ") := by
      unfold mapd
      rw [hp]
      rfl
    rw [em] at q
    refine wpAny_getItem_of (knd := intKind P w) (k := (c : Int)) ?_ m e ?_
    rotate_left
    · apply wpAny_bind
      apply wpAny_of_eq (a := (none : Option Int)) rfl
      apply wpAny_bind
      apply wpAny_of_eq (a := some (Str.ofString " ")) rfl
      exact wpAny_pure (q _ _ fun _ _ z => z)
    · simp [intKind, Value.isInt]
  | false =>
    have e := t2 hp
    have em : mapd p c = .keep := by
      unfold mapd
      rw [hp]
      rfl
    rw [em] at q
    refine wpAny_getItem_missing_of (knd := intKind P w) (k := (c : Int)) ?_ low quiet m e ?_
    rotate_left
    · intro h2 er nx
      obtain ⟨ob, _, ho, hcl, _⟩ := nx.there
      apply wpAny_bind
      refine wpAny_isInstance (T := "KeyError") (b := true) ?_ key_is_lookup ?_
      · exact ⟨ob, ho, hcl⟩
      show wpAny _ _ (if true = true then _ else _) _ _ _
      rw [if_pos rfl]
      exact wpAny_bind (wpAny_rule (wpAny_pure (q h2 _ nx.keeps)))
    · simp [intKind, Value.isInt]
/-- what stands while the signs are gone through -/
def Walked (p : Nat → Bool) (x : List Nat) (s : Shared) (rest : List Nat) (b : List Str × Nat × Bool × List (Nat × Option Nat) × Bool) (s2 : Shared) : Prop :=
  ∃ (done : List Nat) (known : List (Nat × Option Nat)) (h2 : Heap) (k : Nat), x = done ++ rest ∧ b = ((done.map fun c => (⟨#[exch p c]⟩ : Str)).reverse, done.length, true, known, false) ∧
    (∀ c r, known.lookup c = some r → r = some (exch p c)) ∧ s2 = { s with heap := h2, toks := k } ∧ ∀ a o, s.heap.get? a = some o → h2.get? a = some o
theorem Walked.on {p : Nat → Bool} {x done rest : List Nat} {c : Nat} {s : Shared} {known : List (Nat × Option Nat)} {h2 : Heap} {k : Nat} (hx : x = done ++ c :: rest) (hk : ∀ c r, known.lookup c = some r → r = some (exch p c)) (kp : ∀ a o, s.heap.get? a = some o → h2.get? a = some o) :
    Walked p x s rest (⟨#[exch p c]⟩ :: (done.map fun c => (⟨#[exch p c]⟩ : Str)).reverse, done.length + 1, true, known, false) { s with heap := h2, toks := k } := by
  refine ⟨done ++ [c], known, h2, k, by rw [hx, List.append_assoc]; rfl, ?_, hk, rfl, kp⟩
  rw [List.map_append, List.reverse_append, List.length_append]
  rfl
theorem known_add {p : Nat → Bool} {known : List (Nat × Option Nat)} (hk : ∀ c r, known.lookup c = some r → r = some (exch p c)) (c : Nat) : ∀ d r, List.lookup d ((c, some (exch p c)) :: known) = some r → r = some (exch p d) := by
  intro d r h
  rw [List.lookup_cons] at h
  cases q : d == c with
  | true =>
    rw [q] at h
    rw [eq_of_beq q]
    exact (Option.some.inj h).symm
  | false =>
    rw [q] at h
    exact hk d r h
theorem fold_one (p : Nat → Bool) : ∀ (l : List Nat) (acc : Array Nat), (l.map fun c => (⟨#[exch p c]⟩ : Str)).foldl (fun acc y => acc ++ y.cps) acc = acc ++ (l.map (exch p)).toArray
  | [], acc => by simp
  | c :: l, acc => by
    show (l.map fun c => (⟨#[exch p c]⟩ : Str)).foldl (fun acc y => acc ++ y.cps) (acc ++ #[exch p c]) = _
    rw [fold_one p l]
    refine Array.toList_inj.mp ?_
    simp
theorem meets_tab (p : Nat → Bool) (x : List Nat) (tk : Tok) (d : Addr) (low : (d == sysModules) = false) (small : ∀ c ∈ x, c < 128) (hz : x.length ≤ 16000000) :
    MeetsIn P w («str.translate» ⟨[.str (SX.S x) tk, .ref d], []⟩) (fun A R s => A.handled = none ∧ (∃ f, s.heap.MapOf (intKind P w) d f ∧ TabT p f) ∧
      ∀ (v : Value) (h2 : Heap) (k : Nat), (∀ a o, s.heap.get? a = some o → h2.get? a = some o) → (∃ tk, v = .str (SX.S (x.map (exch p))) tk) → R (.ok (.ret v)) { s with heap := h2, toks := k }) := by
  refine .of_wp fun A R s hyp => ?_
  obtain ⟨quiet, ⟨f, m, tb⟩, fin⟩ := hyp
  have quiet1 : A.in1.handled = none := quiet
  have hall : (SX.S x).cps.all (fun y => decide (y < 128)) = true := by
    rw [Array.all_eq_true_iff_forall_mem]
    intro c hc
    exact decide_eq_true (small c (by simpa using hc))
  show wpAny _ _ (if ((SX.S x).length == 0) = true then (do rule "str.translate.empty"; ret (.str (SX.S x) tk)) else (do
    let st ← forIn (SX.S x).cps (([], 0, (SX.S x).cps.all fun y => decide (y < 128), [], false) : List Str × Nat × Bool × List (Nat × Option Nat) × Bool) _
    _)) _ _ s
  rw [hall]
  cases h0 : ((SX.S x).length == 0) with
  | true =>
    rw [if_pos rfl]
    have e : x = [] := List.eq_nil_of_length_eq_zero (by rw [← SX.S_len x]; exact eq_of_beq h0)
    subst e
    exact wpAny_bind (wpAny_rule (wpAny_pure ⟨_, rfl, fin _ s.heap s.toks (fun _ _ z => z) ⟨tk, rfl⟩⟩))
  | false =>
    rw [if_neg Bool.false_ne_true]
    refine wpAny_bind (MeetsSeq2.wpAny_forIn_array _ (Walked p x s) _ ?_ ?_ (SX.S x).cps _ ?_)
    rotate_left 2
    · refine ⟨[], [], s.heap, s.toks, by simp, rfl, ?_, rfl, fun _ _ z => z⟩
      intro c r z
      cases z
    · rintro c rest b s2 ⟨done, known, h2, k, hx, rfl, hk, rfl, kp⟩
      have hd : done.length ≤ 16000000 := by
        have := congrArg List.length hx
        rw [List.length_append] at this
        omega
      have hc : c < 128 := small c (by rw [hx]; exact List.mem_append_right _ List.mem_cons_self)
      have m2 : ({ s with heap := h2, toks := k } : Shared).heap.MapOf (intKind P w) d f := tab_keeps m kp
      show wpAny _ _ (if tooLong done.length = true then _ else (if true = true then _ else _)) _ _ _
      rw [show tooLong done.length = false from PyProof.Rows.short24 (by omega), if_neg Bool.false_ne_true, if_pos rfl]
      cases hl : known.lookup c with
      | some a =>
        have ha := hk c a hl
        subst ha
        exact wpAny_bind (wpAny_pure (wpAny_pure (Walked.on hx hk kp)))
      | none =>
        refine wpAny_bind (look_tab quiet1 low m2 tb hc fun h3 k3 kp3 => ?_)
        have kp' : ∀ a o, s.heap.get? a = some o → h3.get? a = some o := fun a o z => kp3 a o (kp a o z)
        have w1 := Walked.on (k := k3) hx (known_add hk c) kp'
        cases hp : p c with
        | true =>
          have e1 : mapd p c = .text (Str.ofString " ") := by unfold mapd; rw [hp]; rfl
          have e2 : exch p c = 32 := by unfold exch; rw [hp]; rfl
          rw [e1]
          rw [e2] at w1
          have e3 : (if ((Str.ofString " ").length == 1 && (Str.ofString " ").cps.all fun x => decide (x < 128)) = true then some (Str.ofString " ").cps[0]? else none) = some (some 32) := by decide +kernel
          dsimp only
          rw [e3]
          exact wpAny_bind (wpAny_pure (wpAny_pure w1))
        | false =>
          have e1 : mapd p c = .keep := by unfold mapd; rw [hp]; rfl
          have e2 : exch p c = c := by unfold exch; rw [hp]; rfl
          rw [e1]
          rw [e2] at w1
          exact wpAny_bind (wpAny_pure (wpAny_pure w1))
    · rintro b s2 ⟨done, known, h2, k, hx, rfl, hk, rfl, kp⟩
      rw [List.append_nil] at hx
      subst hx
      show wpAny _ _ (if tooLong x.length = true then _ else retStr { cps := List.foldl (fun acc (y : Str) => acc ++ y.cps) #[] (x.map fun c => (⟨#[exch p c]⟩ : Str)).reverse.reverse }) _ _ _
      rw [show tooLong x.length = false from PyProof.Rows.short24 (by omega), if_neg Bool.false_ne_true, List.reverse_reverse, fold_one]
      have e : (⟨#[] ++ (x.map (exch p)).toArray⟩ : Str) = SX.S (x.map (exch p)) := by rw [Array.empty_append]
      rw [e]
      exact wpAny_bind (wpAny_mkStr (wpAny_pure ⟨_, rfl, fin _ h2 _ kp ⟨_, rfl⟩⟩) (by rw [SX.S_len, List.length_map, sizeLine_eq]; omega))
end
end PX
/-! PXT -/
namespace PX
open PySem PySem.Spec PyProof.Rows L2 TL PySem.Builtin PySem.Builtin.Str
/-! ### tests and calls that want a token given out before -/
def PTT (X : Cx) (c : Expr) (t : TT) : Prop := ∀ (pins : List (Addr × Obj)) (s : Shared) (σ : L2.St) (H : Hp) (Q : Bool → Hp → Prop), 1 ≤ s.toks → Inv X pins σ H s → t σ H Q → wpAny (model X.prog X.w) X.A (isTrue c X.env (eval c X.env)) (TP X pins σ Q) X.xe s
section
variable {X : Cx} {pos p apos : Pos}
theorem ptt_or {a b : Expr} {ta tb : TT} (ha : PT X a ta) (hb : PTT X b tb) : PTT X (.BoolOp .Or [a, b] pos) (tOr ta tb) := by
  intro pins s σ H Q h0 I h
  refine isTrue_or (wpAny_mono (PySem.wpAny_toks (ha.run pins s σ H _ I h)) (fun c s1 q => ?_) fun _ _ z => z.2)
  obtain ⟨hk, H1, I1, q1⟩ := q
  cases c with
  | true => exact ⟨H1, I1, q1⟩
  | false =>
    refine isTrue_or (thn (hb pins s1 σ H1 Q (Nat.le_trans h0 hk) I1 q1) fun d s2 q2 => ?_)
    cases d with
    | true => exact q2
    | false => exact isTrue_or_nil q2
theorem ptt_val {e : Expr} {t : TE} (h : PET X e t) (he : ∀ whole, isTrue e X.env whole = (do let v ← whole; standAt e.pos; holding [v] (truthy v)) := by intro _; rfl) : PTT X e (tB t) := by
  intro pins s σ H Q h0 I hw
  refine isTrue_plain (thn (h pins s σ H _ h0 I hw) fun v s1 ⟨x, H1, I1, r1, c, e1, q1⟩ => ?_) (he _)
  subst e1
  cases r1
  exact wpAny_truthy_bool ⟨H1, I1, q1⟩
theorem pst_ifT {c : Expr} {a b : List Stmt} {tc : TT} {t u : TS} (hc : PTT X c tc) (ha : PSsT X a t) (hb : PSsT X b u) : PST X (.If c a b pos) (tIfS tc t u) := by
  intro pins s σ H D h0 I h
  refine wpAny_If (wpAny_mono (PySem.wpAny_toks (hc pins s σ H _ h0 I h)) (fun d s1 q => ?_) fun _ _ z => z.2)
  obtain ⟨hk, H1, I1, q1⟩ := q
  have hk1 := Nat.le_trans h0 hk
  cases d
  · exact hb pins s1 σ H1 D hk1 I1 q1
  · exact ha pins s1 σ H1 D hk1 I1 q1
theorem pet_call {CX : CXT} {k : Nat} {f : Addr} {fd : FuncData} {ps : List Str} {sp : Sp} {E : XK} {x : Str} {e : Expr} {es : List Expr} {t : TA} (F : FnOk X.prog X.w X.K X.mg X.base CX k f fd ps sp) (hr : Room k X.A) (hg : Gl X x) (hm : X.mg x = some (.ref f)) (hk : PySem.W.keepIn X.K (.ref f) = true) (hb : Binds X.K fd ps []) (hx : Passes CX X E)
    (ha : PAT X (e :: es) t) (hdb : (x == ("__debug__" : Str)) = false := by decide) (he : starEach (e :: es) X.env = (false, eval e X.env) :: starEach es X.env := by rfl) (hpl : (backTo pos (starEach es X.env)).any (·.1) = false := by rfl) :
    PET X (.Call (.Name x p) (e :: es) [] pos) (tCall sp [] E t) := by
  intro pins s σ H Q h0 I h
  refine wpAny_Call_Name_kw (ld_glob I hg hm ?_ hdb)
  exact PySem.W.callWith_K (h₀ := X.base) I.ok.mod.kin hk (thn (ha pos pins s σ H _ h0 I h) fun us s1 ⟨vs, H1, I1, r, q⟩ => ⟨I1.kIn, run_fn F hr hb .nil hx I1 r q⟩) he hpl
theorem pet_bm0 {T id : String} {name : Str} {r : V → List V → Hp → VK → Prop} {o : Expr} {to : TE} (pa : PlainAttrs T) (slot : Slot T name id) (hty : typeOf (.builtin id) = pure (.type "method_descriptor")) (hm : MtR X id r) (ho : PET X o to)
    (hbase : attributeBase o name X.env (eval o X.env) = eval o X.env := by rfl) (hline : (apos.endLine == pos.line) = true := by rfl) : PET X (.Call (.Attribute o name apos) [] [] pos) (tBM0 X.K T r to) := by
  intro pins s σ H Q h0 I h
  refine wpAny_Call_method0_late hbase hline (thn (ho pins s σ H _ h0 I h) fun v s1 ⟨x, H1, I1, rx, ty, q1⟩ => ?_)
  have hty2 := tyV_is I1 rx ty
  exact ⟨T, id, pa, slot, hty, hty2.1, hty2.2, Calls.callWith_builtin rfl (PySem.evalArgs_none (hm pins s1 σ H1 x [] v [] Q I1 rx .nil q1))⟩
theorem psst_nox {st : List Stmt} {t : TS} (h : PSsT X.nox st t) : PSsT X st t := fun pins s σ H D h0 I hw =>
  wpAny_mono (h pins s σ H D h0 (Inv.wish I fun _ _ => False) hw) (fun _ _ q => SP.unwish q) fun _ _ z => z.elim
end
theorem okT {P : Program} {w : World} {K : PySem.W.Frag} {mg : Str → Option Value} {base : Heap} {x qual : Str} {params : Arguments} {body : List Stmt} {scope : Scope} {dvs : List V} {kws : List (Str × V)} {f : Addr} {fd : FuncData} {CX : CXT} {N ps : List Str} {k : Nat} {sp : Sp}
    (F : FunD K x qual params body scope dvs kws f fd) (S : FnScope N ps scope) (hnc : ∀ y ∈ scope.names, y.2 ≠ .cell) (hps : 1 ≤ ps.length) (len : ∀ vs H Q E, sp vs H Q E → vs.length = ps.length)
    (hbody : ∀ (cdv : Value) (A : Around) (outer : List Env) (s : Shared) (H : Hp) (vs : List V) (Q : VK) (E : XK), Room k (A.deeper (envOfC qual scope s.heap.objs.size f cdv)) → sp vs H Q E →
      ∃ t, PSsT (cxOf CX P w K mg base N qual scope f cdv A outer s H E) body t ∧ t { nx := fun x H' => Q V.non H', rt := Q } (L2.start N vs) H) : FnOk P w K mg base CX (k + 1) f fd ps sp := by
  obtain ⟨oc, od, dV, kV, doc, pm, an, cdv, ct, osl, hfd, lk, hcd, _, _⟩ := F.ex
  subst hfd
  exact fn_ofT lk hcd S hnc hps len fun A outer s H vs Q E hr hsp => hbody cdv A outer s H vs Q E hr hsp
/-! ### text.replace(one, two, 1) -/
def repl1 (x y z : Str) : Str := if ((occurrences x y 0 x.length 1).isEmpty || (y.length == 0 && z.length == 0)) = true then x else glued z (partsBetween x (occurrences x y 0 x.length 1) y.length)
theorem gives_replace1 (x y z : Str) (t u v k : Tok) (hu : u ≠ 0) (hv : v ≠ 0) (huv : u ≠ v) (hyz : (y == z) = false) (hl : tooLong (x.length + (occurrences x y 0 x.length 1).length * z.length) = false) :
    Gives («str.replace» ⟨[.str x t, .str y u, .str z v, .int 1 k], []⟩) (if ((occurrences x y 0 x.length 1).isEmpty || (y.length == 0 && z.length == 0)) = true then .val (.str x t) else .str (glued z (partsBetween x (occurrences x y 0 x.length 1) y.length))) := by
  show Gives (if ((occurrences x y 0 x.length 1).isEmpty || (y.length == 0 && z.length == 0)) = true then (do rule "str.replace.nothing"; ret (.str x t)) else
    (do
      let same ← isSame (.str y u) (.str z v)
      if same = true then (do rule "str.replace.old-is-new"; ret (.str x t)) else
        if tooLong (x.length + (occurrences x y 0 x.length 1).length * z.length) = true then unsupported "str.replace:memory" else retStr (glued z (partsBetween x (occurrences x y 0 x.length 1) y.length)))) _
  cases hc : ((occurrences x y 0 x.length 1).isEmpty || (y.length == 0 && z.length == 0)) with
  | true =>
    rw [if_pos rfl, if_pos rfl]
    exact .rule (.of_eq rfl)
  | false =>
    rw [isSame_str_other y z u v (by simp [hu, hv]) (by simp [huv]) hyz, hl]
    exact .of_eq rfl
def tRepl1 (to : TE) (y z : Str) : TE := fun σ H Q => to σ H fun v H1 => ∃ x, v = .str x ∧ x.length + z.length ≤ 16777216 ∧ Q (.str (repl1 x y z)) H1
theorem glued_fits {x y z : Str} (hl : tooLong (x.length + (occurrences x y 0 x.length 1).length * z.length) = false) : (glued z (partsBetween x (occurrences x y 0 x.length 1) y.length)).length ≤ sizeLine := by
  have hy : (glued y (partsBetween x (occurrences x y 0 x.length 1) y.length)).length = x.length := by rw [StrLaws.glued_between_self]
  rw [size_glued, length_partsBetween, Nat.add_sub_cancel] at hy
  rw [size_glued, length_partsBetween, Nat.add_sub_cancel]
  unfold tooLong at hl
  have hl := of_decide_eq_false hl
  omega
theorem pet_repl1 {X : Cx} {o : Expr} {to : TE} {y z : Str} {j k m : Nat} {c0 c1 c2 apos pos : Pos} (ho : PE X o to) (hyz : (y == z) = false := by decide)
    (hst : starEach [.Constant (.str y) j c0, .Constant (.str z) k c1, .Constant (.int 1) m c2] X.env = [(false, eval (.Constant (.str y) j c0) X.env), (false, eval (.Constant (.str z) k c1) X.env), (false, eval (.Constant (.int 1) m c2) X.env)] := by rfl)
    (hbase : attributeBase o "replace" X.env (eval o X.env) = eval o X.env := by rfl) (hline : (apos.endLine == pos.line) = true := by rfl) :
    PET X (.Call (.Attribute o "replace" apos) [.Constant (.str y) j c0, .Constant (.str z) k c1, .Constant (.int 1) m c2] [] pos) (tRepl1 to y z) := by
  intro pins s σ H Q h0 I h
  refine wpAny_Call_method_lateS hbase (by rw [hst]; rfl) hline ?_
  rw [hst]
  refine wpAny_mono (PySem.wpAny_toks (ho.run pins s σ H _ I h)) (fun v s1 q => ?_) fun _ _ z => z.2
  obtain ⟨hk, v', H1, I1, r1, x, e1, hb, q⟩ := q
  subst e1
  obtain ⟨tx, rfl⟩ := r1
  have hl : tooLong (x.length + (occurrences x y 0 x.length 1).length * z.length) = false := by
    have h1 := StrLaws.occ_length_le x y 0 x.length 1
    have h2 : (occurrences x y 0 x.length 1).length * z.length ≤ 1 * z.length := Nat.mul_le_mul_right _ h1
    have e : (2 : Nat) ^ 24 = 16777216 := by decide
    unfold tooLong sizeLine
    exact decide_eq_false (by omega)
  refine ⟨"str", _, PySem.F.plainAttrs_str, PySem.F.slot_str_replace, PySem.F.type_str_replace, typeIs_str _ _ _, (fun _ e => nomatch e), ?_⟩
  refine Calls.callWith_builtin rfl (Calls.evalArgs_plain ?_)
  refine Calls.spliced_cons ?_
  refine Calls.Constant_str (k := j) (pos := c0) ?_
  refine Calls.spliced_cons ?_
  refine Calls.Constant_str (k := k) (pos := c1) ?_
  refine Calls.spliced_cons ?_
  refine thn ((pe_int (j := m) (pos := c2)).run pins _ σ H1 (fun v H2 => v = .int 1 ∧ H2 = H1) ((I1.tok (s1.toks + 1)).tok _) ⟨rfl, rfl⟩) fun u s2 ⟨v2, H2, I2, r2, e2⟩ => ?_
  obtain ⟨rfl, rfl⟩ := e2
  obtain ⟨t2, rfl⟩ := r2
  refine Calls.spliced_nil ?_
  refine call_gives F.slot_str_replace (typeIs_str _ _ _) F.entry_str_replace (F.args_str_replace_4 _ _ _ _) (gives_replace1 x y z tx s1.toks (s1.toks + 1) t2 (by show s1.toks ≠ 0; omega) (Nat.succ_ne_zero _) (by show s1.toks ≠ s1.toks + 1; omega) hyz hl) ?_
  unfold repl1 at q
  cases hc : ((occurrences x y 0 x.length 1).isEmpty || (y.length == 0 && z.length == 0)) with
  | true =>
    rw [hc, if_pos rfl] at q
    rw [if_pos rfl]
    exact ⟨.str x, H2, I2, ⟨tx, rfl⟩, q⟩
  | false =>
    rw [hc, if_neg Bool.false_ne_true] at q
    rw [if_neg Bool.false_ne_true]
    exact ⟨glued_fits hl, .str _, H2, I2.tok _, ⟨_, rfl⟩, q⟩
end PX
/-! PXU -/
namespace PX
open PySem PySem.Spec PyProof.Rows L2 TL PySem.Builtin PySem.Builtin.Str
/-- the table stands in the written part -/
structure TabK (K : PySem.W.Frag) (P : Program) (w : World) (d : Addr) (p : Nat → Bool) : Prop where
  low : (d == sysModules) = false
  tab : ∀ h : Heap, K.In h → ∃ f, h.MapOf (intKind P w) d f ∧ TabT p f
theorem mt_tab {X : Cx} {d : Addr} {p : Nat → Bool} (calm : X.calm = true) (T : TabK X.K X.prog X.w d p) : MtR X "str.translate" (fun x xs H Q => ∃ l : List Nat, x = .str (SX.S l) ∧ xs = [.ref d] ∧ (∀ c ∈ l, c < 128) ∧ l.length ≤ 16000000 ∧ Q (.str (SX.S (l.map (exch p)))) H) := by
  intro pins s σ H x xs v us Q I rx rs ⟨l, e1, e2, small, hz, q⟩
  subst e1 e2
  obtain ⟨tk, rfl⟩ := rx
  match us, rs with
  | [u], .cons r1 .nil =>
    obtain rfl : u = .ref d := r1
    refine call_meetsIn F.slot_str_translate (typeIs_str _ _ _) F.entry_str_translate (F.args_str_translate_2 _ _) (meets_tab p l tk d T.low small hz) ⟨I.ok.hd calm, T.tab _ I.kIn, fun v h2 k kp hv => ?_⟩
    obtain ⟨t2, rfl⟩ := hv
    exact ⟨.str _, H, I.kept (t' := k) kp, ⟨t2, rfl⟩, q⟩
theorem isInt_key {v : Value} {i : Int} (h : v.isInt i = true) : ∃ t, v = .int i t := Value.isInt_shape h
/-- the table, from the entries that the head left -/
theorem tab_find : ∀ (es : List DictEntry) (l : List (Int × Str)), es.length = l.length → ((es.zip l).all fun q => q.1.key.isInt q.2.1 && (decide (q.1.hash = hashInt q.2.1) && q.1.val.isStr q.2.2)) = true →
    (∀ e ∈ es, ∃ k, e.key.isInt k = true ∧ e.hash = hashInt k) ∧ ∀ k : Int, ((l.lookup k = none → (es.find? fun e => e.key.isInt k) = none) ∧ ∀ z, l.lookup k = some z → ∃ e t, (es.find? fun e => e.key.isInt k) = some e ∧ e.val = .str z t)
  | [], [], _, _ => ⟨fun e h => (by cases h), fun k => ⟨fun _ => rfl, fun z h => (by cases h)⟩⟩
  | e :: es, (i, z) :: l, hl, h => by
    rw [List.zip_cons_cons, List.all_cons, Bool.and_eq_true, Bool.and_eq_true, Bool.and_eq_true] at h
    obtain ⟨⟨h1, h2, h3⟩, h4⟩ := h
    obtain ⟨ih1, ih2⟩ := tab_find es l (Nat.succ.inj hl) h4
    refine ⟨fun a ha => ?_, fun k => ?_⟩
    · rcases List.mem_cons.mp ha with rfl | ha
      · exact ⟨i, h1, of_decide_eq_true h2⟩
      · exact ih1 a ha
    · obtain ⟨t, ek⟩ := Value.isInt_shape h1
      have hk : e.key.isInt k = decide (k = i) := by
        rw [ek]
        show (i == k) = _
        by_cases q : k = i
        · subst q
          simp
        · simp [q, Ne.symm q]
      rw [List.find?_cons, hk, List.lookup_cons]
      by_cases q : k = i
      · subst q
        rw [decide_eq_true rfl, beq_self_eq_true]
        refine ⟨fun n => (by cases n), fun y hy => ⟨e, ?_⟩⟩
        cases hy
        cases q2 : e.val with
        | str a t2 =>
          rw [q2] at h3
          have h4 : (a == z) = true := h3
          rw [eq_of_beq h4]
          exact ⟨t2, rfl, rfl⟩
        | _ =>
          rw [q2] at h3
          cases h3
      · have q2 : (k == i) = false := beq_eq_false_iff_ne.mpr q
        rw [decide_eq_false q, q2]
        exact ih2 k
  | [], _ :: _, hl, _ => by cases hl
  | _ :: _, [], hl, _ => by cases hl
theorem tab_of {K : PySem.W.Frag} {x : Str} {l : List (Int × Str)} (h : intsB K x l = true) (P : Program) (w : World) (p : Nat → Bool) (hp : ∀ c, c < 128 → (p c = true → l.lookup ((c : Nat) : Int) = some (Str.ofString " ")) ∧ (p c = false → l.lookup ((c : Nat) : Int) = none)) : TabK K P w (He.ga K x) p := by
  unfold intsB at h
  rw [Bool.and_eq_true, Bool.not_eq_true'] at h
  obtain ⟨h0, h⟩ := h
  refine ⟨h0, fun g hg => ?_⟩
  cases q : K.lookup (He.ga K x) with
  | none => rw [q] at h; cases h
  | some o =>
    obtain ⟨oc, od, dt, sl⟩ := o
    rw [q] at h
    cases oc with
    | type n =>
      cases od with
      | none =>
        cases dt with
        | dict es ep =>
          dsimp only at h
          rw [Bool.and_eq_true, Bool.and_eq_true, Bool.and_eq_true] at h
          obtain ⟨a1, a2, a3, a4⟩ := h
          obtain ⟨t1, t2⟩ := tab_find es.toList l (of_decide_eq_true a3) a4
          have e1 : n = "dict" := of_decide_eq_true a1
          have e2 : sl = #[] := of_decide_eq_true a2
          subst e1 e2
          refine ⟨fun k => findBy Value.isInt es k, ⟨_, es, ep, hg _ _ q, ⟨rfl, rfl, rfl⟩, rfl, fun e he => t1 e (Array.mem_toList_iff.mpr he), fun k => rfl⟩, fun c hc => ?_⟩
          have hf : findBy Value.isInt es ((c : Nat) : Int) = ((es.toList.find? fun e => e.key.isInt ((c : Nat) : Int)).map (·.val)) := by
            unfold findBy
            rw [← Array.find?_toList]
          obtain ⟨b1, b2⟩ := t2 ((c : Nat) : Int)
          obtain ⟨p1, p2⟩ := hp c hc
          refine ⟨fun z => ?_, fun z => ?_⟩
          · obtain ⟨e, t, f1, f2⟩ := b2 _ (p1 z)
            refine ⟨t, hf.trans ?_⟩
            rw [f1]
            exact congrArg some f2
          · refine hf.trans ?_
            rw [b1 (p2 z)]
            rfl
        | _ => cases h
      | some _ => cases h
    | _ => cases od <;> cases dt <;> cases h
end PX
/-! PXFd -/
namespace PX
open PySem PySem.Spec PyProof.Rows L2 TL
/-- the first place of a text in another -/
def fdN (S : List Nat) : List Nat → Option Nat
  | [] => if S = [] then some 0 else none
  | c :: r => if (c :: r).take S.length = S then some 0 else (fdN S r).map (· + 1)
theorem fdN_some {S : List Nat} : ∀ {l : List Nat} {j : Nat}, fdN S l = some j → (l.drop j).take S.length = S ∧ ∀ k, k < j → (l.drop k).take S.length ≠ S
  | [], j, h => by
    unfold fdN at h
    split at h
    · rename_i e
      cases h
      subst e
      exact ⟨rfl, fun k hk => by omega⟩
    · cases h
  | c :: r, j, h => by
    unfold fdN at h
    split at h
    · rename_i e
      cases h
      exact ⟨e, fun k hk => by omega⟩
    · rename_i e
      cases q : fdN S r with
      | none => rw [q] at h; cases h
      | some m =>
        rw [q] at h
        cases h
        obtain ⟨h1, h2⟩ := fdN_some q
        refine ⟨h1, fun k hk => ?_⟩
        cases k with
        | zero => exact e
        | succ k =>
          have hk' : k + 1 < m + 1 := hk
          exact h2 k (by omega)
theorem fdN_none {S : List Nat} (hS : S ≠ []) : ∀ {l : List Nat}, fdN S l = none → ∀ k, (l.drop k).take S.length ≠ S
  | [], h, k => by
    intro e
    simp at e
    exact hS e
  | c :: r, h, k => by
    unfold fdN at h
    split at h
    · cases h
    · rename_i e
      have q : fdN S r = none := by
        cases q : fdN S r with
        | none => rfl
        | some m => rw [q] at h; cases h
      cases k with
      | zero => exact e
      | succ k => exact fdN_none hS q k
theorem fdN_of {S l : List Nat} {j : Nat} (hS : S ≠ []) (h1 : (l.drop j).take S.length = S) (h2 : ∀ k, k < j → (l.drop k).take S.length ≠ S) : fdN S l = some j := by
  cases q : fdN S l with
  | none => exact absurd h1 (fdN_none hS q j)
  | some m =>
    obtain ⟨a, b⟩ := fdN_some q
    have : m = j := by
      rcases Nat.lt_trichotomy m j with h | h | h
      · exact absurd a (h2 m h)
      · exact h
      · exact absurd h1 (b j h)
    rw [this]
open StrLaws Builtin.Str in
theorem occ_fd (x y : Str) (lo hi : Nat) (h1 : lo ≤ hi) (h2 : hi ≤ x.length) (hy : tl y ≠ []) :
    (fdN (tl y) (((tl x).drop lo).take (hi - lo)) = none ∧ occurrences x y lo hi 1 = []) ∨ ∃ j r, fdN (tl y) (((tl x).drop lo).take (hi - lo)) = some j ∧ occurrences x y lo hi 1 = (lo + j) :: r := by
  have hx := len_tl x
  have hl := len_tl y
  have hp : 0 < (tl y).length := List.length_pos_iff.mpr hy
  have conv : ∀ j, ((((tl x).drop lo).take (hi - lo)).drop j).take (tl y).length = tl y ↔ StrLaws.At x y hi (lo + j) := by
    intro j
    unfold StrLaws.At
    rw [subAt_eq, beq_iff_eq]
    show _ ↔ _ ∧ ((tl x).drop (lo + j)).take y.length = tl y
    rw [hl, List.drop_take, List.drop_drop, List.take_take]
    constructor
    · intro e
      have e1 := congrArg List.length e
      rw [List.length_take, List.length_drop] at e1
      have e2 : min (tl y).length (hi - lo - j) = (tl y).length := by omega
      rw [e2] at e
      exact ⟨by omega, e⟩
    · rintro ⟨a, b⟩
      rw [Nat.min_eq_left (by omega)]
      exact b
  rw [occ_eq]
  rcases occ_first x y hi 1 (Nat.le_refl _) (List.range' lo (hi + 1 - lo)) lo (fun i h => by simp [List.mem_range'] at h; omega) with ⟨h0, hn⟩ | ⟨pre, a, post, e, h0, ha, hn⟩
  · refine .inl ⟨?_, by rw [h0]⟩
    cases q : fdN (tl y) (((tl x).drop lo).take (hi - lo)) with
    | none => rfl
    | some j =>
      have z := (conv j).mp (fdN_some q).1
      have z2 := z.1
      exact absurd z (hn (lo + j) (by simp [List.mem_range']; omega))
  · have hmem : a ∈ List.range' lo (hi + 1 - lo) := by rw [e]; simp
    have hlo : lo ≤ a := by simp [List.mem_range'] at hmem; omega
    have hall : ∀ k, lo ≤ k → k < a → k ∈ pre := by
      intro k k1 k2
      have hL : hi + 1 - lo = pre.length + (post.length + 1) := by
        have := congrArg List.length e
        simpa using this
      have hlen : lo + pre.length = a := by
        have h1 : (List.range' lo (hi + 1 - lo))[pre.length]? = some a := by rw [e]; simp
        rw [List.getElem?_range'] at h1
        · simpa using h1
        · omega
      have h2 : (List.range' lo (hi + 1 - lo))[k - lo]? = pre[k - lo]? := by rw [e, List.getElem?_append_left (by omega)]
      rw [List.getElem?_range'] at h2
      · have h3 : pre[k - lo]? = some k := by
          rw [← h2]
          simp
          omega
        exact List.mem_of_getElem? h3
      · omega
    refine .inr ⟨a - lo, ((forIn (List.range' lo (hi + 1 - lo)) ((#[] : Array Nat), lo) (occBody x y hi 1)).run.fst.toList).tail, ?_, ?_⟩
    · refine fdN_of hy ((conv _).mpr (by rw [show lo + (a - lo) = a by omega]; exact ha)) fun k hk z => ?_
      exact hn (lo + k) (hall _ (by omega) (by omega)) ((conv k).mp z)
    · rw [show lo + (a - lo) = a by omega]
      generalize (forIn (List.range' lo (hi + 1 - lo)) ((#[] : Array Nat), lo) (occBody x y hi 1)).run.fst = arr at h0
      have h1 : arr.toList[0]? = some a := by simpa using h0
      cases hL : arr.toList with
      | nil => rw [hL] at h1; cases h1
      | cons b t => rw [hL] at h1; simp at h1; rw [h1]; rfl
open Builtin.Str in
theorem from_nat (n i : Nat) (h : i ≤ n) : fromIndex n (i : Int) = i := by
  unfold fromIndex
  split <;> omega
open Builtin.Str in
theorem to_nat (n i : Nat) (h : i ≤ n) : toIndexW n (i : Int) = i := by
  unfold toIndexW
  split <;> omega
/-- text.find(sub, i) -/
theorem find3_fd (x y : Str) (i : Nat) (h : i ≤ x.length) (hy : tl y ≠ []) : Txt.find3 x y (i : Int) = match fdN (tl y) ((tl x).drop i) with
    | some j => ((i + j : Nat) : Int)
    | none => -1 := by
  have e : ((tl x).drop i).take (x.length - i) = (tl x).drop i := List.take_of_length_le (by rw [List.length_drop, len_tl x]; omega)
  unfold Txt.find3
  rw [from_nat _ _ h]
  rcases occ_fd x y i x.length h (Nat.le_refl _) hy with ⟨h1, h2⟩ | ⟨j, r, h1, h2⟩
  · rw [e] at h1
    rw [h1, h2]
  · rw [e] at h1
    rw [h1, h2]
/-- text.find(sub, i, j) -/
theorem find4_fd (x y : Str) (i j : Nat) (h : i ≤ j) (h2 : j ≤ x.length) (hy : tl y ≠ []) : Txt.findIn x y (i : Int) (j : Int) = match fdN (tl y) (((tl x).drop i).take (j - i)) with
    | some m => ((i + m : Nat) : Int)
    | none => -1 := by
  unfold Txt.findIn
  rw [from_nat _ _ (by omega), to_nat _ _ h2]
  rcases occ_fd x y i j h h2 hy with ⟨h1, h2⟩ | ⟨m, r, h1, h2⟩
  · rw [h1, h2]
  · rw [h1, h2]
/-- text.startswith(sub, i) -/
theorem starts3 (x y : Str) (i : Nat) (h : i ≤ x.length) : Txt.startswith3 x y (i : Int) = decide (((tl x).drop i).take (tl y).length = tl y) := by
  unfold Txt.startswith3
  rw [from_nat _ _ h, StrLaws.subAt_eq, ← len_tl y]
  show (decide _ && (((tl x).drop i).take y.length == tl y)) = _
  by_cases q : ((tl x).drop i).take y.length = tl y
  · have e := congrArg List.length q
    rw [List.length_take, List.length_drop, ← len_tl x, ← len_tl y] at e
    rw [decide_eq_true q, q, decide_eq_true (by omega)]
    simp
  · rw [decide_eq_false q, show (((tl x).drop i).take y.length == tl y) = false by simp [q], Bool.and_false]
end PX
/-! PXEnum -/
namespace PX
open PySem PySem.Spec PyProof.Rows L2 TL
/-! ### enumerate(text) -/
def Itq (x : Str) : It := ⟨fun i _ => i < x.cps.size, fun i H v H' => ∃ T c, v = .ref T ∧ H T = none ∧ H' = upd H T (.tup [.int (i : Nat), .str ⟨#[c]⟩]) ∧ x.cps[i]? = some c, fun i _ => i = x.cps.size⟩
theorem turn_enumS {P : Program} {w : World} {K : PySem.W.Frag} {elts : List Expr} {kk : Nat} {tpos : Pos} (x : Str) (t : Tok) (e it : Addr) :
    Turn P w K (.Tuple elts kk tpos) (Itq x) [e, it] e (fun i h => (∃ old, IsEnum h e it ((i : Nat) : Int) old) ∧ h.IsStrIter it (strIterType x) x t i ∧ e ≠ it) where
  mem := by simp
  obj := fun i h st b hb => by
    obtain ⟨⟨old, he⟩, ⟨o, ho, hc, hd⟩, _⟩ := st
    have e' : b = e ∨ b = it := by simpa using hb
    rcases e' with z | z
    · rw [z]; exact ⟨_, he, fun v q => nomatch q⟩
    · rw [z]; exact ⟨o, ho, fun v q => by rw [hd] at q; cases q⟩
  keep := fun i h h' st k => let ⟨⟨old, he⟩, ⟨o, ho, r⟩, hne⟩ := st; ⟨⟨old, k e (by simp) _ he⟩, ⟨o, k it (by simp) o ho, r⟩, hne⟩
  item := by
    intro X hP hw hK hc i pins s σ H E I hf st hg
    subst hP hw hK
    obtain ⟨⟨old, he⟩, hit, hne⟩ := st
    have hel : e < s.heap.objs.size := Heap.lt_size he
    have hil : it < s.heap.objs.size := by obtain ⟨_, q, _⟩ := hit; exact Heap.lt_size q
    have D := Draws.text (prog := X.prog) (w := X.w) (A := X.A.in1) (I.ok.hd hc) it x t
    refine wpAny_pyNext_enum_itemD D he hit hg hne (by simpa using hne) fun v h' tk hv ho hit' hT hsz hk => ?_
    obtain ⟨c, u, hcx, rfl⟩ := hv
    refine ⟨_, rfl, wpAny_letOwnedTupleGo_enum (s := { s with heap := h', toks := tk + 1 }) ho fun h'' he' sb => ?_⟩
    have hT2 : h''.get? s.heap.objs.size = some { cls := .type "tuple", data := .seq #[.int i tk, .str ⟨#[c]⟩ u] } := (sb.2 _ (Nat.ne_of_gt hel)).trans hT
    have new : ObjOk X.prog X.w (upd H s.heap.objs.size (.tup [.int (i : Nat), .str ⟨#[c]⟩])) h'' s.heap.objs.size (.tup [.int (i : Nat), .str ⟨#[c]⟩]) :=
      ⟨by show 2 ≤ sizeLine; decide, [.int i tk, .str ⟨#[c]⟩ u], .cons ⟨_, rfl⟩ (.cons ⟨_, rfl⟩ .nil), ⟨_, hT2, rfl, _, rfl⟩⟩
    have I1 : Inv X pins σ (upd H s.heap.objs.size (.tup [.int (i : Nat), .str ⟨#[c]⟩])) { s with heap := h'', toks := tk + 1 } :=
      I.turnedNew (ch := [e, it]) (fun b ob hb q => (sb.2 b (fun z => hb (by simp [z]))).trans (hk b ob (fun z => hb (by simp [z])) (fun z => hb (by simp [z])) q)) hf (Nat.le_refl _) new
    refine ⟨.ref s.heap.objs.size, _, I1, rfl, ⟨_, c, rfl, I.hok.fresh (Nat.le_refl _), rfl, hcx⟩, ⟨⟨.str ⟨#[c]⟩ u, ?_⟩, ?_, hne⟩, fun b hb => ?_⟩
    · have e1 : ((i + 1 : Nat) : Int) = (i : Int) + 1 := by omega
      rw [e1]; exact he'
    · obtain ⟨o, q1, q2⟩ := hit'
      exact ⟨o, (sb.2 it (Ne.symm hne)).trans q1, q2⟩
    · have hb' : b < s.heap.objs.size := by
        have e' : b = e ∨ b = it := by simpa using hb
        rcases e' with z | z
        · rw [z]; exact hel
        · rw [z]; exact hil
      rw [upd_ne (Nat.ne_of_lt hb')]
      exact (hf b hb).1
  done := by
    intro X hP hw hK hc i pins s σ H E I hf st hg
    subst hP hw hK
    obtain ⟨⟨old, he⟩, hit, hne⟩ := st
    obtain ⟨f0, f1, f2, f3, f4, f5⟩ := hf it (by simp)
    have D := Draws.text (prog := X.prog) (w := X.w) (A := X.A.in1) (I.ok.hd hc) it x t
    have hg' : i = x.cps.size := hg
    subst hg'
    exact wpAny_pyNext_enum_endD D he hit fun h' eb => ⟨rfl, I.turned (t' := s.toks) (fun b o hb q => eb b o hb q) f0 f1 f3 f4 f5⟩
  self := fun A i s Q E st h => let ⟨⟨_, he⟩, _⟩ := st; wpAny_pyIter_enum he h
def iEnumS (ta : TA) : TI := fun σ H R => ta σ H fun vs H1 => ∃ x, vs = [.str x] ∧ R (Itq x) H1
theorem pi_enumS {X : Cx} {e : Expr} {ta : TA} {p pos tpos : Pos} {elts : List Expr} {kk : Nat} (hg : Gl X "enumerate") (hm : X.mg "enumerate" = none) (ha : PA X [e] ta) (hs : starEach [e] X.env = [(false, eval e X.env)] := by rfl) :
    PI X (.Tuple elts kk tpos) (.Call (.Name "enumerate" p) [e] [] pos) (iEnumS ta) := by
  refine ⟨fun pins s σ H R I h => ?_⟩
  refine Call_ (ld_blt I hg hm boot_enumerate (PyProof.Rows.callWith_type1 (thn (ha.run pos pins s σ H _ I h) fun us s1 ⟨vs, H1, I1, r1, q1⟩ => ?_) hs rfl))
  obtain ⟨x, ex, q⟩ := q1
  subst ex
  cases r1 with
  | cons r rr =>
    cases rr
    obtain ⟨t, rfl⟩ := r
    refine call_enumerate_str fun h' he hit hsz hk => wpAny_pyIter_enum he ?_
    have I2 : Inv X pins σ H1 { s1 with heap := h' } := I1.kept (t' := s1.toks) hk
    refine ⟨s1.heap.objs.size + 1, [s1.heap.objs.size + 1, s1.heap.objs.size], _, _, H1, rfl, I2, turn_enumS x t (s1.heap.objs.size + 1) s1.heap.objs.size, ⟨⟨.none, he⟩, hit, Nat.succ_ne_self _⟩, fun b hb => ?_, q⟩
    have e' : b = s1.heap.objs.size + 1 ∨ b = s1.heap.objs.size := by simpa using hb
    have hle : s1.heap.objs.size ≤ b := by
      rcases e' with z | z
      · rw [z]; exact Nat.le_add_right _ _
      · rw [z]; exact Nat.le_refl _
    exact I1.fpOk hle (I1.hok.fresh hle)
theorem walk_enumS {z : Str} : Walk (Itq z) z.cps.size (fun _ => True) (fun i H v H' => ∃ T c, v = .ref T ∧ H T = none ∧ H' = upd H T (.tup [.int (i : Nat), .str ⟨#[c]⟩]) ∧ z.cps[i]? = some c) :=
  ⟨fun _ _ hi _ => hi, fun _ _ => rfl, fun _ _ _ _ _ _ y => y⟩
end PX
/-! PXTk -/
namespace PX
open PySem PySem.Spec PyProof.Rows L2 TL
section
variable {P : Program} {w : World} {K : PySem.W.Frag} {mg : Str → Option Value} {base : Heap}
def spAny : Sp := fun vs H Q _ => ∃ z : Str, vs = [.str z] ∧ ∀ b, Q (.bl b) H
theorem ok_is_plain (T : Tx w K mg) : Ok P w K mg base CX0 1 (He.fAd K d_is_plain.at_) p_is_plain spAny := by
  obtain ⟨fd, F⟩ := f_is_plain T
  refine ⟨fd, ?_, b_is_plain F, F.kp⟩
  refine F.ok sc_is_plain (fun vs H Q E h => ?_) (fun cdv A outer s H vs Q E hr h => ?_)
  · obtain ⟨z, rfl, _⟩ := h
    rfl
  · obtain ⟨z, rfl, k⟩ := h
    refine ⟨_, PSs.nox (pss_one (ps_ret (pe_and (pe_m0 PySem.F.slot_str_isascii PySem.F.type_str_isascii mt_isascii (pv 0)) (pe_one (pe_m0 PySem.F.slot_str_isprintable PySem.F.type_str_isprintable mt_isprintable (pv 0)))))), ?_⟩
    refine ⟨_, rfl, ⟨_, rfl⟩, _, rfl, rfl, trivial, _, rfl, ?_⟩
    split
    · exact ⟨_, rfl, ⟨_, rfl⟩, _, rfl, rfl, trivial, k _⟩
    · exact k _
def spLen : Sp := fun vs H Q _ => ∃ z : Str, vs = [.str z] ∧ Gd z ∧ ∀ H', Same H H' → Q (.int ((z.length : Nat) : Int)) H'
theorem ok_end_of_signs (T : Tx w K mg) : Ok P w K mg base CX0 2 (He.fAd K d_end_of_signs.at_) p_end_of_signs spLen := by
  obtain ⟨fd, F⟩ := f_end_of_signs T
  obtain ⟨fP, GP, bP, kP⟩ := ok_is_plain (P := P) (base := base) T
  obtain ⟨fS, GS, bS, kS⟩ := ok_is_sign (P := P) (base := base) T
  refine ⟨fd, ?_, b_end_of_signs F, F.kp⟩
  refine okT F sc_end_of_signs (by decide +kernel) (by decide) (fun vs H Q E h => ?_) (fun cdv A outer s H vs Q E hr h => ?_)
  · obtain ⟨z, rfl, _⟩ := h
    rfl
  · obtain ⟨z, rfl, g, k⟩ := h
    have nd := sc_end_of_signs.nd
    refine ⟨_, psst_nox (psst_cons (pst_ifT (ptt_or (pt_val (pe_call (E := E0) GP (hr.mono (by decide)) (by rfl) (g_is_plain T) kP bP .nil pass0 (pa_cons (pv 0) pa_nil)))
        (ptt_val (pet_call (E := E0) GP (hr.mono (by decide)) (by rfl) (g_is_plain T) kP bP pass0 (pat_cons (CwR.pet_replT (CwR.pet_replC (pv 0))) pat_nil))))
        (PSsT.of (pss_one (ps_ret (pe_callB call_len (by rfl) (n_len T) PySem.boot_len (pa_cons (pv 0) pa_nil))))) (PSsT.of pss_nil))
      (PSsT.of (pss_cons (ps_for PassesOwn.never rfl (pi_enumS (by rfl) (n_enumerate T) (pa_cons (pv 0) pa_nil)) (pg_tup (by rfl) (pgs_cons (pg_name (i := 1) nd rfl (.inl rfl)) (pgs_cons (pg_name (i := 2) nd rfl (.inl rfl)) pgs_nil)))
          (pss_one (ps_if (pt_not (pt_val (pe_call (E := E0) GS (hr.mono (by decide)) (by rfl) (g_is_sign T) kS bS .nil pass0 (pa_cons (pv 2) pa_nil)))) (pss_one (ps_ret (pv 1))) pss_nil)))
        (pss_one (ps_ret (pe_callB call_len (by rfl) (n_len T) PySem.boot_len (pa_cons (pv 0) pa_nil))))))), ?_⟩
    have hz := g.len
    have l1 := TK.replace_len z "\n" ""
    have e0 : ("" : Str).length = 0 := rfl
    rw [e0, Nat.mul_zero, Nat.add_zero] at l1
    have fin : Q (.int ((z.length : Nat) : Int)) H := k H (Same.refl H)
    refine ⟨_, rfl, z, rfl, fun b => ⟨b, rfl, ?_⟩⟩
    cases b with
    | true => exact ⟨_, rfl, _, z.length, rfl, ⟨g.line, rfl⟩, fin⟩
    | false =>
      refine ⟨_, rfl, z, rfl, (by rw [e0]; omega), _, rfl, (by rw [e0]; omega), _, rfl, fun b => ⟨b, rfl, ?_⟩⟩
      cases b with
      | true => exact ⟨_, rfl, _, z.length, rfl, ⟨g.line, rfl⟩, fin⟩
      | false =>
        refine ⟨_, rfl, z, rfl, ?_⟩
        refine for_it walk_enumS (fun j σ H2 => Same H H2 ∧ ∃ v1 v2 : Option V, σ = [some (.str z), v1, v2]) ⟨Same.refl H, _, _, rfl⟩ (fun _ _ _ _ _ => trivial) ?_ ?_
        · rintro j x σ H2 H3 hj ⟨s2, v1, v2, rfl⟩ ⟨t, c, rfl, ht, rfl, hc⟩
          refine ⟨t, _, rfl, SqT.of upd_same, rfl, _, _, rfl, _, _, rfl, rfl, ?_⟩
          have hm : c ∈ tl z := by
            have : (tl z)[j]? = some c := by
              rw [← hc]
              exact Array.getElem?_toList
            exact List.mem_of_getElem? this
          have hsg := g.sg c hm
          refine ⟨_, rfl, [c], rfl, fun H4 s4 => ⟨_, rfl, ?_⟩⟩
          show if (!isSg c) = true then _ else _
          rw [hsg]
          refine iteF ?_
          exact ⟨(s2.trans (same_new ht)).trans s4, _, _, rfl⟩
        · rintro σ H2 ⟨s2, v1, v2, rfl⟩
          exact ⟨_, rfl, _, z.length, rfl, ⟨g.line, rfl⟩, k H2 s2⟩
def fstS : Str := "_ABCDEFGHIJKLMNOPQRSTUVWXYZabcdefghijklmnopqrstuvwxyz"
def blS : Str := " \t\n"
theorem glob_blanks {X : Cx} {pos : Pos} (T : Tx X.w X.K X.mg) (hg : Gl X "BLANKS") : PE X (.Name "BLANKS" pos) (tC (.str blS)) := by
  obtain ⟨t, e⟩ := c_BLANKS T
  exact pe_glob hg e ⟨t, rfl⟩
theorem isBl_hi (c : Nat) (h : 128 ≤ c) : isBl c = false := by
  unfold isBl
  simp only [Bool.or_eq_false_iff, beq_eq_false_iff_ne]
  omega
theorem bl_eq (c : Nat) : decide (c ∈ blS.cps.toList) = isBl c := mem_eq (l := blS.cps.toList) (p := isBl) (by decide +kernel) (by decide +kernel) isBl_hi c
theorem glob_fst {X : Cx} {pos : Pos} (T : Tx X.w X.K X.mg) (hg : Gl X "FIRST_SIGNS") : PE X (.Name "FIRST_SIGNS" pos) (tC (.str fstS)) := by
  obtain ⟨t, e⟩ := c_FIRST_SIGNS T
  exact pe_glob hg e ⟨t, rfl⟩
theorem isLt_hi (c : Nat) (h : 128 ≤ c) : isLt c = false := by
  unfold isLt
  rw [decide_eq_false (p := c ≤ 122) (by omega), decide_eq_false (p := c ≤ 90) (by omega), Bool.and_false, Bool.and_false]
  exact beq_eq_false_iff_ne.mpr (by omega)
theorem fst_eq (c : Nat) : decide (c ∈ fstS.cps.toList) = isLt c := mem_eq (l := fstS.cps.toList) (p := isLt) (by decide +kernel) (by decide +kernel) isLt_hi c
theorem ok_begins_word (T : Tx w K mg) : Ok P w K mg base CX0 1 (He.fAd K d_begins_word.at_) p_begins_word (spSg isLt) := by
  obtain ⟨fd, F⟩ := f_begins_word T
  refine ⟨fd, ?_, b_begins_word F, F.kp⟩
  refine F.ok sc_begins_word (fun vs H Q E h => ?_) (fun cdv A outer s H vs Q E hr h => ?_)
  · obtain ⟨l, rfl, _⟩ := h
    rfl
  · obtain ⟨l, rfl, k⟩ := h
    refine ⟨_, PSs.nox (pss_one (ps_ret (pe_and (pe_cmpR op_ne (pv 0) pe_str (nomark _)) (pe_one (pe_cmpR op_in_sign (pv 0) (glob_fst T (by rfl)) (by rfl)))))), ?_⟩
    refine ⟨_, rfl, rfl, _, rfl, ?_⟩
    cases l with
    | nil =>
      refine iteF ?_
      exact k _ (Same.refl _)
    | cons c r =>
      show if (!decide (V.str (sg (c :: r)) = V.str (Str.ofString ""))) = true then _ else _
      rw [sg_empty]
      refine iteT ?_
      refine ⟨_, rfl, c, _, rfl, rfl, ?_⟩
      rw [fst_eq]
      exact k _ (Same.refl _)
/-! ### words_alone -/
def wdN (c : Nat) : Nat := if isWd c then c else 32
def tabP (c : Nat) : Bool := (ints_WORDS_ALONE.lookup ((c : Nat) : Int)).isSome
theorem tab_all : (List.range 128).all (fun c => (!tabP c || decide (ints_WORDS_ALONE.lookup ((c : Nat) : Int) = some (Str.ofString " "))) && (!isSg c || decide (exch tabP c = wdN c))) = true := by decide +kernel
theorem tab_at (c : Nat) (h : c < 128) : (tabP c = true → ints_WORDS_ALONE.lookup ((c : Nat) : Int) = some (Str.ofString " ")) ∧ (isSg c = true → exch tabP c = wdN c) := by
  have := List.all_eq_true.mp tab_all c (List.mem_range.mpr h)
  rw [Bool.and_eq_true, Bool.or_eq_true, Bool.or_eq_true, Bool.not_eq_true', Bool.not_eq_true', decide_eq_true_eq, decide_eq_true_eq] at this
  refine ⟨fun q => ?_, fun q => ?_⟩
  · rcases this.1 with h | h
    · rw [h] at q; cases q
    · exact h
  · rcases this.2 with h | h
    · rw [h] at q; cases q
    · exact h
theorem tab_ok (T : Tx w K mg) (P : Program) : TabK K P w (He.ga K "WORDS_ALONE") tabP := tab_of (x_i_WORDS_ALONE T) P w tabP fun c hc => ⟨(tab_at c hc).1, fun q => by
  unfold tabP at q
  cases e : ints_WORDS_ALONE.lookup ((c : Nat) : Int) with
  | none => rfl
  | some y => rw [e] at q; cases q⟩
def spWa : Sp := fun vs H Q _ => ∃ z : Str, vs = [.str z] ∧ Gd z ∧ Q (.str (mkS ((tl z).map wdN ++ [32]))) H
theorem ok_words_alone (T : Tx w K mg) : Ok P w K mg base CX0 1 (He.fAd K d_words_alone.at_) p_words_alone spWa := by
  obtain ⟨fd, F⟩ := f_words_alone T
  refine ⟨fd, ?_, b_words_alone F, F.kp⟩
  refine F.ok sc_words_alone (fun vs H Q E h => ?_) (fun cdv A outer s H vs Q E hr h => ?_)
  · obtain ⟨z, rfl, _⟩ := h
    rfl
  · obtain ⟨z, rfl, g, k⟩ := h
    refine ⟨_, PSs.nox (pss_one (ps_ret (pe_op op_add_str (pe_m1 PySem.F.slot_str_translate PySem.F.type_str_translate (mt_tab rfl (tab_ok T P)) (pv 0) (pe_glob (v := .ref (He.ga K "WORDS_ALONE")) (by rfl) (g_WORDS_ALONE T) rfl)) pe_str))), ?_⟩
    have small : ∀ c ∈ tl z, c < 128 := fun c hc => by
      have := g.sg c hc
      unfold isSg at this
      simp only [Bool.or_eq_true, Bool.and_eq_true, decide_eq_true_eq, beq_iff_eq] at this
      omega
    have hl : (tl z).length ≤ 400000 := by rw [← len_tl]; exact g.len
    refine ⟨_, rfl, ⟨_, rfl⟩, tl z, ?_, rfl, small, by omega, _, _, rfl, rfl, ?_, ?_⟩
    · show V.str z = V.str (mkS (tl z))
      rw [mkS_tl]
    · rw [SX.S_len, List.length_map, sizeLine_eq]
      show _ + 1 ≤ _
      omega
    · have e1 : (tl z).map (exch tabP) = (tl z).map wdN := List.map_congr_left fun c hc => (tab_at c (small c hc)).2 (g.sg c hc)
      have e2 : SX.S ((tl z).map (exch tabP)) ++ Str.ofString " " = mkS ((tl z).map wdN ++ [32]) := by
        rw [e1]
        exact SX.S_cat _ [32]
      rw [e2]
      exact k
end
end PX
/-! PXTl -/
namespace PX
open PySem PySem.Spec PyProof.Rows L2 TL PySem.Builtin PySem.Builtin.Str
/-! ### the first such sign -/
theorem fd1 (c : Nat) : ∀ l : List Nat, fdN [c] l = if spN (· != c) l < l.length then some (spN (· != c) l) else none
  | [] => rfl
  | d :: r => by
    show (if (d :: r).take 1 = [c] then some 0 else (fdN [c] r).map (· + 1)) = if (if (d != c) = true then spN (· != c) r + 1 else 0) < r.length + 1 then some (if (d != c) = true then spN (· != c) r + 1 else 0) else none
    cases q : d != c with
    | false =>
      have e : d = c := by simpa using q
      subst e
      rw [if_neg Bool.false_ne_true, if_pos (show List.take 1 (d :: r) = [d] from rfl), if_pos (Nat.succ_pos _)]
    | true =>
      have e : ¬ (d :: r).take 1 = [c] := fun h => by
        have h2 : d = c := (List.cons.inj h).1
        subst h2
        simp at q
      rw [if_neg e, if_pos rfl, fd1 c r]
      by_cases h : spN (· != c) r < r.length
      · rw [if_pos h, if_pos (by omega)]
        rfl
      · rw [if_neg h, if_neg (by omega)]
        rfl
theorem spN_words : ∀ l : List Nat, spN (· != 32) (l.map wdN ++ [32]) = spN isWd l
  | [] => rfl
  | c :: r => by
    show (if (wdN c != 32) = true then spN (· != 32) (r.map wdN ++ [32]) + 1 else 0) = if isWd c = true then spN isWd r + 1 else 0
    rw [spN_words r]
    unfold wdN
    cases q : isWd c with
    | false => rfl
    | true =>
      rw [if_pos rfl, if_pos rfl]
      have : (c != 32) = true := by
        cases e : c != 32 with
        | true => rfl
        | false =>
          have : c = 32 := by simpa using e
          subst this
          cases q
      rw [this, if_pos rfl]
/-- words.find(" ", i) -/
theorem find_word (z : Str) (i : Nat) (h : i ≤ z.length) : Txt.find3 (mkS ((tl z).map wdN ++ [32])) (Str.ofString " ") (i : Int) = ((i + spN isWd ((tl z).drop i) : Nat) : Int) := by
  have hz : z.length = (tl z).length := len_tl z
  have hl : (mkS ((tl z).map wdN ++ [32])).length = z.length + 1 := by
    rw [mkS_len, List.length_append, List.length_map, hz]
    rfl
  rw [find3_fd _ _ i (by omega) (by decide), tl_mkS]
  have ht : tl (Str.ofString " ") = [32] := rfl
  have hd : ((tl z).map wdN ++ [32]).drop i = ((tl z).drop i).map wdN ++ [32] := by
    rw [List.drop_append_of_le_length (by rw [List.length_map]; omega), List.map_drop]
  rw [ht, hd, fd1, spN_words]
  have hb := spN_le isWd ((tl z).drop i)
  rw [if_pos (by rw [List.length_append, List.length_map]; show _ < _ + 1; omega)]
/-! ### a word that is a number -/
def rm1 (l : List Nat) : List Nat := l.take (spN (· != 46) l) ++ l.drop (spN (· != 46) l + 1)
theorem repl_dot (l : List Nat) : repl1 (mkS l) (Str.ofString ".") (Str.ofString "") = mkS (rm1 l) := by
  have hy : tl (Str.ofString ".") = [46] := rfl
  have hyl : (Str.ofString ".").length = 1 := rfl
  have hm := mkS_len l
  have hfd := occ_fd (mkS l) (Str.ofString ".") 0 (mkS l).length (Nat.zero_le _) (Nat.le_refl _) (by rw [hy]; simp)
  rw [tl_mkS, hy, List.drop_zero, Nat.sub_zero, hm, List.take_length, fd1] at hfd
  have hb := spN_le (· != 46) l
  unfold repl1 rm1
  rw [hm, hyl]
  rcases hfd with ⟨h1, h2⟩ | ⟨j, r, h1, h2⟩
  · rw [h2]
    show mkS l = _
    by_cases q : spN (· != 46) l < l.length
    · rw [if_pos q] at h1
      cases h1
    · have e : spN (· != 46) l = l.length := by omega
      rw [e, List.take_length, List.drop_of_length_le (by omega), List.append_nil]
  · by_cases q : spN (· != 46) l < l.length
    · rw [if_pos q] at h1
      cases h1
      have hr : r = [] := by
        have h3 := StrLaws.occ_length_le (mkS l) (Str.ofString ".") 0 l.length 1
        rw [h2, List.length_cons] at h3
        exact List.eq_nil_of_length_eq_zero (by omega)
      rw [h2, hr, Nat.zero_add]
      show glued (Str.ofString "") (partsBetween (mkS l) [spN (· != 46) l] 1) = _
      generalize spN (· != 46) l = n at q ⊢
      refine ext_tl ?_
      rw [tl_mkS]
      unfold glued partsBetween strSub
      have e2 : (mkS l).length = l.length := hm
      show ((((mkS l).cps.extract 0 n) ++ (Str.ofString "").cps) ++ ((mkS l).cps.extract (n + 1) (mkS l).length)).toList = _
      rw [e2]
      have e3 : (Str.ofString "").cps = #[] := rfl
      rw [e3]
      have e4 : (mkS l).cps = l.toArray := rfl
      rw [e4]
      simp only [Array.append_empty, Array.toList_append, Array.toList_extract, List.extract_eq_drop_take, List.drop_zero, Nat.sub_zero]
      congr 1
      exact List.take_of_length_le (by rw [List.length_drop]; omega)
    · rw [if_neg q] at h1
      cases h1
theorem dig_all : ∀ c, c < 128 → Unicode.isDigit c = isDg c := by decide +kernel
theorem isdigit_mk (l : List Nat) (h : ∀ c ∈ l, c < 128) : Txt.isdigit (mkS l) = (!l.isEmpty && l.all isDg) := by
  unfold Txt.isdigit
  rw [mkS_len]
  have e : (mkS l).cps.all Unicode.isDigit = l.all isDg := by
    show l.toArray.all Unicode.isDigit = _
    rw [List.all_toArray]
    induction l with
    | nil => rfl
    | cons c r ih =>
      rw [List.all_cons, List.all_cons, dig_all c (h c List.mem_cons_self), ih fun d hd => h d (List.mem_cons_of_mem _ hd)]
  rw [e]
  cases l with
  | nil => rfl
  | cons c r =>
    rw [List.length_cons, decide_eq_true (show r.length + 1 > 0 by omega)]
    rfl
def numB (l : List Nat) : Bool := (!l.isEmpty && l.all isDg) || (!(rm1 l).isEmpty && (rm1 l).all isDg)
theorem spN_split {p : Nat → Bool} : ∀ l : List Nat, l = l.take (spN p l) ++ l.drop (spN p l) ∧ (l.take (spN p l)).all p = true ∧ hP p (l.drop (spN p l)) = false
  | [] => ⟨rfl, rfl, rfl⟩
  | c :: r => by
    obtain ⟨h1, h2, h3⟩ := spN_split (p := p) r
    have e : spN p (c :: r) = if p c = true then spN p r + 1 else 0 := rfl
    cases q : p c with
    | true =>
      rw [e, q, if_pos rfl, List.take_succ_cons, List.drop_succ_cons]
      refine ⟨by rw [List.cons_append, ← h1], by rw [List.all_cons, q, h2]; rfl, h3⟩
    | false =>
      rw [e, q, if_neg Bool.false_ne_true]
      exact ⟨rfl, rfl, q⟩
theorem spN_app {p : Nat → Bool} {r : List Nat} (hr : hP p r = false) : ∀ l : List Nat, l.all p = true → spN p (l ++ r) = l.length
  | [], _ => by
    cases r with
    | nil => rfl
    | cons c r =>
      have : p c = false := hr
      show (if p c = true then _ else 0) = 0
      rw [this, if_neg Bool.false_ne_true]
  | d :: l, h => by
    rw [List.all_cons, Bool.and_eq_true] at h
    show (if p d = true then spN p (l ++ r) + 1 else 0) = l.length + 1
    rw [if_pos h.1, spN_app hr l h.2]
theorem dg_wd {c : Nat} (h : isDg c = true) : isWd c = true := by
  unfold isDg at h
  unfold isWd
  rw [h]
  simp
theorem hP_dg {l : List Nat} (h : hP isWd l = false) : hP isDg l = false := by
  cases l with
  | nil => rfl
  | cons c r =>
    cases q : isDg c with
    | false => exact q
    | true =>
      have := dg_wd q
      rw [show hP isWd (c :: r) = isWd c from rfl, this] at h
      cases h
theorem hP_dot {l : List Nat} (h : hP isWd l = false) : hP (· == 46) l = false := by
  cases l with
  | nil => rfl
  | cons c r =>
    cases q : c == 46 with
    | false => exact q
    | true =>
      have e : c = 46 := eq_of_beq q
      subst e
      cases h
theorem nu_word {w r : List Nat} (hw : numB w = true) (hr : hP isWd r = false) : nuN (w ++ r) = w.length ∧ ∃ c t, w = c :: t ∧ (isDg c || (c == 46 && hP isDg (t ++ r))) = true := by
  unfold numB at hw
  rw [Bool.or_eq_true] at hw
  have hrd := hP_dg hr
  have hrp := hP_dot hr
  rcases hw with hw | hw
  · rw [Bool.and_eq_true] at hw
    obtain ⟨h1, h2⟩ := hw
    have e := spN_app hrd w h2
    refine ⟨?_, ?_⟩
    · unfold nuN
      rw [e, List.drop_left, hrp, if_neg Bool.false_ne_true]
    · cases w with
      | nil => cases h1
      | cons c t =>
        rw [List.all_cons, Bool.and_eq_true] at h2
        exact ⟨c, t, rfl, by rw [h2.1]; rfl⟩
  · rw [Bool.and_eq_true] at hw
    obtain ⟨h1, h2⟩ := hw
    obtain ⟨s1, s2, s3⟩ := spN_split (p := (· != 46)) w
    unfold rm1 at h1 h2
    have hd : w.drop (spN (· != 46) w + 1) = (w.drop (spN (· != 46) w)).drop 1 := by rw [List.drop_drop]
    rw [hd] at h1 h2
    generalize w.take (spN (· != 46) w) = a at s1 s2 h1 h2
    generalize w.drop (spN (· != 46) w) = b at s1 s3 h1 h2
    subst s1
    rw [List.all_append, Bool.and_eq_true] at h2
    cases b with
    | nil =>
      rw [List.append_nil]
      have e := spN_app hrd a h2.1
      refine ⟨?_, ?_⟩
      · unfold nuN
        rw [e, List.drop_left, hrp, if_neg Bool.false_ne_true]
      · cases a with
        | nil => cases h1
        | cons c t =>
          have h3 := h2.1
          rw [List.all_cons, Bool.and_eq_true] at h3
          exact ⟨c, t, rfl, by rw [h3.1]; rfl⟩
    | cons c b =>
      have hc : c = 46 := by
        have : (c != 46) = false := s3
        simpa using this
      subst hc
      rw [List.drop_succ_cons, List.drop_zero] at h1 h2
      have e1 : spN isDg ((a ++ 46 :: b) ++ r) = a.length := by
        rw [List.append_assoc]
        exact spN_app (r := 46 :: b ++ r) rfl a h2.1
      have e2 : ((a ++ 46 :: b) ++ r).drop a.length = 46 :: (b ++ r) := by
        rw [List.append_assoc, List.drop_left]
        rfl
      have e3 : ((a ++ 46 :: b) ++ r).drop (a.length + 1) = b ++ r := by
        rw [← List.drop_drop, e2]
        rfl
      refine ⟨?_, ?_⟩
      · unfold nuN
        rw [e1, e2, e3, spN_app hrd b h2.2]
        show (if true = true then _ else _) = _
        rw [if_pos rfl, List.length_append, List.length_cons]
        omega
      · cases a with
        | nil =>
          refine ⟨46, b, rfl, ?_⟩
          cases b with
          | nil => cases h1
          | cons d b =>
            have h3 := h2.2
            rw [List.all_cons, Bool.and_eq_true] at h3
            show (_ || (true && isDg d)) = true
            rw [h3.1, Bool.and_self, Bool.or_true]
        | cons d a =>
          have h3 := h2.1
          rw [List.all_cons, Bool.and_eq_true] at h3
          exact ⟨d, a ++ 46 :: b, rfl, by rw [h3.1]; rfl⟩
end PX
/-! PXTm -/
namespace PX
open PySem PySem.Spec PyProof.Rows L2 TL PySem.Builtin PySem.Builtin.Str
/-! ### texts cut and stripped -/
theorem sub_mk (l : List Nat) (a b : Nat) : strSub (mkS l) a b = mkS ((l.drop a).take (b - a)) := by
  refine ext_tl ?_
  rw [tl_mkS]
  unfold strSub
  show ((mkS l).cps.extract a b).toList = _
  have e4 : (mkS l).cps = l.toArray := rfl
  rw [e4, Array.toList_extract, List.extract_eq_drop_take]
theorem tw_spN (p : Nat → Bool) : ∀ l : List Nat, (l.takeWhile p).length = spN p l
  | [] => rfl
  | c :: r => by
    rw [List.takeWhile_cons]
    show _ = if p c = true then spN p r + 1 else 0
    split
    · rw [List.length_cons, tw_spN p r]
    · rfl
theorem spN_congr {p q : Nat → Bool} (h : ∀ c, p c = q c) : ∀ l : List Nat, spN p l = spN q l
  | [] => rfl
  | c :: r => by
    show (if p c = true then spN p r + 1 else 0) = if q c = true then spN q r + 1 else 0
    rw [h c, spN_congr h r]
theorem cont_mem (y : Str) (c : Nat) : y.cps.contains c = decide (c ∈ y.cps.toList) := by
  rw [Array.contains_eq_mem]
  simp
theorem lstrip_mk (l : List Nat) (y : Str) (p : Nat → Bool) (hp : ∀ c, decide (c ∈ y.cps.toList) = p c) : Txt.lstripChars (mkS l) y = mkS (l.drop (spN p l)) := by
  unfold Txt.lstripChars
  rw [stripBy_eq]
  have e1 : stripLo (fun c => y.cps.contains c) true (mkS l) = spN p l := by
    unfold stripLo
    rw [if_pos rfl]
    show (l.takeWhile _).length = _
    rw [tw_spN]
    exact spN_congr (fun c => (cont_mem y c).trans (hp c)) l
  have e2 : stripHi (fun c => y.cps.contains c) false (mkS l) (spN p l) = l.length := by
    unfold stripHi
    rw [if_neg Bool.false_ne_true, mkS_len]
  show strSub (mkS l) (stripLo (fun c => y.cps.contains c) true (mkS l)) (stripHi (fun c => y.cps.contains c) false (mkS l) (stripLo (fun c => y.cps.contains c) true (mkS l))) = _
  rw [e1, e2, sub_mk, List.take_of_length_le (by rw [List.length_drop]; omega)]
theorem rstrip_mk (l : List Nat) (y : Str) (p : Nat → Bool) (hp : ∀ c, decide (c ∈ y.cps.toList) = p c) : Txt.rstripChars (mkS l) y = mkS (l.take (l.length - spN p l.reverse)) := by
  unfold Txt.rstripChars
  rw [stripBy_eq]
  have e1 : stripLo (fun c => y.cps.contains c) false (mkS l) = 0 := rfl
  have e2 : stripHi (fun c => y.cps.contains c) true (mkS l) 0 = l.length - spN p l.reverse := by
    unfold stripHi
    rw [if_pos rfl, mkS_len]
    show l.length - ((l.drop 0).reverse.takeWhile _).length = _
    rw [tw_spN, List.drop_zero]
    rw [spN_congr (fun c => (cont_mem y c).trans (hp c)) l.reverse]
  show strSub (mkS l) (stripLo (fun c => y.cps.contains c) false (mkS l)) (stripHi (fun c => y.cps.contains c) true (mkS l) (stripLo (fun c => y.cps.contains c) false (mkS l))) = _
  rw [e1, e2, sub_mk, List.drop_zero, Nat.sub_zero]
theorem cut_from (z : Str) (i : Nat) : cutS z (some (i : Int)) none = mkS ((tl z).drop i) := by
  refine ext_tl ?_
  show ((z.cps.toList.drop (HT.sIx z.length 0 (some (i : Int)))).take (HT.sIx z.length z.length none - HT.sIx z.length 0 (some (i : Int)))) = (tl z).drop i
  rw [HT.sIx_nat, HT.sIx_none]
  have hl : z.length = (tl z).length := len_tl z
  rw [hl]
  show (((tl z).drop (min i (tl z).length)).take ((tl z).length - min i (tl z).length)) = _
  rw [List.take_of_length_le (by rw [List.length_drop]; exact Nat.le_refl _)]
  by_cases h : i ≤ (tl z).length
  · rw [Nat.min_eq_left h]
  · rw [Nat.min_eq_right (by omega), List.drop_of_length_le (Nat.le_refl _), List.drop_of_length_le (by omega)]
theorem glob_piece {X : Cx} {mg : Str → Option Value} {K : PySem.W.Frag} {w : World} {pos : Pos} (hm : X.mg = mg) (T : Tx w K mg) (hg : Gl X "PIECE") : PE X (.Name "PIECE" pos) (tC (.int 32)) := by
  obtain ⟨t, e⟩ := c_PIECE T
  exact pe_glob hg (hm ▸ e) ⟨t, rfl⟩
/-- digits at the head of a piece -/
theorem spN_piece {p : Nat → Bool} (l : List Nat) (m : Nat) : spN p (l.take m) = min (spN p l) (l.take m).length := by
  induction l generalizing m with
  | nil => simp [spN]
  | cons c r ih =>
    cases m with
    | zero => simp [spN]
    | succ m =>
      rw [List.take_succ_cons, List.length_cons]
      show (if p c = true then spN p (r.take m) + 1 else 0) = min (if p c = true then spN p r + 1 else 0) _
      cases p c with
      | false => rw [if_neg Bool.false_ne_true, if_neg Bool.false_ne_true, Nat.zero_min]
      | true =>
        rw [if_pos rfl, if_pos rfl, ih]
        omega
theorem spN_on {p : Nat → Bool} : ∀ (l : List Nat) (n : Nat), n ≤ spN p l → spN p l = n + spN p (l.drop n)
  | l, 0, _ => by rw [List.drop_zero, Nat.zero_add]
  | [], n + 1, h => by
    have : n + 1 ≤ 0 := h
    omega
  | c :: r, n + 1, h => by
    have e : spN p (c :: r) = if p c = true then spN p r + 1 else 0 := rfl
    cases q : p c with
    | false =>
      rw [e, q, if_neg Bool.false_ne_true] at h
      omega
    | true =>
      rw [e, q, if_pos rfl] at h ⊢
      rw [List.drop_succ_cons, spN_on r n (by omega)]
      omega
section
variable {P : Program} {w : World} {K : PySem.W.Frag} {mg : Str → Option Value} {base : Heap}
def spRun : Sp := fun vs H Q _ => ∃ (z : Str) (i : Nat), vs = [.str z, .int (i : Int), .str blS] ∧ Gd z ∧ i ≤ z.length ∧ Q (.int ((i + spN isBl ((tl z).drop i) : Nat) : Int)) H
theorem ok_end_of_run (T : Tx w K mg) : Ok P w K mg base CX0 1 (He.fAd K d_end_of_run.at_) p_end_of_run spRun := by
  obtain ⟨fd, F⟩ := f_end_of_run T
  refine ⟨fd, ?_, b_end_of_run F, F.kp⟩
  refine F.ok sc_end_of_run (fun vs H Q E h => ?_) (fun cdv A outer s H vs Q E hr h => ?_)
  · obtain ⟨z, i, rfl, _⟩ := h
    rfl
  · obtain ⟨z, i, rfl, g, hi, k⟩ := h
    have nd := sc_end_of_run.nd
    have hlen : z.length = (tl z).length := len_tl z
    refine ⟨_, PSs.nox (pss_one (ps_while PassesOwn.never (pt_val pe_bl)
      (pss_cons (ps_set (i := 3) nd rfl (.inl rfl) (pe_slice sl_str (pv 0) (po_some (pv 1)) (po_some (pe_op op_add (pv 1) (glob_piece rfl T (by rfl))))))
      (pss_cons (ps_set (i := 4) nd rfl (.inl rfl) (pe_m1 PySem.F.slot_str_lstrip PySem.F.type_str_lstrip mt_lstripChars (pv 3) (pv 2)))
      (pss_cons (ps_aug (i := 1) nd rfl (.inl rfl) (pe_op op_sub (pe_callB call_len (by rfl) (n_len T) PySem.boot_len (pa_cons (pv 3) pa_nil)) (pe_callB call_len (by rfl) (n_len T) PySem.boot_len (pa_cons (pv 4) pa_nil))) ip_add)
      (pss_one (ps_if (pw_or (pt_cmpR op_ne (pv 4) pe_str (nomark _)) (pw_or1 (pt_cmpR op_eq (pv 3) pe_str (nomark _)))).pt (pss_one (ps_ret (pv 1))) pss_nil))))))), ?_⟩
    have hdd : ∀ n, (tl z).drop (i + n) = ((tl z).drop i).drop n := fun n => drop_add
    generalize hl : (tl z).drop i = l at *
    have hll : l.length = z.length - i := by rw [← hl, List.length_drop, hlen]
    refine while_x (fun mm σ H2 => H2 = H ∧ ∃ (j : Nat) (v3 v4 : Option V), mm = l.length - j ∧ σ = [some (V.str z), some (.int ((i + j : Nat) : Int)), some (.str blS), v3, v4] ∧ j ≤ l.length ∧ spN isBl l = j + spN isBl (l.drop j))
      (fun σ H2 => False) ⟨_, rfl, 0, none, none, rfl, rfl, Nat.zero_le _, by rw [List.drop_zero, Nat.zero_add]⟩ (fun _ _ h => h.elim) ?_
    rintro - mm σ H2 R ⟨rfl, j, v3, v4, rfl, rfl, hj, e⟩ hfin hbody
    refine ⟨_, rfl, ?_⟩
    refine hbody _ ?_
    refine ⟨_, rfl, _, rfl, _, rfl, _, rfl, _, _, rfl, rfl, _, rfl, z, rfl, g.line, ?_⟩
    have ec := cut_nat z (i + j) (i + j + 32)
    rw [show i + j + 32 - (i + j) = 32 by omega, hdd j] at ec
    have ec2 : cutS z (some ((i + j : Nat) : Int)) (some (((i + j : Nat) : Int) + 32)) = mkS ((l.drop j).take 32) := by
      rw [show ((i + j : Nat) : Int) + 32 = ((i + j + 32 : Nat) : Int) by omega]
      exact ec
    rw [ec2]
    have hpl : ((l.drop j).take 32).length ≤ 32 := by rw [List.length_take]; omega
    have hpl2 : ((l.drop j).take 32).length = min 32 (l.length - j) := by rw [List.length_take, List.length_drop]
    have hsp := spN_piece (p := isBl) (l.drop j) 32
    have hspb := spN_le isBl (l.drop j)
    rw [List.length_drop] at hspb
    generalize (l.drop j).take 32 = pc at hpl hpl2 hsp ⊢
    refine ⟨_, rfl, ⟨_, rfl⟩, _, rfl, _, _, rfl, rfl, (by rw [mkS_len, sizeLine_eq]; omega), ?_⟩
    rw [lstrip_mk pc blS isBl bl_eq]
    have hb := spN_le isBl pc
    have hrl : (pc.drop (spN isBl pc)).length = pc.length - spN isBl pc := List.length_drop
    refine ⟨_, rfl, _, rfl, _, _, rfl, ⟨(by rw [mkS_len, sizeLine_eq]; omega), rfl⟩, _, rfl, _, _, rfl, ⟨(by rw [mkS_len, sizeLine_eq]; omega), rfl⟩, _, _, rfl, rfl, _, _, rfl, rfl, ?_⟩
    rw [mkS_len, mkS_len, hrl]
    dsimp only
    rw [show ((i + j : Nat) : Int) + (((pc.length : Nat) : Int) - ((pc.length - spN isBl pc : Nat) : Int)) = ((i + (j + spN isBl pc) : Nat) : Int) by omega]
    refine ⟨_, rfl, rfl, _, rfl, ?_⟩
    have e1 : decide (V.str (mkS (pc.drop (spN isBl pc))) = V.str (Str.ofString "")) = (pc.drop (spN isBl pc)).isEmpty := by
      rw [dec_str, lit (s := "") (l := []), tl_mkS, tl_mkS]
      cases pc.drop (spN isBl pc) with
      | nil => rfl
      | cons a b => exact decide_eq_false (fun h => by cases h)
    have e2 : decide (V.str (mkS pc) = V.str (Str.ofString "")) = pc.isEmpty := by
      rw [dec_str, lit (s := "") (l := []), tl_mkS, tl_mkS]
      cases pc with
      | nil => rfl
      | cons a b => exact decide_eq_false (fun h => by cases h)
    show if (!decide (V.str (mkS (pc.drop (spN isBl pc))) = V.str (Str.ofString ""))) = true then _ else _
    rw [e1]
    have ret : spN isBl l = j + spN isBl pc → Q (.int ((i + (j + spN isBl pc) : Nat) : Int)) H2 := fun h => by
      rw [← h]
      exact k
    cases q1 : (pc.drop (spN isBl pc)).isEmpty with
    | false =>
      refine iteT ?_
      refine iteT ?_
      refine ⟨_, rfl, ret ?_⟩
      have : (pc.drop (spN isBl pc)).length ≠ 0 := fun h => by
        rw [List.eq_nil_of_length_eq_zero h] at q1
        cases q1
      omega
    | true =>
      have h0 : pc.length - spN isBl pc = 0 := by
        rw [← hrl, List.isEmpty_iff.mp q1]
        rfl
      refine iteF ?_
      refine ⟨_, rfl, rfl, _, rfl, ?_⟩
      show if decide (V.str (mkS pc) = V.str (Str.ofString "")) = true then _ else _
      rw [e2]
      cases q2 : pc.isEmpty with
      | true =>
        refine iteT ?_
        refine ⟨_, rfl, ret ?_⟩
        have : pc.length = 0 := by
          rw [List.isEmpty_iff.mp q2]
          rfl
        omega
      | false =>
        refine iteF ?_
        have hne : pc.length ≠ 0 := fun h => by
          rw [List.eq_nil_of_length_eq_zero h] at q2
          cases q2
        refine ⟨l.length - (j + spN isBl pc), by omega, rfl, j + spN isBl pc, _, _, rfl, rfl, by omega, ?_⟩
        have hn : spN isBl pc ≤ spN isBl (l.drop j) := by omega
        rw [e, spN_on (l.drop j) (spN isBl pc) hn, List.drop_drop]
        omega
end
end PX
/-! DXa -/
namespace PX
open PySem PySem.Spec PyProof.Rows L2 TL
theorem pss_no {X : Cx} {b : List Stmt} : PSs X b (fun _ _ _ => False) := ⟨by intros; contradiction⟩
theorem ps_no {X : Cx} {b : Stmt} : PS X b (fun _ _ _ => False) := ⟨by intros; contradiction⟩
theorem pt_nev {X : Cx} {e : Expr} : PT X e (fun _ _ _ => False) := ⟨by intros; contradiction⟩
theorem pe_no {X : Cx} {e : Expr} : PE X e (fun _ _ _ => False) := ⟨by intros; contradiction⟩
theorem same_upd0 {H0 H : Hp} {b : Addr} {o : HO} (s : Same H0 H) (h : H0 b = none) : Same H0 (upd H b o) := fun c u e => by
  rw [upd_ne (ne_of_none e h)]
  exact s _ _ e
/-! ### a scanner -/
abbrev CSc (K : PySem.W.Frag) : Addr := He.ga K "Scanner"
def wsS (z : Str) : Str := mkS ((tl z).map wdN ++ [32])
def scF (z : Str) (i : Nat) : List (Str × V) := [("text", .str z), ("words", .str (wsS z)), ("at", .int (i : Int))]
theorem lk_skip {f g : Str} {v : V} {r : List (Str × V)} (h : (f == g) = false) : ((g, v) :: r).lookup f = r.lookup f := by
  rw [List.lookup_cons, h]
theorem lk_hit {f : Str} {v : V} {r : List (Str × V)} : ((f, v) :: r).lookup f = some v := by
  rw [List.lookup_cons, beq_self_eq_true]
theorem put_skip {f g : Str} {u v : V} {r : List (Str × V)} (h : ¬ g = f) : putF f v ((g, u) :: r) = (g, u) :: putF f v r := by
  show (if g = f then (g, v) :: r else (g, u) :: putF f v r) = _
  rw [if_neg h]
theorem put_hit {f : Str} {u v : V} {r : List (Str × V)} : putF f v ((f, u) :: r) = (f, v) :: r := by
  show (if f = f then (f, v) :: r else (f, u) :: putF f v r) = _
  rw [if_pos rfl]
theorem put_new {f : Str} {v : V} : putF f v [] = [(f, v)] := rfl
theorem sc_text {z : Str} {i : Nat} : (scF z i).lookup ("text" : Str) = some (.str z) := lk_hit
theorem sc_words {z : Str} {i : Nat} : (scF z i).lookup ("words" : Str) = some (.str (wsS z)) := (lk_skip (by decide +kernel)).trans lk_hit
theorem sc_at {z : Str} {i : Nat} : (scF z i).lookup ("at" : Str) = some (.int (i : Int)) := (lk_skip (by decide +kernel)).trans ((lk_skip (by decide +kernel)).trans lk_hit)
theorem sc_no {z : Str} {i : Nat} {m : Str} (h1 : (m == ("text" : Str)) = false) (h2 : (m == ("words" : Str)) = false) (h3 : (m == ("at" : Str)) = false) : (scF z i).lookup m = none := (lk_skip h1).trans ((lk_skip h2).trans ((lk_skip h3).trans rfl))
theorem sc_put {z : Str} {i : Nat} {n : Int} {j : Nat} (h : n = (j : Int)) : putF "at" (.int n) (scF z i) = scF z j := by
  subst h
  unfold scF
  rw [put_skip (by decide +kernel), put_skip (by decide +kernel), put_hit]
/-- all but p stands -/
def SameB (p : Addr) (H H' : Hp) : Prop := ∀ b o, b ≠ p → H b = some o → H' b = some o
theorem SameB.refl (p : Addr) (H : Hp) : SameB p H H := fun _ _ _ h => h
theorem SameB.trans {p : Addr} {H H1 H2 : Hp} (a : SameB p H H1) (b : SameB p H1 H2) : SameB p H H2 := fun c o n h => b c o n (a c o n h)
theorem SameB.of {p : Addr} {H H1 : Hp} (a : Same H H1) : SameB p H H1 := fun c o _ h => a c o h
theorem SameB.up {p : Addr} {H : Hp} {o : HO} : SameB p H (upd H p o) := fun c o' n h => by rw [upd_ne n]; exact h
theorem SameB.free {p d : Addr} {H H' : Hp} (s : SameB p H H') (hp : H p ≠ none) (hp' : H' p ≠ none) (h : H' d = none) : H d = none := by
  by_cases e : d = p
  · subst e
    exact absurd h hp'
  · cases q : H d with
    | none => rfl
    | some o =>
      have := s d o e q
      rw [h] at this
      cases this
/-- the scanner at p: dx its dict, the text z, the place i -/
def ScA (K : PySem.W.Frag) (H : Hp) (p dx : Addr) (z : Str) (i : Nat) : Prop := H p = some (.ins (CSc K) dx (scF z i))
/-- behind a step: the scanner has moved to j, all else stands -/
def ScM (K : PySem.W.Frag) (H H' : Hp) (p dx : Addr) (z : Str) (j : Nat) : Prop := SameB p H H' ∧ ScA K H' p dx z j
section
variable {K : PySem.W.Frag} {H H1 H2 : Hp} {p dx : Addr} {z : Str} {i j : Nat}
theorem ScA.ne (a : ScA K H p dx z i) : H p ≠ none := by
  rw [a]
  intro z
  cases z
theorem ScM.same (a : ScA K H p dx z j) (s : Same H H1) : ScM K H H1 p dx z j := ⟨.of s, s _ _ a⟩
theorem ScM.refl (a : ScA K H p dx z j) : ScM K H H p dx z j := ⟨.refl _ _, a⟩
theorem ScM.trans (a : ScM K H H1 p dx z i) (b : ScM K H1 H2 p dx z j) : ScM K H H2 p dx z j := ⟨a.1.trans b.1, b.2⟩
theorem ScM.more (a : ScM K H H1 p dx z i) (s : Same H1 H2) : ScM K H H2 p dx z i := ⟨a.1.trans (.of s), s _ _ a.2⟩
theorem ScM.up (m : ScM K H H1 p dx z i) : ScM K H (upd H1 p (.ins (CSc K) dx (scF z j))) p dx z j := ⟨m.1.trans .up, upd_same⟩
theorem ScM.free (a : ScA K H p dx z i) (m : ScM K H H1 p dx z j) {b : Addr} (hb : H1 b = none) : H b = none := m.1.free a.ne m.2.ne hb
end
/-- what a method of the scanner hands back and how far it goes -/
def spSc (K : PySem.W.Frag) (as : List V) (f : List Nat → Option (Nat × V)) : Sp := fun vs H Q _ => ∃ (p dx : Addr) (z : Str) (i n : Nat) (y : V), vs = .ref p :: as ∧ ScA K H p dx z i ∧ Gd z ∧ i ≤ z.length ∧ f ((tl z).drop i) = some (n, y) ∧
  ∀ H', ScM K H H' p dx z (i + n) → i + n ≤ z.length → Q y H'
/-- a written text stands here -/
def exO (W r : List Nat) : Option (Nat × V) := if r.take W.length = W then some (W.length, .non) else none
def blO (r : List Nat) : Option (Nat × V) := some (spN isBl r, .bl (hP isBl r))
def nmO (r : List Nat) : Option (Nat × V) :=
  if hP isLt r then
    if hP (· == 58) (r.drop (spN isWd r)) then (if hP isLt (r.drop (spN isWd r + 1)) then some (nmN r, .str (mkS (r.take (nmN r)))) else none)
    else some (nmN r, .str (mkS (r.take (nmN r))))
  else none
def upO (E r : List Nat) : Option (Nat × V) := (fdN E r).map fun j => (j + E.length, .str (mkS (r.take j)))
def ptN (r : List Nat) : Nat := spN (fun c => c != 60 && c != 38) r
def plO (r : List Nat) : Option (Nat × V) := if (fdN [93, 93, 62] (r.take (ptN r))).isNone then some (ptN r, .str (mkS (r.take (ptN r)))) else none
theorem take_len {W r : List Nat} (h : r.take W.length = W) : W.length ≤ r.length := by
  have := congrArg List.length h
  rw [List.length_take] at this
  omega
section
variable {P : Program} {w : World} {K : PySem.W.Frag} {mg : Str → Option Value} {base : Heap}
theorem ok_is_blank (T : Tx w K mg) : Ok P w K mg base CX0 1 (He.fAd K d_is_blank.at_) p_is_blank (spSg isBl) := by
  obtain ⟨fd, F⟩ := f_is_blank T
  refine ⟨fd, ?_, b_is_blank F, F.kp⟩
  refine F.ok sc_is_blank (fun vs H Q E h => ?_) (fun cdv A outer s H vs Q E hr h => ?_)
  · obtain ⟨l, rfl, _⟩ := h
    rfl
  · obtain ⟨l, rfl, k⟩ := h
    refine ⟨_, PSs.nox (pss_one (ps_ret (pe_cmpR op_in_seq (pv 0) (pe_tup (pa_cons pe_str (pa_cons pe_str (pa_cons pe_str pa_nil)))) (by rfl)))), ?_⟩
    refine ⟨_, rfl, (by decide), fun p hp => ⟨p, _, rfl, .inr (SqT.of upd_same), rfl, rfl, ?_⟩⟩
    have kk := k _ (same_new hp (o := .tup [.str (Str.ofString " "), .str (Str.ofString "\t"), .str (Str.ofString "\n")]))
    rw [if_neg Bool.false_ne_true]
    have e9 : inV (.str (sg l)) [.str (Str.ofString " "), .str (Str.ofString "\t"), .str (Str.ofString "\n")] = hB isBl l := by
      show (eqV _ _ || (eqV _ _ || (eqV _ _ || false))) = _
      rw [eqV_str, eqV_str, eqV_str, lit (s := " ") (l := [32]), lit (s := "\t") (l := [9]), lit (s := "\n") (l := [10]), tl_mkS, tl_mkS, tl_mkS]
      cases l with
      | nil => rfl
      | cons c r =>
        show (decide ([32] = [c]) || (decide ([9] = [c]) || (decide ([10] = [c]) || false))) = isBl c
        rw [dec1, dec1, dec1, Bool.or_false]
        unfold isBl
        cases c == 32 <;> cases c == 9 <;> cases c == 10 <;> rfl
    rw [e9]
    exact kk
def spScInit (K : PySem.W.Frag) : Sp := fun vs H Q _ => ∃ (p dx : Addr) (z : Str), vs = [.ref p, .str z] ∧ Gd z ∧ H p = some (.ins (CSc K) dx []) ∧ ∀ H', SameB p H H' → ScA K H' p dx z 0 → Q .non H'
theorem ok_Scanner_init (T : Tx w K mg) : Ok P w K mg base CX0 2 (He.fAd K d_Scanner_init.at_) p_Scanner_init (spScInit K) := by
  obtain ⟨fd, F⟩ := f_Scanner_init T
  obtain ⟨fW, GW, bW, kW⟩ := ok_words_alone (P := P) (base := base) T
  refine ⟨fd, ?_, b_Scanner_init F, F.kp⟩
  refine F.ok sc_Scanner_init (fun vs H Q E h => ?_) (fun cdv A outer s H vs Q E hr h => ?_)
  · obtain ⟨p, dx, z, rfl, _⟩ := h
    rfl
  · obtain ⟨p, dx, z, rfl, g, hp, k⟩ := h
    refine ⟨_, PSs.nox (pss_cons (ps_fld (pv 0) (pv 1) rfl) (pss_cons (ps_fld (pv 0) (pe_call (E := E0) GW (hr.mono (by omega)) (by rfl) (g_words_alone T) kW bW .nil pass0 (pa_cons (pv 1) pa_nil)) rfl) (pss_one (ps_fld (pv 0) pe_int rfl)))), ?_⟩
    refine ⟨_, rfl, _, rfl, p, CSc K, dx, _, rfl, hp, cls_Scanner T, na_Scanner_text T, (by decide), ?_⟩
    refine ⟨_, rfl, z, rfl, g, _, rfl, p, CSc K, dx, _, rfl, upd_same, cls_Scanner T, na_Scanner_words T, (by show 1 < 1000; decide), ?_⟩
    refine ⟨_, rfl, p, CSc K, dx, _, rfl, upd_same, cls_Scanner T, na_Scanner_at T, ?_, ?_⟩
    · rw [put_new, put_skip (by decide +kernel), put_new]
      show 2 < 1000
      decide
    · rw [put_new, put_skip (by decide +kernel), put_new, put_skip (by decide +kernel), put_skip (by decide +kernel), put_new]
      exact k _ ((SameB.up.trans .up).trans .up) upd_same
def spPeek (K : PySem.W.Frag) : Sp := fun vs H Q _ => ∃ (p dx : Addr) (z : Str) (i : Nat), vs = [.ref p] ∧ ScA K H p dx z i ∧ Gd z ∧ Q (.str (sg ((tl z).drop i))) H
theorem ok_peek (T : Tx w K mg) : Ok P w K mg base CX0 1 (He.fAd K d_Scanner_peek.at_) p_Scanner_peek (spPeek K) := by
  obtain ⟨fd, F⟩ := f_Scanner_peek T
  refine ⟨fd, ?_, b_Scanner_peek F, F.kp⟩
  refine F.ok sc_Scanner_peek (fun vs H Q E h => ?_) (fun cdv A outer s H vs Q E hr h => ?_)
  · obtain ⟨p, dx, z, i, rfl, _⟩ := h
    rfl
  · obtain ⟨p, dx, z, i, rfl, hp, g, k⟩ := h
    refine ⟨_, PSs.nox (pss_one (ps_ret (pe_slice sl_str (pe_fld (pv 0) rfl) (po_some (pe_fld (pv 0) rfl)) (po_some (pe_op op_add (pe_fld (pv 0) rfl) pe_int))))), ?_⟩
    refine ⟨_, rfl, p, CSc K, dx, _, _, rfl, hp, cls_Scanner T, na_Scanner_text T, sc_text, _, rfl, p, CSc K, dx, _, _, rfl, hp, cls_Scanner T, na_Scanner_at T, sc_at, _, rfl, _, rfl, p, CSc K, dx, _, _, rfl, hp, cls_Scanner T, na_Scanner_at T, sc_at, _, _, rfl, rfl, _, rfl, ?_⟩
    refine ⟨z, rfl, g.line, ?_⟩
    rw [cut_one]
    exact k
def spEx (K : PySem.W.Frag) : Sp := fun vs H Q E => ∃ W : List Nat, W.length ≤ 1000000 ∧ spSc K [.str (mkS W)] (exO W) vs H Q E
theorem ok_expect (T : Tx w K mg) : Ok P w K mg base CX0 2 (He.fAd K d_Scanner_expect.at_) p_Scanner_expect (spEx K) := by
  obtain ⟨fd, F⟩ := f_Scanner_expect T
  refine ⟨fd, ?_, b_Scanner_expect F, F.kp⟩
  refine F.ok sc_Scanner_expect (fun vs H Q E h => ?_) (fun cdv A outer s H vs Q E hr h => ?_)
  · obtain ⟨W, hW, p, dx, z, i, n, y, rfl, _⟩ := h
    rfl
  · obtain ⟨W, hW, p, dx, z, i, n, y, rfl, hp, g, hi, hf, k⟩ := h
    refine ⟨_, PSs.nox (pss_cons (ps_if ((pt_val (pe_bm PySem.F.plainAttrs_str PySem.F.slot_str_startswith PySem.F.type_str_startswith mt_startswith3 (pe_fld (pv 0) rfl) (pa_cons (pv 1) (pa_cons (pe_fld (pv 0) rfl) pa_nil))))) (pss_cons (ps_fldaug (pv 0) (pe_callB call_len (by rfl) (n_len T) PySem.boot_len (pa_cons (pv 1) pa_nil)) ip_add) (pss_one (ps_retN))) pss_nil) pss_no), ?_⟩
    unfold exO at hf
    split at hf
    · rename_i hw
      obtain ⟨rfl, rfl⟩ : W.length = n ∧ V.non = y := by
        have := Option.some.inj hf
        exact ⟨congrArg Prod.fst this, congrArg Prod.snd this⟩
      have hl := take_len hw
      have hlen : z.length = (tl z).length := len_tl z
      rw [List.length_drop] at hl
      refine ⟨_, rfl, p, CSc K, dx, _, _, rfl, hp, cls_Scanner T, na_Scanner_text T, sc_text, rfl, _, rfl, _, rfl, p, CSc K, dx, _, _, rfl, hp, cls_Scanner T, na_Scanner_at T, sc_at, _, _, _, rfl, rfl, ?_⟩
      rw [starts3 _ _ _ hi, tl_mkS]
      refine ⟨_, rfl, ?_⟩
      refine iteT ?_ (decide_eq_true hw)
      refine ⟨_, rfl, p, CSc K, dx, _, _, rfl, hp, cls_Scanner T, na_Scanner_at T, sc_at, _, rfl, _, _, rfl, ⟨by rw [mkS_len, sizeLine_eq]; omega, rfl⟩, _, _, rfl, rfl, dx, _, hp, (by show 3 < 1000; decide), ?_⟩
      rw [sc_put (j := i + W.length) (by show (i : Int) + ((mkS W).length : Int) = ((i + W.length : Nat) : Int); rw [mkS_len]; omega)]
      exact k _ (ScM.refl hp).up (by omega)
    · cases hf
theorem some_pair {n m : Nat} {x y : V} (h : some (n, x) = some (m, y)) : n = m ∧ x = y := ⟨congrArg Prod.fst (Option.some.inj h), congrArg Prod.snd (Option.some.inj h)⟩
theorem ok_read_blanks (T : Tx w K mg) : Ok P w K mg base CX0 2 (He.fAd K d_Scanner_read_blanks.at_) p_Scanner_read_blanks (spSc K [] blO) := by
  obtain ⟨fd, F⟩ := f_Scanner_read_blanks T
  obtain ⟨fB, GB, bB, kB⟩ := ok_is_blank (P := P) (base := base) T
  obtain ⟨fR, GR, bR, kR⟩ := ok_end_of_run (P := P) (base := base) T
  refine ⟨fd, ?_, b_Scanner_read_blanks F, F.kp⟩
  refine F.ok sc_Scanner_read_blanks (fun vs H Q E h => ?_) (fun cdv A outer s H vs Q E hr h => ?_)
  · obtain ⟨p, dx, z, i, n, y, rfl, _⟩ := h
    rfl
  · obtain ⟨p, dx, z, i, n, y, rfl, hp, g, hi, hf, k⟩ := h
    obtain ⟨rfl, rfl⟩ := some_pair hf
    refine ⟨_, PSs.nox (pss_cons ((ps_if ((pt_not (pt_val (pe_call (E := E0) GB (hr.mono (by omega)) (by rfl) (g_is_blank T) kB bB .nil pass0 (pa_cons (pe_slice sl_str (pe_fld (pv 0) rfl) (po_some (pe_fld (pv 0) rfl)) (po_some (pe_op op_add (pe_fld (pv 0) rfl) pe_int))) pa_nil))))) (pss_one ((ps_ret (pe_bl)))) pss_nil)) (pss_cons (ps_fldaug (pv 0) pe_int ip_add) (pss_cons ((ps_if ((pt_val (pe_call (E := E0) GB (hr.mono (by omega)) (by rfl) (g_is_blank T) kB bB .nil pass0 (pa_cons (pe_slice sl_str (pe_fld (pv 0) rfl) (po_some (pe_fld (pv 0) rfl)) (po_some (pe_op op_add (pe_fld (pv 0) rfl) pe_int))) pa_nil)))) (pss_one (ps_fld (pv 0) (pe_call (E := E0) GR (hr.mono (by omega)) (by rfl) (g_end_of_run T) kR bR .nil pass0 (pa_cons ((pe_fld (pv 0) rfl)) (pa_cons (pe_fld (pv 0) rfl) (pa_cons (glob_blanks T (by rfl)) pa_nil)))) rfl)) pss_nil)) (pss_one ((ps_ret (pe_bl))))))), ?_⟩
    have hlen : z.length = (tl z).length := len_tl z
    refine ⟨_, rfl, p, CSc K, dx, _, _, rfl, hp, cls_Scanner T, na_Scanner_text T, sc_text, _, rfl, p, CSc K, dx, _, _, rfl, hp, cls_Scanner T, na_Scanner_at T, sc_at, _, rfl, _, rfl, p, CSc K, dx, _, _, rfl, hp, cls_Scanner T, na_Scanner_at T, sc_at, _, _, rfl, rfl, _, rfl, z, rfl, g.line, ?_⟩
    rw [cut_one]
    refine ⟨_, rfl, fun H1 s1 => ?_⟩
    rw [hB_hP]
    have m1 := ScM.same hp s1
    refine ⟨_, rfl, ?_⟩
    cases hl : (tl z).drop i with
    | nil =>
      refine iteT ?_
      rw [hl] at k
      exact k H1 (by exact m1) hi
    | cons c r =>
      rw [hl] at k
      obtain ⟨h1, h2⟩ := drop_cons hl
      have e0 : spN isBl (c :: r) = if isBl c = true then spN isBl r + 1 else 0 := rfl
      show if (!isBl c) = true then _ else _
      cases hc : isBl c with
      | false =>
        refine iteT ?_
        have k2 := k H1
        rw [e0, hc, if_neg Bool.false_ne_true] at k2
        have e2 : hP isBl (c :: r) = false := hc
        rw [e2] at k2
        exact k2 m1 hi
      | true =>
        refine iteF ?_
        rw [e0, hc, if_pos rfl] at k
        have e2 : hP isBl (c :: r) = true := hc
        rw [e2] at k
        refine ⟨_, rfl, p, CSc K, dx, _, _, rfl, m1.2, cls_Scanner T, na_Scanner_at T, sc_at, _, _, rfl, rfl, dx, _, m1.2, (by show 3 < 1000; decide), ?_⟩
        rw [sc_put (j := i + 1) (by show (i : Int) + 1 = ((i + 1 : Nat) : Int); omega)]
        have m2 : ScM K H _ p dx z (i + 1) := m1.up
        generalize upd H1 p (.ins (CSc K) dx (scF z (i + 1))) = H2 at m2 ⊢
        refine ⟨_, rfl, p, CSc K, dx, _, _, rfl, m2.2, cls_Scanner T, na_Scanner_text T, sc_text, _, rfl, p, CSc K, dx, _, _, rfl, m2.2, cls_Scanner T, na_Scanner_at T, sc_at, _, rfl, _, rfl, p, CSc K, dx, _, _, rfl, m2.2, cls_Scanner T, na_Scanner_at T, sc_at, _, _, rfl, rfl, _, rfl, z, rfl, g.line, ?_⟩
        rw [cut_one, h2]
        refine ⟨_, rfl, fun H3 s3 => ?_⟩
        rw [hB_hP]
        have m3 := m2.more s3
        refine ⟨_, rfl, ?_⟩
        cases hb : hP isBl r with
        | false =>
          refine iteF ?_
          have e3 : spN isBl r = 0 := by
            cases r with
            | nil => rfl
            | cons d r =>
              show (if isBl d = true then spN isBl r + 1 else 0) = 0
              rw [show isBl d = false from hb, if_neg Bool.false_ne_true]
          rw [e3] at k
          exact k H3 m3 (by omega)
        | true =>
          refine iteT ?_
          have hb2 := spN_le isBl r
          have hrl : r.length = z.length - (i + 1) := by rw [← h2, List.length_drop, hlen]
          refine ⟨_, rfl, p, CSc K, dx, _, _, rfl, m3.2, cls_Scanner T, na_Scanner_text T, sc_text, _, rfl, p, CSc K, dx, _, _, rfl, m3.2, cls_Scanner T, na_Scanner_at T, sc_at, z, i + 1, rfl, g, by omega, ?_⟩
          rw [h2]
          refine ⟨_, rfl, p, CSc K, dx, _, rfl, m3.2, cls_Scanner T, na_Scanner_at T, (by show 3 < 1000; decide), ?_⟩
          rw [sc_put (j := i + 1 + spN isBl r) rfl]
          have m4 : ScM K H _ p dx z (i + 1 + spN isBl r) := m3.up
          rw [show i + (spN isBl r + 1) = i + 1 + spN isBl r by omega] at k
          exact k _ m4 (by omega)
end
end PX
/-! DXb -/
namespace PX
open PySem PySem.Spec PyProof.Rows L2 TL
theorem cp_at {z : Str} {i c : Nat} {r : List Nat} (h : (tl z).drop i = c :: r) : atI z.cps.toList (i : Int) = some c := by
  refine atI_nat ?_
  show (tl z)[i]? = some c
  have h1 : ((tl z).drop i)[0]? = some c := by rw [h]; rfl
  rw [List.getElem?_drop] at h1
  exact h1
theorem spN_both {p q : Nat → Bool} : ∀ l : List Nat, spN (fun c => p c && q c) l = spN q (l.take (spN p l))
  | [] => rfl
  | c :: r => by
    show (if (p c && q c) = true then spN (fun c => p c && q c) r + 1 else 0) = spN q ((c :: r).take (if p c = true then spN p r + 1 else 0))
    cases hp : p c with
    | false => rw [Bool.false_and, if_neg Bool.false_ne_true, if_neg Bool.false_ne_true]; rfl
    | true =>
      rw [Bool.true_and, if_pos rfl, List.take_succ_cons]
      show _ = (if q c = true then spN q (r.take (spN p r)) + 1 else 0)
      rw [spN_both r]
theorem cutN (z : Str) (i n : Nat) : cutS z (some (i : Int)) (some ((i + n : Nat) : Int)) = mkS (((tl z).drop i).take n) := by
  rw [cut_nat, show i + n - i = n by omega]
theorem fd_one (z : Str) (i c : Nat) (h : i ≤ z.length) : Txt.find3 z ⟨#[c]⟩ (i : Int) = if spN (· != c) ((tl z).drop i) < ((tl z).drop i).length then ((i + spN (· != c) ((tl z).drop i) : Nat) : Int) else -1 := by
  rw [find3_fd z ⟨#[c]⟩ i h (by show [c] ≠ []; simp)]
  show (match fdN [c] ((tl z).drop i) with | some j => ((i + j : Nat) : Int) | none => -1) = _
  rw [fd1]
  by_cases q : spN (· != c) ((tl z).drop i) < ((tl z).drop i).length
  · rw [if_pos q, if_pos q]
  · rw [if_neg q, if_neg q]
theorem fd_two (z : Str) (i j c : Nat) (h : i ≤ j) (h2 : j ≤ z.length) : Txt.findIn z ⟨#[c]⟩ (i : Int) (j : Int) = if spN (· != c) (((tl z).drop i).take (j - i)) < (((tl z).drop i).take (j - i)).length then ((i + spN (· != c) (((tl z).drop i).take (j - i)) : Nat) : Int) else -1 := by
  rw [find4_fd z ⟨#[c]⟩ i j h h2 (by show [c] ≠ []; simp)]
  show (match fdN [c] (((tl z).drop i).take (j - i)) with | some k => ((i + k : Nat) : Int) | none => -1) = _
  rw [fd1]
  by_cases q : spN (· != c) (((tl z).drop i).take (j - i)) < (((tl z).drop i).take (j - i)).length
  · rw [if_pos q, if_pos q]
  · rw [if_neg q, if_neg q]
section
variable {P : Program} {w : World} {K : PySem.W.Frag} {mg : Str → Option Value} {base : Heap}
theorem ok_read_name (T : Tx w K mg) : Ok P w K mg base CX0 2 (He.fAd K d_Scanner_read_name.at_) p_Scanner_read_name (spSc K [] nmO) := by
  obtain ⟨fd, F⟩ := f_Scanner_read_name T
  obtain ⟨fB, GB, bB, kB⟩ := ok_begins_word (P := P) (base := base) T
  refine ⟨fd, ?_, b_Scanner_read_name F, F.kp⟩
  refine F.ok sc_Scanner_read_name (fun vs H Q E h => ?_) (fun cdv A outer s H vs Q E hr h => ?_)
  · obtain ⟨p, dx, z, i, n, y, rfl, _⟩ := h
    rfl
  · obtain ⟨p, dx, z, i, n, y, rfl, hp, g, hi, hf, k⟩ := h
    have nd := sc_Scanner_read_name.nd
    refine ⟨_, PSs.nox (pss_cons (ps_set (i := 1) nd rfl (.inl rfl) (pe_fld (pv 0) rfl)) (pss_cons (ps_set (i := 2) nd rfl (.inl rfl) (pe_fld (pv 0) rfl)) (pss_cons ((ps_if ((pt_not (pt_val (pe_call (E := E0) GB (hr.mono (by omega)) (by rfl) (g_begins_word T) kB bB .nil pass0 (pa_cons ((pe_slice sl_str (pv 1) (po_some (pv 2)) (po_some (pe_op op_add (pv 2) pe_int)))) pa_nil))))) pss_no pss_nil)) (pss_cons (ps_set (i := 3) nd rfl (.inl rfl) (pe_bm PySem.F.plainAttrs_str PySem.F.slot_str_find PySem.F.type_str_find mt_find3 (pe_fld (pv 0) rfl) (pa_cons (pe_str) (pa_cons (pv 2) pa_nil)))) (Evl.pss_cut ((ps_if ((pt_cmpR op_eq ((pe_slice sl_str (pv 1) (po_some (pv 3)) (po_some (pe_op op_add (pv 3) pe_int)))) (pe_str) (nomark _))) (pss_cons ((ps_if ((pw_or (pt_cmpR op_eq (pe_op op_add (pv 3) pe_int) (pe_callB call_len (by rfl) (n_len T) PySem.boot_len (pa_cons (pv 1) pa_nil)) (nomark _)) (pw_or1 (pt_not (pt_val (pe_call (E := E0) GB (hr.mono (by omega)) (by rfl) (g_begins_word T) kB bB .nil pass0 (pa_cons (pe_ix ix_str (pv 1) (pe_op op_add (pv 3) pe_int) (fun _ _ => rfl)) pa_nil)))))).pt) pss_no pss_nil)) (pss_one (ps_set (i := 3) nd rfl (.inl rfl) (pe_bm PySem.F.plainAttrs_str PySem.F.slot_str_find PySem.F.type_str_find mt_find3 (pe_fld (pv 0) rfl) (pa_cons (pe_str) (pa_cons (pe_op op_add (pv 3) pe_int) pa_nil)))))) pss_nil)) (pss_cons (ps_fld (pv 0) (pv 3) rfl) (pss_one ((ps_ret (pe_slice sl_str (pv 1) (po_some (pv 2)) (po_some (pv 3)))))))))))), ?_⟩
    have hlen : z.length = (tl z).length := len_tl z
    have hd : ∀ n, (tl z).drop (i + n) = ((tl z).drop i).drop n := fun n => drop_add
    have hll : ((tl z).drop i).length = z.length - i := by rw [List.length_drop, hlen]
    have hfw := find_word z i hi
    have hb := spN_le isWd ((tl z).drop i)
    refine ⟨_, rfl, p, CSc K, dx, _, _, rfl, hp, cls_Scanner T, na_Scanner_text T, sc_text, _, rfl, p, CSc K, dx, _, _, rfl, hp, cls_Scanner T, na_Scanner_at T, sc_at, _, rfl, _, rfl, _, rfl, _, rfl, _, _, rfl, rfl, _, rfl, z, rfl, g.line, ?_⟩
    rw [cut_one]
    refine ⟨_, rfl, fun H1 s1 => ⟨_, rfl, ?_⟩⟩
    rw [hB_hP]
    have m1 := ScM.same hp s1
    unfold nmO at hf
    have hlt : hP isLt ((tl z).drop i) = true := by
      cases q : hP isLt ((tl z).drop i) with
      | true => rfl
      | false =>
        rw [q, if_neg Bool.false_ne_true] at hf
        cases hf
    rw [hlt, if_pos rfl] at hf
    rw [hlt]
    refine iteF ?_
    refine ⟨_, rfl, p, CSc K, dx, _, _, rfl, m1.2, cls_Scanner T, na_Scanner_words T, sc_words, rfl, _, rfl, wsS z, Str.ofString " ", (i : Int), rfl, rfl, ?_⟩
    have hfw' : Txt.find3 (wsS z) (Str.ofString " ") (i : Int) = ((i + spN isWd ((tl z).drop i) : Nat) : Int) := hfw
    rw [hfw']
    refine ⟨fun σ H2 => σ = [some (.ref p), some (.str z), some (.int (i : Int)), some (.int ((i + nmN ((tl z).drop i) : Nat) : Int))] ∧ Same H1 H2 ∧ nmN ((tl z).drop i) ≤ ((tl z).drop i).length ∧ n = nmN ((tl z).drop i) ∧ y = .str (mkS (((tl z).drop i).take (nmN ((tl z).drop i)))), ?_, ?_⟩
    · refine ⟨_, rfl, _, rfl, _, rfl, _, rfl, _, _, rfl, rfl, _, rfl, z, rfl, g.line, ?_⟩
      rw [cut_one, hd]
      refine ⟨rfl, _, rfl, ?_⟩
      show if decide (V.str (sg (((tl z).drop i).drop (spN isWd ((tl z).drop i)))) = V.str (Str.ofString ":")) = true then _ else _
      rw [sg_lit _ (c := 58)]
      cases h1 : hP (· == 58) (((tl z).drop i).drop (spN isWd ((tl z).drop i))) with
      | false =>
        rw [h1, if_neg Bool.false_ne_true] at hf
        obtain ⟨rfl, rfl⟩ := some_pair hf
        have e : nmN ((tl z).drop i) = spN isWd ((tl z).drop i) := by
          unfold nmN
          rw [h1]
          rfl
        refine iteF ?_
        rw [e]
        exact ⟨rfl, Same.refl _, hb, rfl, rfl⟩
      | true =>
        rw [h1, if_pos rfl] at hf
        have h2 : hP isLt (((tl z).drop i).drop (spN isWd ((tl z).drop i) + 1)) = true := by
          cases q : hP isLt (((tl z).drop i).drop (spN isWd ((tl z).drop i) + 1)) with
          | true => rfl
          | false =>
            rw [q, if_neg Bool.false_ne_true] at hf
            cases hf
        rw [h2, if_pos rfl] at hf
        obtain ⟨rfl, rfl⟩ := some_pair hf
        obtain ⟨c, r, hcr⟩ : ∃ c r, ((tl z).drop i).drop (spN isWd ((tl z).drop i) + 1) = c :: r := by
          cases q : ((tl z).drop i).drop (spN isWd ((tl z).drop i) + 1) with
          | nil => rw [q] at h2; cases h2
          | cons c r => exact ⟨c, r, rfl⟩
        have hlc : spN isWd ((tl z).drop i) + 1 < ((tl z).drop i).length := (drop_cons hcr).1
        have e : nmN ((tl z).drop i) = spN isWd ((tl z).drop i) + 1 + spN isWd (c :: r) := by
          unfold nmN
          rw [h1, h2, hcr]
          rfl
        have hdz : (tl z).drop (i + spN isWd ((tl z).drop i) + 1) = c :: r := by
          rw [show i + spN isWd ((tl z).drop i) + 1 = i + (spN isWd ((tl z).drop i) + 1) by omega, hd]
          exact hcr
        have eI : ((i + spN isWd ((tl z).drop i) : Nat) : Int) + 1 = ((i + spN isWd ((tl z).drop i) + 1 : Nat) : Int) := by omega
        refine iteT ?_
        refine ⟨_, rfl, _, _, rfl, rfl, _, rfl, _, _, rfl, ⟨g.line, rfl⟩, rfl, _, rfl, ?_⟩
        refine iteF ?_ (decide_eq_false fun q => by have := V.int.inj q; omega)
        refine ⟨_, rfl, _, rfl, _, _, rfl, rfl, z, _, c, rfl, rfl, g.line, ?_, ?_⟩
        · rw [eI]
          exact cp_at hdz
        refine ⟨[c], rfl, fun H2 s2 => ⟨_, rfl, ?_⟩⟩
        have hc : isLt c = true := by
          rw [hcr] at h2
          exact h2
        show if (!isLt c) = true then _ else _
        rw [hc]
        refine iteF ?_
        have m2 := m1.more s2
        refine ⟨_, rfl, p, CSc K, dx, _, _, rfl, m2.2, cls_Scanner T, na_Scanner_words T, sc_words, rfl, _, rfl, _, _, rfl, rfl, wsS z, Str.ofString " ", _, rfl, rfl, ?_⟩
        have hfw2 := find_word z (i + spN isWd ((tl z).drop i) + 1) (by omega)
        rw [hdz] at hfw2
        have hfw2' : Txt.find3 (wsS z) (Str.ofString " ") (((i + spN isWd ((tl z).drop i) : Nat) : Int) + 1) = ((i + nmN ((tl z).drop i) : Nat) : Int) := by
          rw [eI, e, show i + (spN isWd ((tl z).drop i) + 1 + spN isWd (c :: r)) = i + spN isWd ((tl z).drop i) + 1 + spN isWd (c :: r) by omega]
          exact hfw2
        show tNext _ [some (V.ref p), some (.str z), some (.int (i : Int)), some (.int (Txt.find3 (wsS z) (Str.ofString " ") (((i + spN isWd ((tl z).drop i) : Nat) : Int) + 1)))] H2
        rw [hfw2']
        have hb2 := spN_le isWd (c :: r)
        have hl2 := congrArg List.length hcr
        rw [List.length_drop] at hl2
        exact ⟨rfl, s2, by rw [e]; omega, rfl, rfl⟩
    · rintro σ H2 ⟨rfl, s2, hnl, rfl, rfl⟩
      have m2 := m1.more s2
      refine ⟨_, rfl, _, rfl, p, CSc K, dx, _, rfl, m2.2, cls_Scanner T, na_Scanner_at T, (by show 3 < 1000; decide), ?_⟩
      rw [sc_put (j := i + nmN ((tl z).drop i)) rfl]
      have m3 := m2.up (j := i + nmN ((tl z).drop i))
      refine ⟨_, rfl, _, rfl, _, rfl, _, rfl, _, rfl, z, rfl, g.line, ?_⟩
      rw [cutN]
      exact k _ m3 (by omega)
def spUp (K : PySem.W.Frag) : Sp := fun vs H Q E => ∃ W : List Nat, W ≠ [] ∧ W.length ≤ 1000 ∧ spSc K [.str (mkS W)] (upO W) vs H Q E
theorem fdN_len {S l : List Nat} {j : Nat} (h : fdN S l = some j) (hS : S ≠ []) : j + S.length ≤ l.length := by
  obtain ⟨h1, _⟩ := fdN_some h
  have := congrArg List.length h1
  rw [List.length_take, List.length_drop] at this
  have : 1 ≤ S.length := by
    cases S with
    | nil => exact absurd rfl hS
    | cons a S => exact Nat.succ_le_succ (Nat.zero_le _)
  omega
theorem ok_read_up_to (T : Tx w K mg) : Ok P w K mg base CX0 2 (He.fAd K d_Scanner_read_up_to.at_) p_Scanner_read_up_to (spUp K) := by
  obtain ⟨fd, F⟩ := f_Scanner_read_up_to T
  refine ⟨fd, ?_, b_Scanner_read_up_to F, F.kp⟩
  refine F.ok sc_Scanner_read_up_to (fun vs H Q E h => ?_) (fun cdv A outer s H vs Q E hr h => ?_)
  · obtain ⟨W, _, _, p, dx, z, i, n, y, rfl, _⟩ := h
    rfl
  · obtain ⟨W, hW, hWl, p, dx, z, i, n, y, rfl, hp, g, hi, hf, k⟩ := h
    have nd := sc_Scanner_read_up_to.nd
    refine ⟨_, PSs.nox (pss_cons (ps_set (i := 2) nd rfl (.inl rfl) (pe_bm PySem.F.plainAttrs_str PySem.F.slot_str_find PySem.F.type_str_find mt_find3 (pe_fld (pv 0) rfl) (pa_cons (pv 1) (pa_cons (pe_fld (pv 0) rfl) pa_nil)))) (pss_cons ((ps_if ((pt_cmpR op_lt (pv 2) (pe_int) (nomark _))) pss_no pss_nil)) (pss_cons (ps_set (i := 3) nd rfl (.inl rfl) (pe_slice sl_str (pe_fld (pv 0) rfl) (po_some (pe_fld (pv 0) rfl)) (po_some (pv 2)))) (pss_cons (ps_fld (pv 0) (pe_op op_add (pv 2) (pe_callB call_len (by rfl) (n_len T) PySem.boot_len (pa_cons (pv 1) pa_nil))) rfl) (pss_one ((ps_ret (pv 3)))))))), ?_⟩
    unfold upO at hf
    cases hfd : fdN W ((tl z).drop i) with
    | none => rw [hfd] at hf; cases hf
    | some j =>
      rw [hfd] at hf
      obtain ⟨rfl, rfl⟩ := some_pair hf
      have hlen : z.length = (tl z).length := len_tl z
      have hl := fdN_len hfd hW
      rw [List.length_drop] at hl
      have ef : Txt.find3 z (mkS W) (i : Int) = ((i + j : Nat) : Int) := by
        rw [find3_fd z (mkS W) i hi (by rw [tl_mkS]; exact hW), tl_mkS, hfd]
      refine ⟨_, rfl, p, CSc K, dx, _, _, rfl, hp, cls_Scanner T, na_Scanner_text T, sc_text, rfl, _, rfl, _, rfl, p, CSc K, dx, _, _, rfl, hp, cls_Scanner T, na_Scanner_at T, sc_at, z, mkS W, (i : Int), rfl, rfl, ?_⟩
      rw [ef]
      refine ⟨_, rfl, _, _, rfl, rfl, _, rfl, ?_⟩
      refine iteF ?_ (decide_eq_false (by omega))
      refine ⟨_, rfl, p, CSc K, dx, _, _, rfl, hp, cls_Scanner T, na_Scanner_text T, sc_text, _, rfl, p, CSc K, dx, _, _, rfl, hp, cls_Scanner T, na_Scanner_at T, sc_at, _, rfl, _, rfl, _, rfl, z, rfl, g.line, ?_⟩
      rw [cutN]
      refine ⟨_, rfl, _, rfl, _, _, rfl, ⟨by rw [mkS_len, sizeLine_eq]; omega, rfl⟩, _, _, rfl, rfl, _, rfl, p, CSc K, dx, _, rfl, hp, cls_Scanner T, na_Scanner_at T, (by show 3 < 1000; decide), ?_⟩
      rw [sc_put (j := i + (j + W.length)) (by rw [mkS_len]; omega)]
      exact ⟨_, rfl, k _ (ScM.refl hp).up (by omega)⟩
theorem ok_read_plain (T : Tx w K mg) : Ok P w K mg base CX0 2 (He.fAd K d_Scanner_read_plain.at_) p_Scanner_read_plain (spSc K [] plO) := by
  obtain ⟨fd, F⟩ := f_Scanner_read_plain T
  refine ⟨fd, ?_, b_Scanner_read_plain F, F.kp⟩
  refine F.ok sc_Scanner_read_plain (fun vs H Q E h => ?_) (fun cdv A outer s H vs Q E hr h => ?_)
  · obtain ⟨p, dx, z, i, n, y, rfl, _⟩ := h
    rfl
  · obtain ⟨p, dx, z, i, n, y, rfl, hp, g, hi, hf, k⟩ := h
    have nd := sc_Scanner_read_plain.nd
    refine ⟨_, PSs.nox (pss_cons (ps_set (i := 1) nd rfl (.inl rfl) (pe_bm PySem.F.plainAttrs_str PySem.F.slot_str_find PySem.F.type_str_find mt_find3 (pe_fld (pv 0) rfl) (pa_cons (pe_str) (pa_cons (pe_fld (pv 0) rfl) pa_nil)))) (Evl.pss_cut ((ps_if ((pt_cmpR op_lt (pv 1) (pe_int) (nomark _))) (pss_one (ps_set (i := 1) nd rfl (.inl rfl) (pe_callB call_len (by rfl) (n_len T) PySem.boot_len (pa_cons ((pe_fld (pv 0) rfl)) pa_nil)))) pss_nil)) (pss_cons (ps_set (i := 2) nd rfl (.inl rfl) (pe_bm PySem.F.plainAttrs_str PySem.F.slot_str_find PySem.F.type_str_find mt_find4 (pe_fld (pv 0) rfl) (pa_cons (pe_str) (pa_cons (pe_fld (pv 0) rfl) (pa_cons (pv 1) pa_nil))))) (Evl.pss_cut ((ps_if ((pt_cmpR op_ge (pv 2) (pe_int) (nomark _))) (pss_one (ps_set (i := 1) nd rfl (.inl rfl) (pv 2))) pss_nil)) (pss_cons (ps_set (i := 3) nd rfl (.inl rfl) (pe_bm PySem.F.plainAttrs_str PySem.F.slot_str_find PySem.F.type_str_find mt_find4 (pe_fld (pv 0) rfl) (pa_cons (pe_str) (pa_cons (pe_fld (pv 0) rfl) (pa_cons (pv 1) pa_nil))))) (pss_cons ((ps_if ((pt_cmpR op_ge (pv 3) (pe_int) (nomark _))) pss_no pss_nil)) (pss_cons (ps_set (i := 4) nd rfl (.inl rfl) (pe_slice sl_str (pe_fld (pv 0) rfl) (po_some (pe_fld (pv 0) rfl)) (po_some (pv 1)))) (pss_cons (ps_fld (pv 0) (pv 1) rfl) (pss_one ((ps_ret (pv 4)))))))))))), ?_⟩
    unfold plO at hf
    split at hf
    · rename_i hno
      obtain ⟨rfl, rfl⟩ := some_pair hf
      have hlen : z.length = (tl z).length := len_tl z
      have hll : ((tl z).drop i).length = z.length - i := by rw [List.length_drop, hlen]
      have hb1 := spN_le (· != 60) ((tl z).drop i)
      have hpt : ptN ((tl z).drop i) = spN (· != 38) (((tl z).drop i).take (spN (· != 60) ((tl z).drop i))) := spN_both _
      have hb2 := spN_le (· != 38) (((tl z).drop i).take (spN (· != 60) ((tl z).drop i)))
      rw [← hpt, List.length_take] at hb2
      have ef1 := fd_one z i 60 hi
      refine ⟨_, rfl, p, CSc K, dx, _, _, rfl, hp, cls_Scanner T, na_Scanner_text T, sc_text, rfl, _, rfl, p, CSc K, dx, _, _, rfl, hp, cls_Scanner T, na_Scanner_at T, sc_at, z, ⟨#[60]⟩, (i : Int), rfl, rfl, ?_⟩
      rw [ef1]
      refine ⟨fun σ H2 => σ = [some (.ref p), some (.int ((i + spN (· != 60) ((tl z).drop i) : Nat) : Int)), none, none, none] ∧ H2 = H, ?_, ?_⟩
      · refine ⟨_, rfl, _, _, rfl, rfl, _, rfl, ?_⟩
        by_cases q : spN (· != 60) ((tl z).drop i) < ((tl z).drop i).length
        · rw [if_pos q]
          refine iteF ?_ (decide_eq_false (by omega))
          exact ⟨rfl, rfl⟩
        · rw [if_neg q]
          refine iteT ?_
          refine ⟨_, rfl, p, CSc K, dx, _, _, rfl, hp, cls_Scanner T, na_Scanner_text T, sc_text, _, z.length, rfl, ⟨g.line, rfl⟩, ?_⟩
          have : z.length = i + spN (· != 60) ((tl z).drop i) := by omega
          rw [this]
          exact ⟨rfl, rfl⟩
      rintro σ H2 ⟨rfl, rfl⟩
      have ef2 := fd_two z i (i + spN (· != 60) ((tl z).drop i)) 38 (by omega) (by omega)
      rw [show i + spN (· != 60) ((tl z).drop i) - i = spN (· != 60) ((tl z).drop i) by omega, ← hpt] at ef2
      refine ⟨_, rfl, p, CSc K, dx, _, _, rfl, hp, cls_Scanner T, na_Scanner_text T, sc_text, rfl, _, rfl, p, CSc K, dx, _, _, rfl, hp, cls_Scanner T, na_Scanner_at T, sc_at, _, rfl, z, ⟨#[38]⟩, (i : Int), _, rfl, rfl, ?_⟩
      rw [ef2]
      refine ⟨fun σ H3 => (∃ v2, σ = [some (.ref p), some (.int ((i + ptN ((tl z).drop i) : Nat) : Int)), v2, none, none]) ∧ H3 = H2, ?_, ?_⟩
      · refine ⟨_, rfl, _, _, rfl, rfl, _, rfl, ?_⟩
        by_cases q : ptN ((tl z).drop i) < (((tl z).drop i).take (spN (· != 60) ((tl z).drop i))).length
        · rw [if_pos q]
          refine iteT ?_ (decide_eq_true (by omega))
          exact ⟨_, rfl, ⟨_, rfl⟩, rfl⟩
        · rw [if_neg q]
          refine iteF ?_
          rw [List.length_take] at q
          have : ptN ((tl z).drop i) = spN (· != 60) ((tl z).drop i) := by omega
          rw [this]
          exact ⟨⟨_, rfl⟩, rfl⟩
      rintro σ H3 ⟨⟨v2, rfl⟩, rfl⟩
      have ef3 : Txt.findIn z (Str.ofString "]]>") (i : Int) ((i + ptN ((tl z).drop i) : Nat) : Int) = -1 := by
        rw [find4_fd z (Str.ofString "]]>") i (i + ptN ((tl z).drop i)) (by omega) (by omega) (by decide), show i + ptN ((tl z).drop i) - i = ptN ((tl z).drop i) by omega]
        have e : tl (Str.ofString "]]>") = [93, 93, 62] := rfl
        rw [e]
        cases q : fdN [93, 93, 62] (((tl z).drop i).take (ptN ((tl z).drop i))) with
        | none => rfl
        | some j => rw [q] at hno; cases hno
      refine ⟨_, rfl, p, CSc K, dx, _, _, rfl, hp, cls_Scanner T, na_Scanner_text T, sc_text, rfl, _, rfl, p, CSc K, dx, _, _, rfl, hp, cls_Scanner T, na_Scanner_at T, sc_at, _, rfl, z, Str.ofString "]]>", (i : Int), _, rfl, rfl, ?_⟩
      rw [ef3]
      refine ⟨_, rfl, _, _, rfl, rfl, _, rfl, ?_⟩
      refine iteF ?_
      refine ⟨_, rfl, p, CSc K, dx, _, _, rfl, hp, cls_Scanner T, na_Scanner_text T, sc_text, _, rfl, p, CSc K, dx, _, _, rfl, hp, cls_Scanner T, na_Scanner_at T, sc_at, _, rfl, _, rfl, _, rfl, z, rfl, g.line, ?_⟩
      rw [cutN]
      refine ⟨_, rfl, _, rfl, p, CSc K, dx, _, rfl, hp, cls_Scanner T, na_Scanner_at T, (by show 3 < 1000; decide), ?_⟩
      rw [sc_put (j := i + ptN ((tl z).drop i)) rfl]
      exact ⟨_, rfl, k _ (ScM.refl hp).up (by omega)⟩
    · cases hf
end
end PX
/-! DXc -/
namespace PX
open PySem PySem.Spec PyProof.Rows L2 TL
def known (n : Nat) : Bool := n == 9 || n == 10 || (32 ≤ n && n ≤ 126 && n != 37)
def dig (b c : Nat) : Option Nat :=
  if 48 ≤ c ∧ c ≤ 57 then some (c - 48) else if b = 16 ∧ 97 ≤ c ∧ c ≤ 102 then some (c - 87) else if b = 16 ∧ 65 ≤ c ∧ c ≤ 70 then some (c - 55) else none
def leads (b n : Nat) : Bool := (List.range 127).any fun m => known m && (n == m || n == m / b || n == m / b / b)
def lowC (c : Nat) : Nat := if 65 ≤ c ∧ c ≤ 90 then c + 32 else c
section
variable {P : Program} {w : World} {K : PySem.W.Frag} {mg : Str → Option Value} {base : Heap}
/-! ### numbers of signs -/
/-- is_beginning -/
def ibN (b n : Nat) : Nat → Bool
  | 0 => n == 0
  | m + 1 => if n < m + 1 then (if h : 2 ≤ b then ibN b n ((m + 1) / b) else false) else m + 1 == n
termination_by m => m
decreasing_by exact Nat.div_lt_self (Nat.succ_pos m) h
theorem ibN_gt {b n m : Nat} (hb : 2 ≤ b) (h : n < m) : ibN b n m = ibN b n (m / b) := by
  cases m with
  | zero => omega
  | succ m =>
    rw [ibN, if_pos h, dif_pos hb]
theorem ibN_le {b n m : Nat} (h : ¬ n < m) : ibN b n m = (m == n) := by
  cases m with
  | zero =>
    rw [ibN]
    cases n <;> rfl
  | succ m =>
    rw [ibN, if_neg h]
def spIB : Sp := fun vs H Q _ => ∃ n m b : Nat, vs = [.int n, .int m, .int b] ∧ 2 ≤ b ∧ b ≤ 16 ∧ Q (.bl (ibN b n m)) H
theorem ok_is_beginning (T : Tx w K mg) : Ok P w K mg base CX0 1 (He.fAd K d_is_beginning.at_) p_is_beginning spIB := by
  obtain ⟨fd, F⟩ := f_is_beginning T
  refine ⟨fd, ?_, b_is_beginning F, F.kp⟩
  refine F.ok sc_is_beginning (fun vs H Q E h => ?_) (fun cdv A outer s H vs Q E hr h => ?_)
  · obtain ⟨n, m, b, rfl, _⟩ := h
    rfl
  · obtain ⟨n, m, b, rfl, h2, h16, k⟩ := h
    refine ⟨_, PSs.nox (pss_cons (ps_while PassesOwn.never (pt_cmpR op_gt (pv 1) (pv 0) (nomark _)) (pss_one (ps_set (i := 1) sc_is_beginning.nd rfl (.inl rfl) (pe_op op_fdivN (pv 1) (pv 2))))) (pss_one (ps_ret (pe_cmpR op_eq (pv 1) (pv 0) (nomark _))))), ?_⟩
    refine ⟨fun j σ H1 => σ = [some (.int n), some (.int (j : Nat)), some (.int b)] ∧ H = H1 ∧ ibN b n j = ibN b n m, ⟨m, rfl, rfl, rfl⟩, ?_⟩
    rintro j σ _ ⟨rfl, rfl, e⟩
    refine ⟨_, rfl, _, rfl, _, _, rfl, rfl, _, rfl, ?_⟩
    refine ite2 (fun c => ?_) (fun c => ?_)
    · have c1 : n < j := by
        have := of_decide_eq_true c
        omega
      refine ⟨_, fun σ' H' z => z, ?_⟩
      refine ⟨_, rfl, _, rfl, _, _, rfl, rfl, ⟨by omega, by omega⟩, j / b, Nat.div_lt_self (by omega) h2, ?_, rfl, by rw [← e, ibN_gt h2 c1]⟩
      have e1 : ((j : Int)).fdiv (b : Int) = ((j / b : Nat) : Int) := by
        rw [Int.fdiv_eq_ediv_of_nonneg _ (by omega)]
        exact (Int.natCast_ediv j b).symm
      show [some (V.int (n : Int)), some (V.int (((j : Int)).fdiv (b : Int))), some (V.int (b : Int))] = _
      rw [e1]
    · have c1 : ¬ n < j := fun z => c (decide_eq_true (by omega))
      refine ⟨_, rfl, _, rfl, rfl, ?_⟩
      have e2 : decide (V.int (j : Int) = V.int (n : Int)) = ibN b n m := by
        rw [← e, ibN_le c1]
        by_cases q : j = n
        · subst q
          simp
        · have q2 : ¬ V.int (j : Int) = V.int (n : Int) := fun z => q (by have := V.int.inj z; omega)
          simp [q, q2]
      rw [e2]
      exact k

def refL : List Nat := (List.range 127).filter known
def ibF : Nat → Nat → Nat → Nat → Bool
  | 0, _, _, _ => false
  | f + 1, b, n, m => if n < m then ibF f b n (m / b) else m == n
theorem ibF_eq {b n : Nat} (hb : 2 ≤ b) : ∀ (f m : Nat), m < 2 ^ f → ibN b n m = ibF (f + 1) b n m
  | 0, m, h => by
    have : m = 0 := by
      simp at h
      omega
    subst this
    rw [ibN_le (by omega), ibF, if_neg (by omega)]
  | f + 1, m, h => by
    rw [ibF]
    by_cases c : n < m
    · rw [if_pos c, ibN_gt hb c]
      refine ibF_eq hb f (m / b) ?_
      have h1 : m / b ≤ m / 2 := Nat.div_le_div_left hb (by omega)
      have h2 : m / 2 < 2 ^ f := by
        rw [Nat.pow_succ] at h
        omega
      omega
    · rw [if_neg c, ibN_le c]
theorem leads_dec : ∀ b, (b = 10 ∨ b = 16) → ∀ n, n < 127 → ((List.range 127).any fun m => known m && ibF 8 b n m) = leads b n := by
  intro b hb
  rcases hb with rfl | rfl
  · decide +kernel
  · decide +kernel
theorem leads_ib (b : Nat) (hb : b = 10 ∨ b = 16) (n : Nat) : (refL.any fun m => ibN b n m) = leads b n := by
  have e1 : (refL.any fun m => ibN b n m) = (List.range 127).any fun m => known m && ibF 8 b n m := by
    unfold refL
    rw [List.any_filter]
    rw [Bool.eq_iff_iff, List.any_eq_true, List.any_eq_true]
    constructor
    · rintro ⟨m, hm, e⟩
      refine ⟨m, hm, ?_⟩
      rw [← ibF_eq (by omega) 7 m (by have := List.mem_range.mp hm; omega)]
      exact e
    · rintro ⟨m, hm, e⟩
      refine ⟨m, hm, ?_⟩
      rw [ibF_eq (by omega) 7 m (by have := List.mem_range.mp hm; omega)]
      exact e
  rw [e1]
  by_cases hn : n < 127
  · exact leads_dec b hb n hn
  · have l1 : ((List.range 127).any fun m => known m && ibF 8 b n m) = false := by
      rw [List.any_eq_false]
      intro m hm
      have := List.mem_range.mp hm
      rw [ibF, if_neg (by omega)]
      have : ¬ m = n := by omega
      simp [this]
    have l2 : leads b n = false := by
      unfold leads
      rw [List.any_eq_false]
      intro m hm
      have h1 := List.mem_range.mp hm
      have h2 : m / b ≤ m := Nat.div_le_self _ _
      have h3 : m / b / b ≤ m / b := Nat.div_le_self _ _
      have a1 : ¬ n = m := by omega
      have a2 : ¬ n = m / b := by omega
      have a3 : ¬ n = m / b / b := by omega
      simp [a1, a2, a3]
    rw [l1, l2]
/-- the constant -/
def refS : Str := "\t\n !\"#$&'()*+,-./0123456789:;<=>?@ABCDEFGHIJKLMNOPQRSTUVWXYZ[\\]^_`abcdefghijklmnopqrstuvwxyz{|}~"
theorem tl_ref : tl refS = refL := by decide +kernel
theorem ref_mem (c : Nat) : c ∈ refL ↔ known c = true := by
  unfold refL
  rw [List.mem_filter, List.mem_range]
  constructor
  · exact fun h => h.2
  · intro h
    refine ⟨?_, h⟩
    unfold known at h
    simp only [Bool.or_eq_true, Bool.and_eq_true, beq_iff_eq, decide_eq_true_eq] at h
    omega
theorem glob_ref {X : Cx} {pos : Pos} (T : Tx X.w X.K X.mg) (hg : Gl X "REFERABLE") : PE X (.Name "REFERABLE" pos) (tC (.str refS)) := by
  obtain ⟨t, e⟩ := c_REFERABLE T
  exact pe_glob hg e ⟨t, rfl⟩
def spRf : Sp := fun vs H Q _ => ∃ n : Nat, vs = [.int n] ∧ Q (.str (if known n then mkS [n] else mkS [])) H
theorem ok_referred_sign (T : Tx w K mg) : Ok P w K mg base CX0 1 (He.fAd K d_referred_sign.at_) p_referred_sign spRf := by
  obtain ⟨fd, F⟩ := f_referred_sign T
  refine ⟨fd, ?_, b_referred_sign F, F.kp⟩
  refine F.ok sc_referred_sign (fun vs H Q E h => ?_) (fun cdv A outer s H vs Q E hr h => ?_)
  · obtain ⟨n, rfl, _⟩ := h
    rfl
  · obtain ⟨n, rfl, k⟩ := h
    refine ⟨_, PSs.nox (pss_cons (ps_for PassesOwn.never rfl (pi_str (glob_ref T rfl)) (pg_name (i := 1) sc_referred_sign.nd rfl (.inl rfl))
      (pss_one (ps_if (pt_cmpR op_eq (pe_callB call_ord (by rfl) (n_ord T) (by decide +kernel) (pa_cons (pv 1) pa_nil)) (pv 0) (nomark _)) (pss_one (ps_ret (pv 1))) pss_nil))) (pss_one (ps_ret pe_str))), ?_⟩
    refine ⟨refS, rfl, for_it walk_str (fun i σ H1 => H1 = H ∧ (∃ v, σ = [some (.int n), v]) ∧ ∀ j, j < i → refL[j]? ≠ some n) ⟨rfl, ⟨none, rfl⟩, fun j hj => by omega⟩ (fun _ _ _ _ _ => trivial) ?_ ?_⟩
    · rintro i x σ H1 H2 hi ⟨rfl, ⟨v, rfl⟩, hj⟩ ⟨rfl, c, hc, rfl⟩
      have hc' : refL[i]? = some c := by
        rw [← tl_ref]
        show refS.cps.toList[i]? = some c
        rw [Array.getElem?_toList]
        exact hc
      refine ⟨_, rfl, _, rfl, rfl, _, rfl, rfl, _, rfl, ?_⟩
      show if decide (V.int ((c : Nat) : Int) = V.int (n : Int)) = true then _ else _
      refine ite2 (fun e => ?_) (fun e => ?_)
      · have e1 : c = n := by
          have := V.int.inj (of_decide_eq_true e)
          omega
        subst e1
        refine ⟨_, rfl, ?_⟩
        have kn : known c = true := (ref_mem c).mp (List.mem_of_getElem? hc')
        rw [kn, if_pos rfl] at k
        exact k
      · refine ⟨rfl, ⟨_, rfl⟩, fun j hj2 => ?_⟩
        by_cases q : j = i
        · subst q
          rw [hc']
          intro z
          have : c = n := Option.some.inj z
          exact e (decide_eq_true (by rw [this]))
        · exact hj j (by omega)
    · rintro σ H1 ⟨rfl, ⟨v, rfl⟩, hj⟩
      have kn : ¬ known n = true := fun z => by
        obtain ⟨i, hi, e⟩ := List.mem_iff_getElem.mp ((ref_mem n).mpr z)
        have hsz : refS.cps.size = refL.length := by
          rw [← tl_ref]
          simp
        refine hj i (by rw [hsz]; exact hi) ?_
        rw [List.getElem?_eq_getElem hi, e]
      rw [if_neg kn] at k
      exact k

def spLd : Sp := fun vs H Q _ => ∃ n b : Nat, vs = [.int n, .int b] ∧ (b = 10 ∨ b = 16) ∧ Q (.bl (leads b n)) H
theorem ok_leads_to_sign (T : Tx w K mg) : Ok P w K mg base CX0 2 (He.fAd K d_leads_to_sign.at_) p_leads_to_sign spLd := by
  obtain ⟨fd, F⟩ := f_leads_to_sign T
  obtain ⟨fI, GI, bI, kI⟩ := ok_is_beginning (P := P) (base := base) T
  refine ⟨fd, ?_, b_leads_to_sign F, F.kp⟩
  refine F.ok sc_leads_to_sign (fun vs H Q E h => ?_) (fun cdv A outer s H vs Q E hr h => ?_)
  · obtain ⟨n, b, rfl, _⟩ := h
    rfl
  · obtain ⟨n, b, rfl, hb, k⟩ := h
    refine ⟨_, PSs.nox (pss_cons (ps_for PassesOwn.never rfl (pi_str (glob_ref T rfl)) (pg_name (i := 2) sc_leads_to_sign.nd rfl (.inl rfl))
      (pss_one (ps_if (pt_val (pe_call GI hr rfl (g_is_beginning T) kI bI .nil pass0 (pa_cons (pv 0) (pa_cons (pe_callB call_ord (by rfl) (n_ord T) (by decide +kernel) (pa_cons (pv 2) pa_nil)) (pa_cons (pv 1) pa_nil))))) (pss_one (ps_ret pe_bl)) pss_nil))) (pss_one (ps_ret pe_bl))), ?_⟩
    refine ⟨refS, rfl, for_it walk_str (fun i σ H1 => H1 = H ∧ (∃ v, σ = [some (.int n), some (.int b), v]) ∧ ∀ j c, j < i → refL[j]? = some c → ibN b n c = false) ⟨rfl, ⟨none, rfl⟩, fun j c hj => by omega⟩ (fun _ _ _ _ _ => trivial) ?_ ?_⟩
    · rintro i x σ H1 H2 hi ⟨rfl, ⟨v, rfl⟩, hj⟩ ⟨rfl, c, hc, rfl⟩
      have hc' : refL[i]? = some c := by
        rw [← tl_ref]
        show refS.cps.toList[i]? = some c
        rw [Array.getElem?_toList]
        exact hc
      refine ⟨_, rfl, _, rfl, _, rfl, rfl, _, rfl, n, c, b, rfl, by omega, by omega, _, rfl, ?_⟩
      refine ite2 (fun e => ?_) (fun e => ?_)
      · have kn : leads b n = true := by
          rw [← leads_ib b hb n, List.any_eq_true]
          exact ⟨c, List.mem_of_getElem? hc', e⟩
        rw [kn] at k
        exact k
      · refine ⟨rfl, ⟨_, rfl⟩, fun j c2 hj2 q => ?_⟩
        by_cases z : j = i
        · subst z
          rw [hc'] at q
          cases q
          cases y : ibN b n c with
          | true => exact absurd y e
          | false => rfl
        · exact hj j c2 (by omega) q
    · rintro σ H1 ⟨rfl, ⟨v, rfl⟩, hj⟩
      have kn : leads b n = false := by
        rw [← leads_ib b hb n, List.any_eq_false]
        intro c hc
        obtain ⟨i, hi, e⟩ := List.mem_iff_getElem.mp hc
        have hsz : refS.cps.size = refL.length := by
          rw [← tl_ref]
          simp
        rw [hj i c (by rw [hsz]; exact hi) (by rw [List.getElem?_eq_getElem hi, e])]
        decide
      rw [kn] at k
      exact k
end
def dgS (b : Nat) : Str := if b = 16 then Str.ofString "0123456789abcdef" else Str.ofString "0123456789"
theorem lower_one : ∀ c, c < 128 → tl (Txt.lower (mkS [c])) = [lowC c] := by decide +kernel
theorem dg_find : ∀ b, (b = 10 ∨ b = 16) → ∀ c, c < 128 → fdN [lowC c] (tl (dgS b)) = dig b c ∧ decide (lowC c ∈ tl (dgS b)) = (dig b c).isSome := by
  intro b hb
  rcases hb with rfl | rfl
  · decide +kernel
  · decide +kernel
theorem dg_len (b : Nat) (hb : b = 10 ∨ b = 16) : (dgS b).length = b := by
  rcases hb with rfl | rfl
  · decide +kernel
  · decide +kernel
theorem dig_lt {b c d : Nat} (hb : b = 10 ∨ b = 16) (h : dig b c = some d) : d < b := by
  unfold dig at h
  split at h
  · cases h
    omega
  · split at h
    · cases h
      omega
    · split at h
      · cases h
        omega
      · cases h
theorem find_fd (x y : Str) (hy : tl y ≠ []) : Txt.find x y = match fdN (tl y) (tl x) with
    | some j => ((j : Nat) : Int)
    | none => -1 := by
  have e : ((tl x).drop 0).take (x.length - 0) = tl x := by
    rw [List.drop_zero]
    exact List.take_of_length_le (by rw [len_tl x]; omega)
  unfold Txt.find
  rcases occ_fd x y 0 x.length (Nat.zero_le _) (Nat.le_refl _) hy with ⟨h1, h2⟩ | ⟨j, r, h1, h2⟩
  · rw [e] at h1
    rw [h1, h2]
  · rw [e] at h1
    rw [h1, h2, Nat.zero_add]
/-! ### a walk over a list or a tuple -/
def SqA (H : Hp) (a : Addr) (xs : List V) : Prop := H a = some (.lst xs) ∨ H a = some (.tup xs)
theorem SqA.at {H H1 : Hp} {a : Addr} {xs : List V} (h : SqA H a xs) (e : ∀ o, H a = some o → H1 a = some o) : SqA H1 a xs := h.elim (fun z => .inl (e _ z)) (fun z => .inr (e _ z))
def iSeq (tl : TE) : TI := fun σ H R => tl σ H fun x H1 => ∃ a xs, x = .ref a ∧ SqA H1 a xs ∧ ∀ J, Walk J xs.length (fun H => ∀ o, H1 a = some o → H a = some o) (YAt xs) → R J H1
theorem pi_seq {X : Cx} {tg l : Expr} {tl : TE} (hl : PE X l tl) : PI X tg l (iSeq tl) := by
  refine ⟨fun pins s σ H R I h => ?_⟩
  refine thn (hl.run pins s σ H _ I h) fun v s1 ⟨x, H1, I1, r1, q1⟩ => ?_
  obtain ⟨a, xs, e, hq, q⟩ := q1
  subst e
  cases r1
  rcases hq with hq | hq
  · have q2 := q (Itl X.K a) (walk_list.mono (fun H e => SqL.of (e _ hq)) fun _ _ _ _ _ _ y => y)
    obtain ⟨its, rv, p, hz⟩ := I1.list (SqL.of hq)
    refine wpAny_pyIter_list p.isList ?_
    refine ⟨s1.heap.objs.size, [s1.heap.objs.size], _, _, H1, rfl, I1.kept (t' := s1.toks) fun b o e => Heap.get?_push_of_some _ e, turn_list a _, ⟨_, Heap.get?_push_size _ rfl, rfl, rfl⟩, fun b hb => ?_, q2⟩
    have e : b = s1.heap.objs.size := by simpa using hb
    subst e
    exact I1.fpOk (Nat.le_refl _) (I1.hok.fresh (Nat.le_refl _))
  · have q2 := q (Itt X.K a) (walk_tup.mono (fun H e => SqT.of (e _ hq)) fun _ _ _ _ _ _ y => y)
    obtain ⟨its, rv, p, hz⟩ := I1.tuple (SqT.of hq)
    refine wpAny_pyIter_tuple (show s1.heap.IsTuple a its.toArray from p) ?_
    refine ⟨s1.heap.objs.size, [s1.heap.objs.size], _, _, H1, rfl, I1.kept (t' := s1.toks) fun b o e => Heap.get?_push_of_some _ e, turn_tuple a _, ⟨_, Heap.get?_push_size _ rfl, rfl, rfl⟩, fun b hb => ?_, q2⟩
    have e : b = s1.heap.objs.size := by simpa using hb
    subst e
    exact I1.fpOk (Nat.le_refl _) (I1.hok.fresh (Nat.le_refl _))
/-! ### the table of named signs -/
def namedS : List Str := ["lt;", "gt;", "amp;", "quot;", "apos;"]
theorem dicW_at {K : PySem.W.Frag} {w : World} {a : Addr} {ks : List Str} (h : He.dicW K a = some (He.keysIn w.params ks)) :
    ∃ es n, K.lookup a = some ⟨.type "dict", none, .dict es n, #[]⟩ ∧ es.toList.map He.keyOf = He.keysIn w.params ks ∧ (a == sysModules) = false := by
  obtain ⟨es, n, D⟩ := He.dicW_ok h
  refine ⟨es, n, D.at_, ?_, D.low⟩
  unfold He.dicW at h
  rw [D.at_] at h
  have h1 : (match decide (("dict" : String) = "dict") && ((#[] : Array (Option Value)).isEmpty && !(a == sysModules)) with
    | true => some (es.toList.map He.keyOf)
    | false => none) = some (He.keysIn w.params ks) := h
  rw [D.low] at h1
  exact Option.some.inj h1
theorem keys_str {P : Program} {w : World} : ∀ {l : List DictEntry} {ks : List Str}, l.map He.keyOf = He.keysIn w.params ks →
    ∃ kvs : List (Str × Value), kvs.map (·.1) = ks ∧ Pairs (PySem.strKind P w) l kvs
  | [], [], _ => ⟨[], rfl, .nil⟩
  | [], k :: ks, h => by cases h
  | e :: l, [], h => by cases h
  | e :: l, k :: ks, h => by
    have h0 : He.keyOf e :: l.map He.keyOf = some (k, PyData.keyHash w.params k) :: He.keysIn w.params ks := h
    injection h0 with h1 h2
    obtain ⟨kvs, e1, e2⟩ := keys_str (P := P) h2
    unfold He.keyOf at h1
    split at h1
    · rename_i x t q
      have h4 := Option.some.inj h1
      have h5 : x = k := congrArg Prod.fst h4
      refine ⟨(k, e.val) :: kvs, by simp [e1], .cons ?_ rfl e2⟩
      rw [q, h5]
      exact PySem.strKind_is P w k t
    · cases h1
theorem vals_at : ∀ {vs : List V} {us : List Value}, us.length = vs.length → (∀ (j : Nat) (u : Value), us[j]? = some u → ∃ x, vs[j]? = some x ∧ RelV x u) → Vals vs us
  | [], [], _, _ => .nil
  | [], _ :: _, h, _ => by simp at h
  | _ :: _, [], h, _ => by simp at h
  | v :: vs, u :: us, h, k => by
    obtain ⟨x, e, r⟩ := k 0 u rfl
    have e2 : v = x := Option.some.inj e
    subst e2
    exact .cons r (vals_at (by simpa using h) fun j u2 e3 => k (j + 1) u2 e3)
theorem call_list_named {X : Cx} (T : Tx X.w X.K X.mg) (hcalm : X.calm = true) : CallR X (.type "list") (fun xs H Q => xs = [.ref (He.ga X.K "NAMED_SIGNS")] ∧ ∀ p, H p = none → Q (.ref p) (upd H p (.lst (namedS.map V.str)))) := by
  intro pins s σ H xs us Q I r q
  obtain ⟨ex, q⟩ := q
  subst ex
  obtain ⟨u, eu, rx⟩ := vals1 r
  subst eu
  cases rx
  obtain ⟨es, n, hl, hk, lo⟩ := dicW_at T.tab_NAMED_SIGNS
  obtain ⟨kvs, e1, e2⟩ := keys_str (P := X.prog) hk
  have lit := He.keysLit_of hk
  have nd : (kvs.map (·.1)).Nodup := by
    rw [e1]
    decide +kernel
  have hlen : kvs.length = 5 := by
    have := congrArg List.length e1
    rw [List.length_map] at this
    exact this
  have hat : s.heap.DictAt (PySem.strKind X.prog X.w) (He.ga X.K "NAMED_SIGNS") kvs n := by
    obtain ⟨o, es', n', h1, h2, h3, h4, _⟩ := PySem.W.mapOf_K (prog := X.prog) (w := X.w) I.kIn hl lit
    have h5 := (I.kIn _ _ hl).symm.trans h1
    cases h5
    cases h3
    exact ⟨_, es, h1, h2, rfl, h4, e2, nd⟩
  refine PySem.W.kdl_call (PySem.W.kdl_dict (knd := PySem.strKind X.prog X.w) (kvs := kvs) (ep := n) lo) (I.ok.hd hcalm) hat (by rw [hlen]; decide) fun h' tk acc c' hk' hD hacc => ?_
  have hv : Vals (namedS.map V.str) acc.toList := by
    refine vals_at ?_ fun j u e => ?_
    · rw [Array.length_toList, hacc.1, hlen]
      rfl
    · obtain ⟨k, x, e3, e4⟩ := hacc.2 j u (by rw [← Array.getElem?_toList]; exact e)
      have e5 : namedS[j]? = some k := by
        have h1 : (kvs.map (·.1))[j]? = some k := by rw [List.getElem?_map, e3]; rfl
        rw [e1] at h1
        exact h1
      refine ⟨.str k, by rw [List.getElem?_map, e5]; rfl, ?_⟩
      have e6 : Value.isStrOf k u = true := e4
      cases u with
      | str y t =>
        refine ⟨t, ?_⟩
        have e7 : y = k := by
          unfold Value.isStrOf at e6
          first | exact (of_decide_eq_true e6).symm | exact of_decide_eq_true e6 | exact eq_of_beq e6 | exact (eq_of_beq e6).symm
        rw [e7]
      | _ => cases e6
  refine ⟨.ref s.heap.objs.size, upd H s.heap.objs.size (.lst (namedS.map V.str)), I.laid (t' := tk) hk' (Nat.le_refl _)
    (show ObjOk X.prog X.w _ _ _ (.lst (namedS.map V.str)) from ⟨by decide, acc.toList, c', hv, by rw [Array.toArray_toList]; exact hD⟩), rfl, q _ (I.hok.fresh (Nat.le_refl _))⟩
end PX
/-! DXd -/
namespace PX
open PySem PySem.Spec PyProof.Rows L2 TL
/-! ### digits, references -/
def dgO (b n : Nat) : List Nat → Option (Nat × V)
  | [] => none
  | c :: _ => match dig b c with
    | some d => if leads b (n * b + d) then some (1, .int ((n * b + d : Nat) : Int)) else none
    | none => none
/-- digits behind the number acc, then a semicolon -/
def nuO (b : Nat) : Nat → List Nat → Option (Nat × Nat)
  | _, [] => none
  | acc, c :: r => match dig b c with
    | some d => if leads b (acc * b + d) then (nuO b (acc * b + d) r).map fun q => (q.1 + 1, q.2) else none
    | none => if c = 59 ∧ known acc = true then some (1, acc) else none
def digO (b : Nat) : List Nat → Bool
  | [] => false
  | c :: _ => (dig b c).isSome
/-- behind &# -/
def nrO : List Nat → Option (Nat × Nat)
  | 120 :: r => if digO 16 r then (nuO 16 0 r).map fun q => (q.1 + 1, q.2) else none
  | l => if digO 10 l then nuO 10 0 l else none
def oneO (Ws : List (List Nat)) (r : List Nat) : Option (List Nat) := Ws.find? fun W => decide (r.take W.length = W)
def namC : List Nat → Nat
  | [108, 116, 59] => 60
  | [103, 116, 59] => 62
  | [97, 109, 112, 59] => 38
  | [113, 117, 111, 116, 59] => 34
  | _ => 39
/-- a reference -/
def rfO : List Nat → Option (Nat × Nat)
  | 38 :: 35 :: r => (nrO r).map fun q => (q.1 + 2, q.2)
  | 38 :: r => (oneO (namedS.map tl) r).map fun W => (W.length + 1, namC W)
  | _ => none
theorem dgO_cons (b n c : Nat) (r : List Nat) : dgO b n (c :: r) = match dig b c with
    | some d => if leads b (n * b + d) then some (1, .int ((n * b + d : Nat) : Int)) else none
    | none => none := rfl
theorem digO_cons (b c : Nat) (r : List Nat) : digO b (c :: r) = (dig b c).isSome := rfl
theorem dgO_go {b n c d : Nat} {r : List Nat} (h : dig b c = some d) (hl : leads b (n * b + d) = true) : dgO b n (c :: r) = some (1, .int ((n * b + d : Nat) : Int)) := by
  rw [dgO_cons, h]
  exact if_pos hl
theorem nuO_le {b : Nat} : ∀ {acc : Nat} {r : List Nat} {n c : Nat}, nuO b acc r = some (n, c) → 1 ≤ n ∧ n ≤ r.length ∧ known c = true
  | acc, [], n, c, h => by cases h
  | acc, d :: r, n, c, h => by
    unfold nuO at h
    cases hd : dig b d with
    | none =>
      rw [hd] at h
      dsimp only at h
      split at h
      · rename_i hq
        have := Option.some.inj h
        obtain ⟨rfl, rfl⟩ : 1 = n ∧ acc = c := ⟨congrArg Prod.fst this, congrArg Prod.snd this⟩
        exact ⟨Nat.le_refl _, Nat.succ_le_succ (Nat.zero_le _), hq.2⟩
      · cases h
    | some e =>
      rw [hd] at h
      dsimp only at h
      split at h
      · cases q : nuO b (acc * b + e) r with
        | none => rw [q] at h; cases h
        | some u =>
          rw [q] at h
          have := Option.some.inj h
          obtain ⟨rfl, rfl⟩ : u.1 + 1 = n ∧ u.2 = c := ⟨congrArg Prod.fst this, congrArg Prod.snd this⟩
          obtain ⟨h1, h2, h3⟩ := nuO_le (n := u.1) (c := u.2) q
          rw [List.length_cons]
          exact ⟨by omega, by omega, h3⟩
      · cases h
section
variable {P : Program} {w : World} {K : PySem.W.Frag} {mg : Str → Option Value} {base : Heap}
def spDg (K : PySem.W.Frag) : Sp := fun vs H Q E => ∃ b n : Nat, (b = 10 ∨ b = 16) ∧ spSc K [.int (n : Int), .str (dgS b)] (dgO b n) vs H Q E
theorem ok_read_digit (T : Tx w K mg) : Ok P w K mg base CX0 3 (He.fAd K d_Scanner_read_digit.at_) p_Scanner_read_digit (spDg K) := by
  obtain ⟨fd, F⟩ := f_Scanner_read_digit T
  obtain ⟨fP, GP, bP, kP⟩ := ok_peek (P := P) (base := base) T
  obtain ⟨fL, GL, bL, kL⟩ := ok_leads_to_sign (P := P) (base := base) T
  refine ⟨fd, ?_, b_Scanner_read_digit F, F.kp⟩
  refine F.ok sc_Scanner_read_digit (fun vs H Q E h => ?_) (fun cdv A outer s H vs Q E hr h => ?_)
  · obtain ⟨b, n, _, p, dx, z, i, m, y, rfl, _⟩ := h
    rfl
  · obtain ⟨b, n, hb, p, dx, z, i, m, y, rfl, a, g, hi, hf, k⟩ := h
    have nd := sc_Scanner_read_digit.nd
    refine ⟨_, PSs.nox (pss_cons (ps_set (i := 3) nd rfl (.inl rfl) (pe_m0 PySem.F.slot_str_lower PySem.F.type_str_lower mt_lower (pe_meth0 (E := E0) (pv 0) (cls_Scanner T) (m_Scanner_peek T) GP (hr.mono (by omega)) bP .nil pass0))) (pss_cons ((ps_if ((PW.pt (pw_or (pt_cmpR op_eq (pv 3) (pe_str) (nomark _)) (pw_or1 (pt_cmpR op_notIn_sign (pv 3) (pv 2) (by rfl)))))) pss_no pss_nil)) (pss_cons (ps_set (i := 1) nd rfl (.inl rfl) (pe_op op_add (pe_op op_mul (pv 1) (pe_callB call_len (by rfl) (n_len T) PySem.boot_len (pa_cons (pv 2) pa_nil))) (pe_m1 PySem.F.slot_str_find PySem.F.type_str_find mt_find (pv 2) (pv 3)))) (pss_cons ((ps_if ((pt_not (pt_val (pe_call (E := E0) GL (hr.mono (by omega)) (by rfl) (g_leads_to_sign T) kL bL .nil pass0 (pa_cons (pv 1) (pa_cons (pe_callB call_len (by rfl) (n_len T) PySem.boot_len (pa_cons (pv 2) pa_nil)) pa_nil)))))) pss_no pss_nil)) (pss_cons (ps_fldaug (pv 0) pe_int ip_add) (pss_one ((ps_ret (pv 1))))))))), ?_⟩
    have hbl : (dgS b).length ≤ sizeLine := by rw [dg_len b hb, sizeLine_eq]; omega
    have hlen : z.length = (tl z).length := len_tl z
    refine ⟨_, rfl, p, dx, _, rfl, a, sc_no (by decide +kernel) (by decide +kernel) (by decide +kernel), p, dx, z, i, rfl, a, g, ⟨_, rfl⟩, _, rfl, rfl, ?_, ?_⟩
    · rw [mkS_len, List.length_take]
      omega
    cases hc : (tl z).drop i with
    | nil => rw [hc] at hf; cases hf
    | cons c r =>
      rw [hc, dgO_cons] at hf
      cases hd : dig b c with
      | none => rw [hd] at hf; cases hf
      | some d =>
        rw [hd] at hf
        dsimp only at hf
        split at hf
        · rename_i hl
          obtain ⟨rfl, rfl⟩ := some_pair hf
          have c128 := g.lt hc
          have hdc := drop_cons hc
          have el : Txt.lower (sg (c :: r)) = mkS [lowC c] := ext_tl (by rw [sg_cons, lower_one c c128, tl_mkS])
          obtain ⟨f1, f2⟩ := dg_find b hb c c128
          refine ⟨_, rfl, rfl, _, rfl, ?_⟩
          rw [el]
          rw [show decide (V.str (mkS [lowC c]) = V.str (Str.ofString "")) = false by rw [dec_str, tl_mkS]; rfl]
          refine iteF ?_
          refine ⟨_, rfl, _, rfl, lowC c, dgS b, rfl, rfl, _, rfl, ?_⟩
          show if (!decide (lowC c ∈ tl (dgS b))) = true then _ else _
          rw [f2, hd]
          refine iteF ?_
          rw [hd] at f1
          have hd2 := dig_lt hb hd
          have ln : LenV K (.str (dgS b)) H b := ⟨hbl, (dg_len b hb).symm⟩
          have efind : Txt.find (dgS b) (mkS [lowC c]) = (d : Int) := by
            rw [find_fd _ _ (by rw [tl_mkS]; simp), tl_mkS, f1]
          refine ⟨_, rfl, _, rfl, _, b, rfl, ln, _, _, rfl, rfl, .inr ⟨by omega, by omega⟩, _, rfl, ⟨_, rfl⟩, _, rfl, dgS b, mkS [lowC c], rfl, rfl, ?_⟩
          rw [efind]
          refine ⟨_, _, rfl, rfl, ?_⟩
          have en : (n : Int) * (b : Int) + (d : Int) = ((n * b + d : Nat) : Int) := by
            rw [Int.natCast_add, Int.natCast_mul]
          refine ⟨_, rfl, _, rfl, _, b, rfl, ln, n * b + d, b, (by show [V.int ((n : Int) * (b : Int) + (d : Int)), V.int (b : Int)] = _; rw [en]), hb, _, rfl, ?_⟩
          rw [hl]
          refine iteF ?_
          refine ⟨_, rfl, p, CSc K, dx, _, _, rfl, a, cls_Scanner T, na_Scanner_at T, sc_at, _, _, rfl, rfl, dx, _, a, (by show 3 < 1000; decide), ?_⟩
          rw [sc_put (j := i + 1) (by show (i : Int) + 1 = ((i + 1 : Nat) : Int); omega)]
          refine ⟨_, rfl, ?_⟩
          have := k _ (ScM.refl a).up (by omega)
          show Q (.int ((n : Int) * (b : Int) + (d : Int))) _
          rw [en]
          exact this
        · cases hf
theorem glob_dec {X : Cx} {pos : Pos} (T : Tx X.w X.K X.mg) (hg : Gl X "DECIMAL") : PE X (.Name "DECIMAL" pos) (tC (.str (dgS 10))) := by
  obtain ⟨t, e⟩ := c_DECIMAL T
  exact pe_glob hg e ⟨t, rfl⟩
theorem glob_hex {X : Cx} {pos : Pos} (T : Tx X.w X.K X.mg) (hg : Gl X "HEXADECIMAL") : PE X (.Name "HEXADECIMAL" pos) (tC (.str (dgS 16))) := by
  obtain ⟨t, e⟩ := c_HEXADECIMAL T
  exact pe_glob hg e ⟨t, rfl⟩
def rcV (o : Option (Nat × Nat)) : Option (Nat × V) := o.map fun q => (q.1, .str (mkS [q.2]))
theorem rcV_of {o : Option (Nat × Nat)} {n : Nat} {y : V} (h : rcV o = some (n, y)) : ∃ c, o = some (n, c) ∧ y = .str (mkS [c]) := by
  cases o with
  | none => cases h
  | some q =>
    have := Option.some.inj h
    obtain ⟨rfl, rfl⟩ : q.1 = n ∧ V.str (mkS [q.2]) = y := ⟨congrArg Prod.fst this, congrArg Prod.snd this⟩
    exact ⟨q.2, rfl, rfl⟩
/-- a reference by a number, from its # on -/
def nmbO : List Nat → Option (Nat × Nat)
  | 35 :: r => (nrO r).map fun q => (q.1 + 1, q.2)
  | _ => none
theorem hP_cons {c : Nat} {l : List Nat} (h : hP (· == c) l = true) : ∃ r, l = c :: r := by
  cases l with
  | nil => cases h
  | cons d r =>
    have e : d = c := by simpa [hP] using h
    exact ⟨r, by rw [e]⟩
theorem ok_read_numbered (T : Tx w K mg) : Ok P w K mg base CX0 4 (He.fAd K d_Scanner_read_numbered_reference.at_) p_Scanner_read_numbered_reference (spSc K [] fun r => rcV (nmbO r)) := by
  obtain ⟨fd, F⟩ := f_Scanner_read_numbered_reference T
  obtain ⟨fP, GP, bP, kP⟩ := ok_peek (P := P) (base := base) T
  obtain ⟨fX, GX, bX, kX⟩ := ok_expect (P := P) (base := base) T
  obtain ⟨fD, GD, bD, kD⟩ := ok_read_digit (P := P) (base := base) T
  obtain ⟨fR, GR, bR, kR⟩ := ok_referred_sign (P := P) (base := base) T
  refine ⟨fd, ?_, b_Scanner_read_numbered_reference F, F.kp⟩
  refine F.ok sc_Scanner_read_numbered_reference (fun vs H Q E h => ?_) (fun cdv A outer s H vs Q E hr h => ?_)
  · obtain ⟨p, dx, z, i, n, y, rfl, _⟩ := h
    rfl
  · obtain ⟨p, dx, z, i, n, y, rfl, hp, g, hi, hf, k⟩ := h
    have nd := sc_Scanner_read_numbered_reference.nd
    have hlen : z.length = (tl z).length := len_tl z
    refine ⟨_, PSs.nox (pss_cons (ps_expr (pe_meth (E := E0) (pv 0) (cls_Scanner T) (m_Scanner_expect T) GX (hr.mono (by omega)) bX .nil pass0 (pa_cons (pe_str) pa_nil))) (pss_cons (ps_set (i := 1) nd rfl (.inl rfl) (glob_dec T rfl)) (Evl.pss_cut ((ps_if ((pt_cmpR op_eq (pe_meth0 (E := E0) (pv 0) (cls_Scanner T) (m_Scanner_peek T) GP (hr.mono (by omega)) bP .nil pass0) (pe_str) (nomark _))) (pss_cons (ps_fldaug (pv 0) pe_int ip_add) (pss_one (ps_set (i := 1) nd rfl (.inl rfl) (glob_hex T rfl)))) pss_nil)) (pss_cons (ps_set (i := 2) nd rfl (.inl rfl) (pe_meth (E := E0) (pv 0) (cls_Scanner T) (m_Scanner_read_digit T) GD (hr.mono (by omega)) bD .nil pass0 (pa_cons (pe_int) (pa_cons (pv 1) pa_nil)))) (pss_cons (ps_while PassesOwn.never (pt_cmpR op_ne (pe_meth0 (E := E0) (pv 0) (cls_Scanner T) (m_Scanner_peek T) GP (hr.mono (by omega)) bP .nil pass0) (pe_str) (nomark _)) (pss_one (ps_set (i := 2) nd rfl (.inl rfl) (pe_meth (E := E0) (pv 0) (cls_Scanner T) (m_Scanner_read_digit T) GD (hr.mono (by omega)) bD .nil pass0 (pa_cons (pv 2) (pa_cons (pv 1) pa_nil)))))) (pss_cons (ps_set (i := 3) nd rfl (.inl rfl) (pe_call (E := E0) GR (hr.mono (by omega)) (by rfl) (g_referred_sign T) kR bR .nil pass0 (pa_cons (pv 2) pa_nil))) (pss_cons ((ps_if ((pt_cmpR op_eq (pv 3) (pe_str) (nomark _))) pss_no pss_nil)) (pss_cons (ps_fldaug (pv 0) pe_int ip_add) (pss_one ((ps_ret (pv 3)))))))))))), ?_⟩
    obtain ⟨code, hno, rfl⟩ := rcV_of hf
    obtain ⟨r, h35⟩ : ∃ r, (tl z).drop i = 35 :: r := by
      unfold nmbO at hno
      split at hno
      · rename_i r e; exact ⟨r, e⟩
      · cases hno
    rw [h35] at hno
    have hdc := drop_cons h35
    have ex : exO [35] ((tl z).drop i) = some (1, .non) := by rw [h35]; rfl
    refine ⟨_, rfl, p, dx, _, rfl, hp, sc_no (by decide +kernel) (by decide +kernel) (by decide +kernel), [35], by decide, p, dx, z, i, 1, _, rfl, hp, g, hi, ex, fun H1 m1 hi1 => ?_⟩
    obtain ⟨q, hq, hqn, hqc⟩ : ∃ q : Nat × Nat, nrO r = some q ∧ q.1 + 1 = n ∧ q.2 = code := by
      have h2 : (nrO r).map (fun q => (q.1 + 1, q.2)) = some (n, code) := hno
      cases e : nrO r with
      | none => rw [e] at h2; cases h2
      | some q =>
        rw [e] at h2
        have := Option.some.inj h2
        exact ⟨q, rfl, congrArg Prod.fst this, congrArg Prod.snd this⟩
    refine ⟨fun σ H1 => ∃ b j u v, (b = 10 ∨ b = 16) ∧ σ = [some (V.ref p), some (.str (dgS b)), u, v] ∧ ScM K H H1 p dx z j ∧ j ≤ z.length ∧ digO b ((tl z).drop j) = true ∧ ∃ m, nuO b 0 ((tl z).drop j) = some (m, code) ∧ j + m = i + n, ?_, ?_⟩
    · refine ⟨_, rfl, p, dx, _, rfl, m1.2, sc_no (by decide +kernel) (by decide +kernel) (by decide +kernel), p, dx, z, _, rfl, m1.2, g, rfl, _, rfl, ?_⟩
      rw [sg_lit _ (c := 120), hdc.2]
      cases h120 : hP (· == 120) r with
      | true =>
        obtain ⟨r', rfl⟩ := hP_cons h120
        have hd2 := drop_cons hdc.2
        refine iteT ?_
        refine ⟨_, rfl, p, CSc K, dx, _, _, rfl, m1.2, cls_Scanner T, na_Scanner_at T, sc_at, _, _, rfl, rfl, dx, _, m1.2, (by show 3 < 1000; decide), ?_⟩
        rw [sc_put (j := i + 1 + 1) (by show ((i + 1 : Nat) : Int) + 1 = ((i + 1 + 1 : Nat) : Int); omega)]
        have e : nrO (120 :: r') = if digO 16 r' then (nuO 16 0 r').map fun q => (q.1 + 1, q.2) else none := rfl
        rw [e] at hq
        cases hg16 : digO 16 r' with
        | false => rw [hg16, if_neg Bool.false_ne_true] at hq; cases hq
        | true =>
          rw [hg16, if_pos rfl] at hq
          cases en : nuO 16 0 r' with
          | none => rw [en] at hq; cases hq
          | some u =>
            rw [en] at hq
            have hu := Option.some.inj hq
            have hu1 : u.1 + 1 = q.1 := by rw [← hu]
            have hu2 : u.2 = q.2 := by rw [← hu]
            refine ⟨16, i + 1 + 1, _, _, .inr rfl, rfl, m1.up, by omega, by rw [hd2.2]; exact hg16, u.1, ?_, by omega⟩
            rw [hd2.2, en, ← hqc, ← hu2]
      | false =>
        refine iteF ?_
        have e : nrO r = if digO 10 r then nuO 10 0 r else none := by
          unfold nrO
          split
          · cases h120
          · rfl
        rw [e] at hq
        cases hg10 : digO 10 r with
        | false => rw [hg10, if_neg Bool.false_ne_true] at hq; cases hq
        | true =>
          rw [hg10, if_pos rfl] at hq
          refine ⟨10, i + 1, _, _, .inl rfl, rfl, m1, hi1, by rw [hdc.2]; exact hg10, q.1, ?_, by omega⟩
          rw [hdc.2, hq, ← hqc]
    rintro σ H2 ⟨b, j, u, v, hb, rfl, m2, hj, hdg, m, hnu, hjm⟩
    clear hq hqn hqc hno m1 hf
    -- one digit off a number that goes on
    have one : ∀ (acc j m : Nat), (tl z).drop j ≠ [] → digO b ((tl z).drop j) = true → nuO b acc ((tl z).drop j) = some (m, code) → ∃ acc', dgO b acc ((tl z).drop j) = some (1, .int ((acc' : Nat) : Int)) ∧ 1 ≤ m ∧ nuO b acc' ((tl z).drop (j + 1)) = some (m - 1, code) := by
      intro acc j m hne hdj hn
      cases hl : (tl z).drop j with
      | nil => exact absurd hl hne
      | cons c r =>
        rw [hl] at hdj hn
        have h1 := (drop_cons hl).2
        rw [digO_cons] at hdj
        unfold nuO at hn
        cases hd : dig b c with
        | none => rw [hd] at hdj; cases hdj
        | some d =>
          rw [hd] at hn
          dsimp only at hn
          split at hn
          · rename_i hlead
            refine ⟨acc * b + d, dgO_go hd hlead, ?_⟩
            cases q : nuO b (acc * b + d) r with
            | none => rw [q] at hn; cases hn
            | some u =>
              rw [q] at hn
              have := Option.some.inj hn
              obtain ⟨rfl, rfl⟩ : u.1 + 1 = m ∧ u.2 = code := ⟨congrArg Prod.fst this, congrArg Prod.snd this⟩
              exact ⟨by omega, by rw [h1, q]; rfl⟩
          · cases hn
    have ne0 : ∀ {j acc m}, nuO b acc ((tl z).drop j) = some (m, code) → (tl z).drop j ≠ [] := fun h e => by
      rw [e] at h
      cases h
    obtain ⟨acc1, hd1, hm1, hn1⟩ := one 0 j m (ne0 hnu) hdg hnu
    refine ⟨_, rfl, p, dx, _, rfl, m2.2, sc_no (by decide +kernel) (by decide +kernel) (by decide +kernel), _, rfl, b, 0, hb, p, dx, z, j, 1, _, rfl, m2.2, g, hj, hd1, fun H3 m3 hj3 => ?_⟩
    have m23 := m2.trans m3
    refine while_x (fun mm σ H4 => ∃ (j' acc : Nat) (m' : Nat), mm = z.length - j' ∧ σ = [some (V.ref p), some (.str (dgS b)), some (.int (acc : Int)), v] ∧ ScM K H H4 p dx z j' ∧ j' ≤ z.length ∧ nuO b acc ((tl z).drop j') = some (m', code) ∧ j' + m' = i + n)
      (fun σ H4 => ∃ (j' acc : Nat) (r9 : List Nat), σ = [some (V.ref p), some (.str (dgS b)), some (.int (acc : Int)), v] ∧ ScM K H H4 p dx z j' ∧ j' ≤ z.length ∧ (tl z).drop j' = 59 :: r9 ∧ known acc = true ∧ acc = code ∧ j' + 1 = i + n)
      ⟨_, j + 1, acc1, m - 1, rfl, rfl, m23, hj3, hn1, by omega⟩ ?_ ?_
    · rintro σ H4 ⟨j', acc, r9, rfl, m4, hj', h59, hkn, rfl, hend⟩
      have hd9 := drop_cons h59
      refine ⟨_, rfl, acc, rfl, ?_⟩
      rw [hkn, if_pos rfl]
      refine ⟨_, rfl, rfl, _, rfl, ?_⟩
      refine iteF ?_ (by rw [dec_str, tl_mkS]; rfl)
      refine ⟨_, rfl, p, CSc K, dx, _, _, rfl, m4.2, cls_Scanner T, na_Scanner_at T, sc_at, _, _, rfl, rfl, dx, _, m4.2, (by show 3 < 1000; decide), ?_⟩
      rw [sc_put (j := j' + 1) (by show (j' : Int) + 1 = ((j' + 1 : Nat) : Int); omega)]
      have m5 : ScM K H _ p dx z (j' + 1) := m4.up
      rw [hend] at m5 ⊢
      exact ⟨_, rfl, k _ m5 (by omega)⟩
    · rintro - mm σ H4 R ⟨j', acc, m', rfl, rfl, m4, hj', hn', hend⟩ hfin hbody
      refine ⟨_, rfl, p, dx, _, rfl, m4.2, sc_no (by decide +kernel) (by decide +kernel) (by decide +kernel), p, dx, z, _, rfl, m4.2, g, rfl, _, rfl, ?_⟩
      show R (!decide (V.str (sg ((tl z).drop j')) = V.str (Str.ofString ";"))) H4
      rw [sg_lit _ (c := 59)]
      cases h59 : hP (· == 59) ((tl z).drop j') with
      | true =>
        obtain ⟨r9, h9⟩ := hP_cons h59
        rw [h9] at hn'
        have e : nuO b acc (59 :: r9) = if known acc = true then some (1, acc) else none := by
          unfold nuO
          have : dig b 59 = none := by simp [dig]
          rw [this]
          by_cases hk : known acc = true
          · rw [if_pos hk]; exact if_pos ⟨rfl, hk⟩
          · rw [if_neg hk]; exact if_neg fun q => hk q.2
        rw [e] at hn'
        split at hn'
        · rename_i hk
          have := Option.some.inj hn'
          obtain ⟨rfl, rfl⟩ : 1 = m' ∧ acc = code := ⟨congrArg Prod.fst this, congrArg Prod.snd this⟩
          exact hfin _ ⟨j', acc, r9, rfl, m4, hj', h9, hk, rfl, hend⟩
        · cases hn'
      | false =>
        have hdj : digO b ((tl z).drop j') = true := by
          cases hl : (tl z).drop j' with
          | nil => exact absurd hl (ne0 hn')
          | cons c r =>
            rw [hl] at hn' h59
            unfold nuO at hn'
            rw [digO_cons]
            cases hd : dig b c with
            | some d => rfl
            | none =>
              rw [hd] at hn'
              dsimp only at hn'
              have hc : ¬ c = 59 := fun e => by
                rw [e] at h59
                cases h59
              rw [if_neg fun q => hc q.1] at hn'
              cases hn'
        obtain ⟨acc2, hd2, hm2, hn2⟩ := one acc j' m' (ne0 hn') hdj hn'
        refine hbody _ ?_
        refine ⟨_, rfl, p, dx, _, rfl, m4.2, sc_no (by decide +kernel) (by decide +kernel) (by decide +kernel), _, rfl, _, rfl, b, acc, hb, p, dx, z, j', 1, _, rfl, m4.2, g, hj', hd2, fun H5 m5 hj5 => ?_⟩
        exact ⟨_, by omega, j' + 1, acc2, m' - 1, rfl, rfl, m4.trans m5, hj5, hn2, by omega⟩
end
end PX
/-! PXKd -/
namespace PX
open PySem PySem.Spec PyProof.Rows L2 TL
/-! ### a key that a dict of the head has not -/
theorem kd_find {w : World} {z : Str} : ∀ {l : List DictEntry} {ks : List Str}, l.map He.keyOf = He.keysIn w.params ks → z ∉ ks → l.find? (·.key.isStr z) = none ∧ l.any (·.refKey) = false
  | [], [], _, _ => ⟨rfl, rfl⟩
  | [], _ :: _, h, _ => by cases h
  | _ :: _, [], h, _ => by cases h
  | e :: l, k :: ks, h, hz => by
    have h1 : He.keyOf e = some (k, PyData.keyHash w.params k) := (List.cons.inj h).1
    have h2 : l.map He.keyOf = He.keysIn w.params ks := (List.cons.inj h).2
    obtain ⟨i1, i2⟩ := kd_find h2 (fun hm => hz (List.mem_cons_of_mem _ hm))
    have hk : k ≠ z := fun e => hz (by rw [e]; exact List.mem_cons_self)
    unfold He.keyOf at h1
    cases hkey : e.key with
    | str x t =>
      rw [hkey] at h1
      dsimp only at h1
      have hx : x = k := congrArg Prod.fst (Option.some.inj h1)
      subst hx
      refine ⟨?_, ?_⟩
      · have hf : e.key.isStr z = false := by
          rw [hkey]
          exact decide_eq_false hk
        rw [List.find?_cons, hf]
        exact i1
      · have hf : e.refKey = false := by
          unfold DictEntry.refKey
          rw [hkey]
        rw [List.any_cons, hf, i2]
        rfl
    | _ => rw [hkey] at h1; cases h1
theorem kd_no {K : PySem.W.Frag} {w : World} {a : Addr} {ks : List Str} {z : Str} (h : He.dicW K a = some (He.keysIn w.params ks)) (hz : z ∉ ks) : PySem.W.nsIn K a z = some none := by
  obtain ⟨es, n, D⟩ := He.dicW_ok h
  unfold He.dicW at h
  rw [D.at_] at h
  have h1 : (match decide (("dict" : String) = "dict") && ((#[] : Array (Option Value)).isEmpty && !(a == sysModules)) with
    | true => some (es.toList.map He.keyOf)
    | false => none) = some (He.keysIn w.params ks) := h
  rw [D.low] at h1
  have h2 : es.toList.map He.keyOf = He.keysIn w.params ks := Option.some.inj h1
  obtain ⟨f1, f2⟩ := kd_find h2 hz
  unfold PySem.W.nsIn
  rw [D.at_]
  dsimp only
  rw [f1]
  dsimp only
  rw [f2]
  rfl
/-- the value that a dict of the head has for a key -/
theorem kd_val {K : PySem.W.Frag} {w : World} {a : Addr} {ks : List Str} {kvs : List (Str × He.Dv)} {k : Str} {v : He.Dv} (h : He.dicW K a = some (He.keysIn w.params ks)) (hv : He.valsB K a kvs = true) (hm : (k, v) ∈ kvs) : KDct K w a k (v.v K) := by
  obtain ⟨es, n, D⟩ := He.dicW_ok h
  obtain ⟨u, e3, e4⟩ := He.valsB_ok hv hm
  exact ⟨es, n, u, D.at_, D.lit, e3, e4⟩
theorem kd_has {K : PySem.W.Frag} {a : Addr} {kvs : List (Str × He.Dv)} {k : Str} {v : He.Dv} (hv : He.valsB K a kvs = true) (hm : (k, v) ∈ kvs) : ∃ u, PySem.W.nsIn K a k = some (some u) := by
  obtain ⟨u, e3, _⟩ := He.valsB_ok hv hm
  exact ⟨u, e3⟩
end PX
/-! DXe -/
namespace PX
open PySem PySem.Spec PyProof.Rows L2 TL
def oneV (Ws : List (List Nat)) (r : List Nat) : Option (Nat × V) := (oneO Ws r).map fun W => (W.length, .str (mkS W))
theorem oneO_sp {Ws : List (List Nat)} {r W : List Nat} (h : oneO Ws r = some W) : W ∈ Ws ∧ r.take W.length = W := by
  unfold oneO at h
  have h2 := List.find?_some h
  exact ⟨List.mem_of_find?_eq_some h, of_decide_eq_true h2⟩
section
variable {P : Program} {w : World} {K : PySem.W.Frag} {mg : Str → Option Value} {base : Heap}
def spOf (K : PySem.W.Frag) : Sp := fun vs H Q E => ∃ (q : Addr) (ws : List Str), SqA H q (ws.map V.str) ∧ (∀ W ∈ ws, W.length ≤ 100) ∧ spSc K [.ref q] (oneV (ws.map tl)) vs H Q E
theorem ok_read_one_of (T : Tx w K mg) : Ok P w K mg base CX0 2 (He.fAd K d_Scanner_read_one_of.at_) p_Scanner_read_one_of (spOf K) := by
  obtain ⟨fd, F⟩ := f_Scanner_read_one_of T
  refine ⟨fd, ?_, b_Scanner_read_one_of F, F.kp⟩
  refine F.ok sc_Scanner_read_one_of (fun vs H Q E h => ?_) (fun cdv A outer s H vs Q E hr h => ?_)
  · obtain ⟨q, ws, _, _, p, dx, z, i, n, y, rfl, _⟩ := h
    rfl
  · obtain ⟨q, ws, hq, hwl, p, dx, z, i, n, y, rfl, hp, g, hi, hf, k⟩ := h
    have nd := sc_Scanner_read_one_of.nd
    refine ⟨_, PSs.nox (pss_cons (ps_for PassesOwn.never rfl (pi_seq (pv 1)) (pg_name (i := 2) nd rfl (.inl rfl)) (pss_one ((ps_if ((pt_val (pe_bm PySem.F.plainAttrs_str PySem.F.slot_str_startswith PySem.F.type_str_startswith mt_startswith3 (pe_fld (pv 0) rfl) (pa_cons (pv 2) (pa_cons (pe_fld (pv 0) rfl) pa_nil))))) (pss_cons (ps_fldaug (pv 0) (pe_callB call_len (by rfl) (n_len T) PySem.boot_len (pa_cons (pv 2) pa_nil)) ip_add) (pss_one ((ps_ret (pv 2))))) pss_nil)))) pss_no), ?_⟩
    obtain ⟨W, hW, rfl, rfl⟩ : ∃ W, oneO (ws.map tl) ((tl z).drop i) = some W ∧ W.length = n ∧ V.str (mkS W) = y := by
      unfold oneV at hf
      cases e : oneO (ws.map tl) ((tl z).drop i) with
      | none => rw [e] at hf; cases hf
      | some W =>
        rw [e] at hf
        obtain ⟨h1, h2⟩ := some_pair hf
        exact ⟨W, rfl, h1, h2⟩
    have hlen : z.length = (tl z).length := len_tl z
    refine ⟨_, rfl, q, _, rfl, hq, fun J wk => ?_⟩
    refine for_it wk (fun t σ H2 => H2 = H ∧ (∃ v, σ = [some (.ref p), some (.ref q), v, none]) ∧ oneO ((ws.map tl).drop t) ((tl z).drop i) = some W) ⟨rfl, ⟨none, rfl⟩, hW⟩ (fun t σ H2 _ h o ho => by rw [h.1]; exact ho) ?_ ?_
    · rintro t x σ H2' H2 ht ⟨rfl, ⟨v, rfl⟩, ho⟩ ⟨rfl, hx⟩
      obtain ⟨wd, hwd, rfl⟩ : ∃ wd, ws[t]? = some wd ∧ x = .str wd := by
        rw [List.getElem?_map] at hx
        cases y : ws[t]? with
        | none => rw [y] at hx; cases hx
        | some wd => rw [y] at hx; exact ⟨wd, rfl, (Option.some.inj hx).symm⟩
      have htl : t < (ws.map tl).length := by
        rw [List.length_map]
        exact (List.getElem?_eq_some_iff.mp hwd).1
      have hdr : (ws.map tl).drop t = tl wd :: (ws.map tl).drop (t + 1) := by
        rw [List.drop_eq_getElem_cons htl]
        congr 1
        have : (ws.map tl)[t]? = some (tl wd) := by rw [List.getElem?_map, hwd]; rfl
        rw [List.getElem?_eq_getElem htl] at this
        exact Option.some.inj this
      refine ⟨_, rfl, p, CSc K, dx, _, _, rfl, hp, cls_Scanner T, na_Scanner_text T, sc_text, rfl, _, rfl, _, rfl, p, CSc K, dx, _, _, rfl, hp, cls_Scanner T, na_Scanner_at T, sc_at, z, wd, _, rfl, rfl, ?_⟩
      rw [starts3 _ _ _ hi]
      refine ⟨_, rfl, ?_⟩
      rw [hdr] at ho
      have ec : oneO (tl wd :: (ws.map tl).drop (t + 1)) ((tl z).drop i) = if decide (((tl z).drop i).take (tl wd).length = tl wd) = true then some (tl wd) else oneO ((ws.map tl).drop (t + 1)) ((tl z).drop i) := by
        unfold oneO
        rw [List.find?_cons]
        cases decide (((tl z).drop i).take (tl wd).length = tl wd) <;> rfl
      rw [ec] at ho
      cases hd : decide (((tl z).drop i).take (tl wd).length = tl wd) with
      | true =>
        rw [hd, if_pos rfl] at ho
        have hWw := Option.some.inj ho
        subst hWw
        have hl := take_len (of_decide_eq_true hd)
        rw [List.length_drop] at hl
        refine iteT ?_
        have hwd2 : wd.length ≤ 100 := hwl wd (List.mem_of_getElem? hwd)
        refine ⟨_, rfl, p, CSc K, dx, _, _, rfl, hp, cls_Scanner T, na_Scanner_at T, sc_at, _, rfl, _, _, rfl, ⟨by rw [sizeLine_eq]; omega, rfl⟩, _, _, rfl, rfl, dx, _, hp, (by show 3 < 1000; decide), ?_⟩
        rw [sc_put (j := i + (tl wd).length) (by show (i : Int) + (wd.length : Int) = ((i + (tl wd).length : Nat) : Int); rw [len_tl wd]; omega)]
        refine ⟨_, rfl, ?_⟩
        have := k _ (ScM.refl hp).up (by omega)
        rw [mkS_tl] at this
        exact this
      | false =>
        rw [hd, if_neg Bool.false_ne_true] at ho
        refine iteF ?_
        exact ⟨rfl, ⟨_, rfl⟩, ho⟩
    · rintro σ H2 ⟨rfl, ⟨v, rfl⟩, ho⟩
      rw [List.drop_of_length_le (by rw [List.length_map, List.length_map]; exact Nat.le_refl _)] at ho
      cases ho
theorem nam_get (T : Tx w K mg) {W : List Nat} (h : W ∈ namedS.map tl) : KDct K w (He.ga K "NAMED_SIGNS") (mkS W) (.str (mkS [namC W])) := by
  obtain ⟨wd, hw, rfl⟩ := List.mem_map.mp h
  rw [mkS_tl]
  have key : ∀ wd ∈ namedS, (wd, He.Dv.str (mkS [namC (tl wd)])) ∈ kvs_NAMED_SIGNS := by
    intro wd h
    unfold namedS at h
    simp only [List.mem_cons, List.not_mem_nil, or_false] at h
    rcases h with rfl | rfl | rfl | rfl | rfl
    · exact List.mem_of_getElem? (i := 0) rfl
    · exact List.mem_of_getElem? (i := 1) rfl
    · exact List.mem_of_getElem? (i := 2) rfl
    · exact List.mem_of_getElem? (i := 3) rfl
    · exact List.mem_of_getElem? (i := 4) rfl
  exact kd_val T.tab_NAMED_SIGNS (x_v_NAMED_SIGNS T) (key wd hw)
theorem rfO_num (r : List Nat) : rfO (38 :: 35 :: r) = (nrO r).map fun q => (q.1 + 2, q.2) := rfl
theorem rfO_nam {r : List Nat} (h : hP (· == 35) r = false) : rfO (38 :: r) = (oneO (namedS.map tl) r).map fun W => (W.length + 1, namC W) := by
  cases r with
  | nil => rfl
  | cons c r =>
    have hc : c ≠ 35 := fun e => by rw [e] at h; cases h
    unfold rfO
    split
    · rename_i e
      cases e
      exact absurd rfl hc
    · rename_i e
      cases e
      rfl
    · rename_i h1 h2
      exact absurd rfl (h2 _)
theorem nrO_le {r : List Nat} {q : Nat × Nat} (h : nrO r = some q) : q.1 ≤ r.length ∧ known q.2 = true := by
  unfold nrO at h
  split at h
  · split at h
    · cases e : nuO 16 0 _ with
      | none => rw [e] at h; cases h
      | some u =>
        rw [e] at h
        have hu := Option.some.inj h
        obtain ⟨h1, h2, h3⟩ := nuO_le e
        have e1 : u.1 + 1 = q.1 := by rw [← hu]
        have e2 : u.2 = q.2 := by rw [← hu]
        rw [List.length_cons, ← e1, ← e2]
        exact ⟨by omega, h3⟩
    · cases h
  · split at h
    · obtain ⟨h1, h2, h3⟩ := nuO_le h
      exact ⟨h2, h3⟩
    · cases h
theorem ok_read_reference (T : Tx w K mg) : Ok P w K mg base CX0 5 (He.fAd K d_Scanner_read_reference.at_) p_Scanner_read_reference (spSc K [] fun r => rcV (rfO r)) := by
  obtain ⟨fd, F⟩ := f_Scanner_read_reference T
  obtain ⟨fP, GP, bP, kP⟩ := ok_peek (P := P) (base := base) T
  obtain ⟨fX, GX, bX, kX⟩ := ok_expect (P := P) (base := base) T
  obtain ⟨fN, GN, bN, kN⟩ := ok_read_numbered (P := P) (base := base) T
  obtain ⟨fO, GO, bO, kO⟩ := ok_read_one_of (P := P) (base := base) T
  refine ⟨fd, ?_, b_Scanner_read_reference F, F.kp⟩
  refine F.ok sc_Scanner_read_reference (fun vs H Q E h => ?_) (fun cdv A outer s H vs Q E hr h => ?_)
  · obtain ⟨p, dx, z, i, n, y, rfl, _⟩ := h
    rfl
  · obtain ⟨p, dx, z, i, n, y, rfl, hp, g, hi, hf, k⟩ := h
    refine ⟨_, PSs.nox (pss_cons (ps_expr (pe_meth (E := E0) (pv 0) (cls_Scanner T) (m_Scanner_expect T) GX (hr.mono (by omega)) bX .nil pass0 (pa_cons (pe_str) pa_nil))) (pss_cons ((ps_if ((pt_cmpR op_eq (pe_meth0 (E := E0) (pv 0) (cls_Scanner T) (m_Scanner_peek T) GP (hr.mono (by omega)) bP .nil pass0) (pe_str) (nomark _))) (pss_one ((ps_ret (pe_meth0 (E := E0) (pv 0) (cls_Scanner T) (m_Scanner_read_numbered_reference T) GN (hr.mono (by omega)) bN .nil pass0)))) pss_nil)) (pss_one ((ps_ret (pe_ix ix_kdict (pe_glob (v := .ref (He.ga K "NAMED_SIGNS")) rfl (g_NAMED_SIGNS T) rfl) (pe_meth (E := E0) (pv 0) (cls_Scanner T) (m_Scanner_read_one_of T) GO (hr.mono (by omega)) bO .nil pass0 (pa_cons (pe_callTy (call_list_named T rfl) (by rfl) (n_list T) (by decide +kernel) (pa_cons (pe_glob (v := .ref (He.ga K "NAMED_SIGNS")) rfl (g_NAMED_SIGNS T) rfl) pa_nil)) pa_nil)) (fun _ _ => rfl))))))), ?_⟩
    obtain ⟨code, hno, rfl⟩ := rcV_of hf
    obtain ⟨r, h38⟩ : ∃ r, (tl z).drop i = 38 :: r := by
      unfold rfO at hno
      split at hno
      · rename_i r e; exact ⟨_, e⟩
      · rename_i r _ e; exact ⟨r, e⟩
      · cases hno
    rw [h38] at hno
    have hdc := drop_cons h38
    have ex : exO [38] ((tl z).drop i) = some (1, .non) := by rw [h38]; rfl
    refine ⟨_, rfl, p, dx, _, rfl, hp, sc_no (by decide +kernel) (by decide +kernel) (by decide +kernel), [38], by decide, p, dx, z, i, 1, _, rfl, hp, g, hi, ex, fun H1 m1 hi1 => ?_⟩
    refine ⟨_, rfl, p, dx, _, rfl, m1.2, sc_no (by decide +kernel) (by decide +kernel) (by decide +kernel), p, dx, z, _, rfl, m1.2, g, rfl, _, rfl, ?_⟩
    rw [sg_lit _ (c := 35), hdc.2]
    cases h35 : hP (· == 35) r with
    | true =>
      obtain ⟨r', rfl⟩ := hP_cons h35
      rw [rfO_num] at hno
      refine iteT ?_
      cases e : nrO r' with
      | none => rw [e] at hno; cases hno
      | some q =>
        rw [e] at hno
        have hu := Option.some.inj hno
        have e1 : q.1 + 2 = n := congrArg (fun x : Nat × Nat => x.1) hu
        have e2 : q.2 = code := congrArg (fun x : Nat × Nat => x.2) hu
        have hf2 : rcV (nmbO ((tl z).drop (i + 1))) = some (q.1 + 1, .str (mkS [code])) := by
          rw [hdc.2]
          show rcV ((nrO r').map fun q => (q.1 + 1, q.2)) = _
          rw [e, ← e2]
          rfl
        refine ⟨_, rfl, p, dx, _, rfl, m1.2, sc_no (by decide +kernel) (by decide +kernel) (by decide +kernel), p, dx, z, i + 1, q.1 + 1, _, rfl, m1.2, g, hi1, hf2, fun H2 m2 hi2 => ?_⟩
        have m12 := m1.trans m2
        rw [show i + 1 + (q.1 + 1) = i + n by omega] at m12 hi2
        exact k _ m12 hi2
    | false =>
      rw [rfO_nam h35] at hno
      refine iteF ?_
      cases e : oneO (namedS.map tl) r with
      | none => rw [e] at hno; cases hno
      | some W =>
        rw [e] at hno
        have hu := Option.some.inj hno
        have e1 : W.length + 1 = n := congrArg (fun x : Nat × Nat => x.1) hu
        have e2 : namC W = code := congrArg (fun x : Nat × Nat => x.2) hu
        obtain ⟨hWm, hWt⟩ := oneO_sp e
        refine ⟨_, rfl, p, dx, _, rfl, m1.2, sc_no (by decide +kernel) (by decide +kernel) (by decide +kernel), rfl, fun L hL => ?_⟩
        have m2 := m1.more (same_new hL (o := .lst (namedS.map V.str)))
        have hf2 : oneV (namedS.map tl) ((tl z).drop (i + 1)) = some (W.length, .str (mkS W)) := by
          rw [hdc.2]
          unfold oneV
          rw [e]
          rfl
        refine ⟨L, namedS, .inl upd_same, by decide, p, dx, z, i + 1, W.length, _, rfl, m2.2, g, hi1, hf2, fun H3 m3 hi3 => ?_⟩
        have m13 := m2.trans m3
        rw [show i + 1 + W.length = i + n by omega] at m13 hi3
        refine ⟨_, _, _, rfl, rfl, nam_get T hWm, ?_⟩
        rw [e2]
        exact k _ m13 hi3
theorem rfO_le {r : List Nat} {n c : Nat} (h : rfO r = some (n, c)) : 1 ≤ n ∧ n ≤ r.length ∧ known c = true := by
  unfold rfO at h
  split at h
  · rename_i r'
    cases e : nrO r' with
    | none => rw [e] at h; cases h
    | some q =>
      rw [e] at h
      have hu := Option.some.inj h
      obtain ⟨h1, h2⟩ := nrO_le e
      have e1 : q.1 + 2 = n := congrArg (fun x : Nat × Nat => x.1) hu
      have e2 : q.2 = c := congrArg (fun x : Nat × Nat => x.2) hu
      rw [List.length_cons, List.length_cons, ← e2]
      exact ⟨by omega, by omega, h2⟩
  · rename_i r' _
    cases e : oneO (namedS.map tl) r' with
    | none => rw [e] at h; cases h
    | some W =>
      rw [e] at h
      have hu := Option.some.inj h
      obtain ⟨hWm, hWt⟩ := oneO_sp e
      have e1 : W.length + 1 = n := congrArg (fun x : Nat × Nat => x.1) hu
      have e2 : namC W = c := congrArg (fun x : Nat × Nat => x.2) hu
      have hl := take_len hWt
      have : ∀ W ∈ namedS.map tl, known (namC W) = true := by decide +kernel
      rw [List.length_cons, ← e2]
      exact ⟨by omega, by omega, this W hWm⟩
  · cases h
end
end PX
/-! DXf -/
namespace PX
open PySem PySem.Spec PyProof.Rows L2 TL PySem.StrLaws
theorem psst_cut {X : Cx} {st : Stmt} {rest : List Stmt} {t u : TS} (h1 : PST X st t) (h2 : PSsT X rest u) : PSsT X (st :: rest) (fun D σ H => ∃ Mid : L2.St → Hp → Prop, t { D with nx := Mid } σ H ∧ ∀ σ' H', Mid σ' H' → u D σ' H') := by
  intro pins s σ H D h0 I ⟨Mid, ht, hm⟩
  refine wpAny_execs_cons (wpAny_mono (PySem.wpAny_toks (h1 pins s σ H { D with nx := Mid } h0 I ht)) (fun f s1 q => ?_) fun _ _ x => x.2)
  obtain ⟨hk, q⟩ := q
  cases f with
  | next =>
    obtain ⟨σ', H', I', q⟩ := q
    exact h2 pins s1 σ' H' D (Nat.le_trans h0 hk) I' (hm _ _ q)
  | ret v => exact q
  | brk => exact q
  | cont => exact q
/-! ### signs exchanged -/
theorem replS_cons1 (c : Nat) (z : List Nat) (d : Nat) (r : List Nat) : replS [c] z 0 (d :: r) = if d = c then z ++ replS [c] z 0 r else d :: replS [c] z 0 r := by
  have e : replS [c] z 0 (d :: r) = if (d :: r).take [c].length = [c] then z ++ replS [c] z ([c].length - 1) r else d :: replS [c] z 0 r := by rw [replS]
  rw [e]
  by_cases h : d = c
  · rw [if_pos (by rw [h]; rfl), if_pos h]
    rfl
  · have hn : ¬ ((d :: r).take [c].length = [c]) := fun q => h (List.cons.inj (show [d] = [c] from q)).1
    rw [if_neg hn, if_neg h]
theorem replS_one (c : Nat) (z : List Nat) : ∀ l : List Nat, replS [c] z 0 l = l.flatMap fun d => if d = c then z else [d]
  | [] => by rw [replS]; rfl
  | d :: r => by
    rw [replS_cons1, replS_one c z r, List.flatMap_cons]
    by_cases h : d = c
    · rw [if_pos h, if_pos h]
    · rw [if_neg h, if_neg h]
      rfl
theorem repl_sg (l : List Nat) (c : Nat) (z : Str) : Txt.replace (mkS l) ⟨#[c]⟩ z = mkS (l.flatMap fun d => if d = c then tl z else [d]) := by
  refine ext_tl ?_
  have h := replace_list (x := mkS l) (y := ⟨#[c]⟩) (z := z) (Nat.le_refl _)
  show (Txt.replace _ _ _).cps.toList = _
  rw [h]
  exact replS_one c _ l
def bl32 (c : Nat) : Nat := if isBl c then 32 else c
theorem bl_both (l : List Nat) : ((l.flatMap fun d => if d = 9 then [32] else [d]).flatMap fun d => if d = 10 then [32] else [d]) = l.map bl32 := by
  induction l with
  | nil => rfl
  | cons c r ih =>
    rw [List.flatMap_cons, List.flatMap_append, ih, List.map_cons]
    have e : ((if c = 9 then [32] else [c]).flatMap fun d => if d = 10 then [32] else [d]) = [bl32 c] := by
      unfold bl32 isBl
      by_cases h9 : c = 9
      · subst h9; rfl
      · rw [if_neg h9]
        by_cases h10 : c = 10
        · subst h10; rfl
        · by_cases h32 : c = 32
          · subst h32; rfl
          · show (if c = 10 then [32] else [c]) ++ [] = _
            rw [if_neg h10]
            have : (c == 32 || c == 9 || c == 10) = false := by simp [h9, h10, h32]
            rw [this]
            rfl
    rw [e]
    rfl
/-! ### the text of an attribute -/
def vaO : Nat → Nat → List Nat → Option (Nat × List Nat)
  | 0, _, _ => none
  | _ + 1, _, [] => none
  | f + 1, q, c :: r =>
    if c = q then some (1, [])
    else if c = 60 then none
    else if c = 38 then
      match rfO (c :: r) with
      | some u => (vaO f q ((c :: r).drop u.1)).map fun v => (u.1 + v.1, u.2 :: v.2)
      | none => none
    else (vaO f q r).map fun v => (1 + v.1, bl32 c :: v.2)
theorem vaO_cons (f q c : Nat) (r : List Nat) : vaO (f + 1) q (c :: r) = if c = q then some (1, []) else if c = 60 then none else if c = 38 then
      match rfO (c :: r) with
      | some u => (vaO f q ((c :: r).drop u.1)).map fun v => (u.1 + v.1, u.2 :: v.2)
      | none => none
    else (vaO f q r).map fun v => (1 + v.1, bl32 c :: v.2) := rfl
theorem va_fast {q : Nat} : ∀ (f : Nat) (r : List Nat), r.length < f → spN (· != q) r < r.length → (∀ c ∈ r.take (spN (· != q) r), c ≠ 60 ∧ c ≠ 38) → vaO f q r = some (spN (· != q) r + 1, (r.take (spN (· != q) r)).map bl32)
  | 0, r, h, _, _ => by omega
  | f + 1, [], _, h, _ => by
    have : (0 : Nat) < 0 := h
    omega
  | f + 1, c :: r, hf, hl, hn => by
    rw [vaO_cons]
    have e : spN (· != q) (c :: r) = if (c != q) = true then spN (· != q) r + 1 else 0 := rfl
    by_cases hc : c = q
    · have : (c != q) = false := by simp [hc]
      rw [e, this, if_neg Bool.false_ne_true, if_pos hc]
      rfl
    · have : (c != q) = true := by simp [hc]
      rw [e, this, if_pos rfl] at hl hn ⊢
      rw [List.take_succ_cons] at hn ⊢
      obtain ⟨h1, h2⟩ := hn c List.mem_cons_self
      rw [if_neg hc, if_neg h1, if_neg h2, va_fast f r (by rw [List.length_cons] at hf; omega) (by rw [List.length_cons] at hl; omega) fun d hd => hn d (List.mem_cons_of_mem _ hd)]
      show some (1 + (spN (· != q) r + 1), _) = _
      rw [show 1 + (spN (· != q) r + 1) = spN (· != q) r + 1 + 1 by omega]
      rfl
theorem va_le {q : Nat} : ∀ {f : Nat} {r : List Nat} {n : Nat} {t : List Nat}, vaO f q r = some (n, t) → 1 ≤ n ∧ n ≤ r.length ∧ t.length ≤ n
  | 0, r, n, t, h => by cases h
  | f + 1, [], n, t, h => by cases h
  | f + 1, c :: r, n, t, h => by
    rw [vaO_cons] at h
    split at h
    · have := Option.some.inj h
      obtain ⟨rfl, rfl⟩ : 1 = n ∧ [] = t := ⟨congrArg (fun x : Nat × List Nat => x.1) this, congrArg (fun x : Nat × List Nat => x.2) this⟩
      exact ⟨Nat.le_refl _, Nat.succ_le_succ (Nat.zero_le _), Nat.zero_le _⟩
    · split at h
      · cases h
      · split at h
        · cases e : rfO (c :: r) with
          | none => rw [e] at h; cases h
          | some u =>
            rw [e] at h
            dsimp only at h
            cases e2 : vaO f q ((c :: r).drop u.1) with
            | none => rw [e2] at h; cases h
            | some v =>
              rw [e2] at h
              have := Option.some.inj h
              obtain ⟨rfl, rfl⟩ : u.1 + v.1 = n ∧ u.2 :: v.2 = t := ⟨congrArg (fun x : Nat × List Nat => x.1) this, congrArg (fun x : Nat × List Nat => x.2) this⟩
              obtain ⟨h1, h2, h3⟩ := va_le (n := v.1) (t := v.2) e2
              obtain ⟨g1, g2, g3⟩ := rfO_le (n := u.1) (c := u.2) e
              rw [List.length_drop] at h2
              exact ⟨by omega, by omega, by rw [List.length_cons]; omega⟩
        · cases e2 : vaO f q r with
          | none => rw [e2] at h; cases h
          | some v =>
            rw [e2] at h
            have := Option.some.inj h
            obtain ⟨rfl, rfl⟩ : 1 + v.1 = n ∧ bl32 c :: v.2 = t := ⟨congrArg (fun x : Nat × List Nat => x.1) this, congrArg (fun x : Nat × List Nat => x.2) this⟩
            obtain ⟨h1, h2, h3⟩ := va_le (n := v.1) (t := v.2) e2
            exact ⟨by omega, by rw [List.length_cons]; omega, by rw [List.length_cons]; omega⟩
def atO (r : List Nat) : Option (Nat × List Nat) :=
  match r.drop (spN isBl r) with
  | 61 :: r2 => match r2.drop (spN isBl r2) with
    | q :: r3 => if q = 34 ∨ q = 39 then (vaO (r3.length + 1) q r3).map fun u => (spN isBl r + 1 + spN isBl r2 + 1 + u.1, u.2) else none
    | [] => none
  | _ => none
def txV (o : Option (Nat × List Nat)) : Option (Nat × V) := o.map fun u => (u.1, .str (mkS u.2))
theorem txV_of {o : Option (Nat × List Nat)} {n : Nat} {y : V} (h : txV o = some (n, y)) : ∃ t, o = some (n, t) ∧ y = .str (mkS t) := by
  cases o with
  | none => cases h
  | some q =>
    have := Option.some.inj h
    obtain ⟨rfl, rfl⟩ : q.1 = n ∧ V.str (mkS q.2) = y := ⟨congrArg Prod.fst this, congrArg Prod.snd this⟩
    exact ⟨q.2, rfl, rfl⟩
theorem atO_sp {r : List Nat} {n : Nat} {t : List Nat} (h : atO r = some (n, t)) : ∃ r2 q r3 m, r.drop (spN isBl r) = 61 :: r2 ∧ r2.drop (spN isBl r2) = q :: r3 ∧ (q = 34 ∨ q = 39) ∧ vaO (r3.length + 1) q r3 = some (m, t) ∧ spN isBl r + 1 + spN isBl r2 + 1 + m = n := by
  unfold atO at h
  split at h
  · rename_i r2 e1
    split at h
    · rename_i q r3 e2
      split at h
      · rename_i hq
        cases e : vaO (r3.length + 1) q r3 with
        | none => rw [e] at h; cases h
        | some u =>
          rw [e] at h
          have := Option.some.inj h
          obtain ⟨h1, rfl⟩ : spN isBl r + 1 + spN isBl r2 + 1 + u.1 = n ∧ u.2 = t := ⟨congrArg (fun x : Nat × List Nat => x.1) this, congrArg (fun x : Nat × List Nat => x.2) this⟩
          exact ⟨r2, q, r3, u.1, e1, e2, hq, e, h1⟩
      · cases h
    · cases h
  · cases h
end PX
/-! DXg -/
namespace PX
open PySem PySem.Spec PyProof.Rows L2 TL PySem.StrLaws
def sgV (a : List Nat) : List V := a.map fun c => V.str (mkS [c])
theorem sgV_app (a : List Nat) (c : Nat) : sgV (a ++ [c]) = sgV a ++ [.str (mkS [c])] := List.map_append
theorem cat_mk (a b : List Nat) : mkS a ++ mkS b = mkS (a ++ b) := SX.S_cat a b
theorem glued_flat : ∀ ps : List (List Nat), Txt.join (Str.ofString "") (ps.map mkS) = mkS ps.flatten := by
  intro ps
  show Builtin.Str.glued _ _ = _
  rw [StrLaws.glued_eq_join]
  have key : ∀ ps : List (List Nat), Str.join (mkS []) (ps.map mkS) = mkS ps.flatten := by
    intro ps
    induction ps with
    | nil => rfl
    | cons a ps ih =>
      cases ps with
      | nil =>
        show mkS a = mkS (a ++ [])
        rw [List.append_nil]
      | cons b r =>
        show mkS a ++ mkS [] ++ Str.join (mkS []) ((b :: r).map mkS) = _
        rw [ih, cat_mk, cat_mk, List.append_nil]
        rfl
  exact key ps
theorem join_sg (a : List Nat) : Txt.join (Str.ofString "") (a.map fun c => mkS [c]) = mkS a := by
  have h := glued_flat (a.map fun c => [c])
  rw [List.map_map] at h
  have e : (a.map fun c => [c]).flatten = a := by
    rw [← List.flatMap_def]
    exact List.flatMap_singleton' a
  rw [e] at h
  exact h
theorem sum_sg (a : List Nat) : ((a.map fun c => mkS [c]).map (·.length)).sum = a.length := by
  rw [List.map_map]
  have : ((fun x : Str => x.length) ∘ fun c => mkS [c]) = fun _ : Nat => 1 := funext fun c => mkS_len [c]
  rw [this, List.map_const', List.sum_replicate_nat, Nat.mul_one]
section
variable {P : Program} {w : World} {K : PySem.W.Frag} {mg : Str → Option Value} {base : Heap}
theorem ok_read_attribute_text (T : Tx w K mg) : Ok P w K mg base CX0 6 (He.fAd K d_Scanner_read_attribute_text.at_) p_Scanner_read_attribute_text (spSc K [] fun r => txV (atO r)) := by
  obtain ⟨fd, F⟩ := f_Scanner_read_attribute_text T
  obtain ⟨fP, GP, bP, kP⟩ := ok_peek (P := P) (base := base) T
  obtain ⟨fX, GX, bX, kX⟩ := ok_expect (P := P) (base := base) T
  obtain ⟨fB, GB, bB, kB⟩ := ok_read_blanks (P := P) (base := base) T
  obtain ⟨fO, GO, bO, kO⟩ := ok_read_one_of (P := P) (base := base) T
  obtain ⟨fR, GR, bR, kR⟩ := ok_read_reference (P := P) (base := base) T
  obtain ⟨fI, GI, bI, kI⟩ := ok_is_blank (P := P) (base := base) T
  have NB := none_booked T
  refine ⟨fd, ?_, b_Scanner_read_attribute_text F, F.kp⟩
  refine okT F sc_Scanner_read_attribute_text (by decide +kernel) (by decide) (fun vs H Q E h => ?_) (fun cdv A outer s H vs Q E hr h => ?_)
  · obtain ⟨p, dx, z, i, n, y, rfl, _⟩ := h
    rfl
  · obtain ⟨p, dx, z, i, n, y, rfl, hp, g, hi, hf, k⟩ := h
    have nd := sc_Scanner_read_attribute_text.nd
    refine ⟨_, psst_nox (psst_cut (PST.of (ps_if ((pt_val (pe_bm PySem.F.plainAttrs_str PySem.F.slot_str_startswith PySem.F.type_str_startswith mt_startswith3 (pe_fld (pv 0) rfl) (pa_cons (pe_str) (pa_cons (pe_fld (pv 0) rfl) pa_nil))))) (pss_one (ps_fldaug (pv 0) pe_int ip_add)) (pss_cons (ps_expr (pe_meth0 (E := E0) (pv 0) (cls_Scanner T) (m_Scanner_read_blanks T) GB (hr.mono (by omega)) bB .nil pass0)) (pss_cons (ps_expr (pe_meth (E := E0) (pv 0) (cls_Scanner T) (m_Scanner_expect T) GX (hr.mono (by omega)) bX .nil pass0 (pa_cons (pe_str) pa_nil))) (pss_one (ps_expr (pe_meth0 (E := E0) (pv 0) (cls_Scanner T) (m_Scanner_read_blanks T) GB (hr.mono (by omega)) bB .nil pass0)))))))
      (psst_cons (PST.of (ps_set (i := 1) nd rfl (.inl rfl) (pe_meth (E := E0) (pv 0) (cls_Scanner T) (m_Scanner_read_one_of T) GO (hr.mono (by omega)) bO .nil pass0 (pa_cons (pe_tup (pa_cons (pe_str) (pa_cons (pe_str) pa_nil))) pa_nil))))
      (psst_cons (PST.of (ps_set (i := 2) nd rfl (.inl rfl) (pe_bm PySem.F.plainAttrs_str PySem.F.slot_str_find PySem.F.type_str_find mt_find3 (pe_fld (pv 0) rfl) (pa_cons (pv 1) (pa_cons (pe_fld (pv 0) rfl) pa_nil)))))
      (psst_cons (PST.of (ps_set (i := 3) nd rfl (.inl rfl) (pe_slice sl_str (pe_fld (pv 0) rfl) (po_some (pe_fld (pv 0) rfl)) (po_some (pv 2)))))
      (psst_cut (CwR.pst_if (pw_and (pt_cmpR op_ge (pv 2) (pe_int) (nomark _)) (pw_and (pt_cmpR op_notIn_sign pe_str (pv 3) (by rfl)) (pw_and1 (pt_cmpR op_notIn_sign pe_str (pv 3) (by rfl))))).pt
          (psst_cons (PST.of (ps_fld (pv 0) (pe_op op_add (pv 2) pe_int) rfl)) (psst_cons (CwR.pst_ret (CwR.pet_replT (CwR.pet_replC (pv 3)))) (PSsT.of pss_nil))) (PSsT.of pss_nil))
      (PSsT.of (pss_cons (ps_set (i := 4) nd rfl (.inl rfl) (pe_lst pa_nil)) (pss_cons (ps_while PassesOwn.never (pt_cmpR op_ne (pe_meth0 (E := E0) (pv 0) (cls_Scanner T) (m_Scanner_peek T) GP (hr.mono (by omega)) bP .nil pass0) (pv 1) (nomark _)) (pss_cons (ps_set (i := 5) nd rfl (.inl rfl) (pe_meth0 (E := E0) (pv 0) (cls_Scanner T) (m_Scanner_peek T) GP (hr.mono (by omega)) bP .nil pass0)) (pss_cons ((ps_if ((pt_cmpR op_in_seq (pv 5) (pe_tup (pa_cons (pe_str) (pa_cons (pe_str) pa_nil))) (by rfl))) pss_no pss_nil)) (pss_one ((ps_if ((pt_cmpR op_eq (pv 5) (pe_str) (nomark _))) (pss_one (ps_expr (pe_bm PySem.F.plainAttrs_list PySem.F.slot_list_append PySem.F.type_list_append mt_append (pv 4) (pa_cons (pe_meth0 (E := E0) (pv 0) (cls_Scanner T) (m_Scanner_read_reference T) GR (hr.mono (by omega)) bR .nil pass0) pa_nil)))) (pss_cons (ps_expr (pe_bm PySem.F.plainAttrs_list PySem.F.slot_list_append PySem.F.type_list_append mt_append (pv 4) (pa_cons (pe_ifExp (pt_val (pe_call (E := E0) GI (hr.mono (by omega)) (by rfl) (g_is_blank T) kI bI .nil pass0 (pa_cons (pv 5) pa_nil))) pe_str (pv 5)) pa_nil))) (pss_one (ps_fldaug (pv 0) pe_int ip_add))))))))) (pss_cons (ps_fldaug (pv 0) pe_int ip_add) (pss_one ((ps_ret (pe_join pe_str (pv 4)))))))))))))), ?_⟩
    obtain ⟨t, hno, rfl⟩ := txV_of hf
    obtain ⟨r2, q, r3, m, h61, hqr, hq, hva, hn⟩ := atO_sp hno
    have hlen : z.length = (tl z).length := len_tl z
    have hd : ∀ n, (tl z).drop (i + n) = ((tl z).drop i).drop n := fun n => drop_add
    have d1 : (tl z).drop (i + spN isBl ((tl z).drop i)) = 61 :: r2 := by rw [hd, h61]
    have d2 := drop_cons d1
    have d3 : (tl z).drop (i + spN isBl ((tl z).drop i) + 1 + spN isBl r2) = q :: r3 := by rw [drop_add, d2.2, hqr]
    have d4 := drop_cons d3
    clear hf hno hd
    obtain ⟨j, hj⟩ : ∃ j, j = i + spN isBl ((tl z).drop i) + 1 + spN isBl r2 := ⟨_, rfl⟩
    rw [← hj] at d3 d4
    have hnj : j + 1 + m = i + n := by omega
    refine ⟨fun σ H1 => σ = [some (.ref p), none, none, none, none, none] ∧ ScM K H H1 p dx z j, ?_, ?_⟩
    · refine ⟨_, rfl, p, CSc K, dx, _, _, rfl, hp, cls_Scanner T, na_Scanner_text T, sc_text, rfl, _, rfl, p, CSc K, dx, _, _, rfl, hp, cls_Scanner T, na_Scanner_at T, sc_at, _, _, _, rfl, rfl, ?_⟩
      rw [starts3 _ _ _ hi]
      refine ⟨_, rfl, ?_⟩
      refine ite2 (fun c => ?_) (fun c => ?_)
      · have c2 : ((tl z).drop i).take 2 = [61, 34] := of_decide_eq_true c
        obtain ⟨r9, h9⟩ : ∃ r9, (tl z).drop i = 61 :: 34 :: r9 := by
          match hh : (tl z).drop i with
          | [] => rw [hh] at c2; cases c2
          | [a] => rw [hh] at c2; cases c2
          | a :: b :: r =>
            rw [hh] at c2
            obtain ⟨rfl, c3⟩ := List.cons.inj c2
            obtain ⟨rfl, _⟩ := List.cons.inj c3
            exact ⟨r, rfl⟩
        have b0 : spN isBl ((tl z).drop i) = 0 := by rw [h9]; rfl
        rw [b0, List.drop_zero, h9] at h61
        have e2 := (List.cons.inj h61).2
        have b1 : spN isBl r2 = 0 := by rw [← e2]; rfl
        have hj2 : j = i + 1 := by omega
        refine ⟨_, rfl, p, CSc K, dx, _, _, rfl, hp, cls_Scanner T, na_Scanner_at T, sc_at, _, _, rfl, rfl, dx, _, hp, (by show 3 < 1000; decide), ?_⟩
        rw [sc_put (j := i + 1) (by show (i : Int) + 1 = ((i + 1 : Nat) : Int); omega), hj2]
        exact ⟨rfl, (ScM.refl hp).up⟩
      · refine ⟨_, rfl, p, dx, _, rfl, hp, sc_no (by decide +kernel) (by decide +kernel) (by decide +kernel), p, dx, z, i, _, _, rfl, hp, g, hi, rfl, fun H1 m1 hi1 => ?_⟩
        have ex : exO [61] ((tl z).drop (i + spN isBl ((tl z).drop i))) = some (1, .non) := by rw [d1]; rfl
        refine ⟨_, rfl, p, dx, _, rfl, m1.2, sc_no (by decide +kernel) (by decide +kernel) (by decide +kernel), [61], by decide, p, dx, z, _, 1, _, rfl, m1.2, g, hi1, ex, fun H2 m2 hi2 => ?_⟩
        have m12 := m1.trans m2
        refine ⟨_, rfl, p, dx, _, rfl, m2.2, sc_no (by decide +kernel) (by decide +kernel) (by decide +kernel), p, dx, z, _, spN isBl r2, _, rfl, m2.2, g, hi2, (by rw [d2.2]; rfl), fun H3 m3 hi3 => ?_⟩
        have m13 := m12.trans m3
        rw [← hj] at m13
        exact ⟨rfl, m13⟩
    rintro σ H1 ⟨rfl, m1⟩
    clear d1 d2 h61 hqr hj
    have hjl : j ≤ z.length := by omega
    refine ⟨_, rfl, p, dx, _, rfl, m1.2, sc_no (by decide +kernel) (by decide +kernel) (by decide +kernel), (by decide), fun tq htq => ?_⟩
    have m2 := m1.more (same_new htq (o := .tup [.str (Str.ofString "\""), .str (Str.ofString "'")]))
    have hone : oneV ((["\"", "'"] : List Str).map tl) ((tl z).drop j) = some (1, .str (mkS [q])) := by
      rw [d3]
      rcases hq with rfl | rfl
      · rfl
      · rfl
    refine ⟨tq, ["\"", "'"], .inr upd_same, by decide, p, dx, z, j, 1, _, rfl, m2.2, g, hjl, hone, fun H3 m3 hj3 => ?_⟩
    have m13 := m2.trans m3
    have ef := fd_one z (j + 1) q hj3
    rw [d4.2] at ef
    refine ⟨_, rfl, p, CSc K, dx, _, _, rfl, m13.2, cls_Scanner T, na_Scanner_text T, sc_text, rfl, _, rfl, _, rfl, p, CSc K, dx, _, _, rfl, m13.2, cls_Scanner T, na_Scanner_at T, sc_at, z, mkS [q], ((j + 1 : Nat) : Int), rfl, rfl, ?_⟩
    have ef' : Txt.find3 z (mkS [q]) ((j + 1 : Nat) : Int) = if spN (· != q) r3 < r3.length then ((j + 1 + spN (· != q) r3 : Nat) : Int) else -1 := ef
    rw [ef']
    have hr3 : r3.length = z.length - (j + 1) := by rw [← d4.2, List.length_drop, hlen]
    have hb3 := spN_le (· != q) r3
    refine ⟨_, rfl, p, CSc K, dx, _, _, rfl, m13.2, cls_Scanner T, na_Scanner_text T, sc_text, _, rfl, p, CSc K, dx, _, _, rfl, m13.2, cls_Scanner T, na_Scanner_at T, sc_at, _, rfl, _, rfl, _, rfl, z, rfl, g.line, ?_⟩
    refine ⟨fun σ H4 => (∃ v2 v3, σ = [some (.ref p), some (.str (mkS [q])), v2, v3, none, none]) ∧ ScM K H H4 p dx z (j + 1), ?_, ?_⟩
    · refine ⟨_, rfl, _, _, rfl, rfl, _, rfl, ?_⟩
      by_cases hk : spN (· != q) r3 < r3.length
      · rw [if_pos hk]
        refine iteT ?_ (decide_eq_true (by omega))
        rw [cutN, d4.2]
        have hm60 : ∀ c : Nat, decide (c ∈ (mkS (r3.take (spN (· != q) r3))).cps.toList) = decide (c ∈ r3.take (spN (· != q) r3)) := fun _ => rfl
        refine ⟨_, rfl, 60, _, rfl, rfl, _, rfl, ?_⟩
        rw [hm60]
        refine ite2 (fun c1 => ?_) (fun c1 => ?_)
        · refine ⟨_, rfl, 38, _, rfl, rfl, _, rfl, ?_⟩
          rw [hm60]
          refine ite2 (fun c2 => ?_) (fun c2 => ?_)
          · have n60 : 60 ∉ r3.take (spN (· != q) r3) := by simpa using c1
            have n38 : 38 ∉ r3.take (spN (· != q) r3) := by simpa using c2
            have hfast := va_fast (r3.length + 1) r3 (by omega) hk fun c hc => ⟨fun e => n60 (e ▸ hc), fun e => n38 (e ▸ hc)⟩
            rw [hva] at hfast
            have hh := Option.some.inj hfast
            have e1 : m = spN (· != q) r3 + 1 := congrArg (fun x : Nat × List Nat => x.1) hh
            have e2 : t = (r3.take (spN (· != q) r3)).map bl32 := congrArg (fun x : Nat × List Nat => x.2) hh
            refine ⟨_, rfl, _, _, rfl, rfl, _, rfl, p, CSc K, dx, _, rfl, m13.2, cls_Scanner T, na_Scanner_at T, (by show 3 < 1000; decide), ?_⟩
            rw [sc_put (j := i + n) (by omega)]
            have hln : (r3.take (spN (· != q) r3)).length ≤ 400000 := by
              have := g.len
              rw [List.length_take]
              omega
            have e9 : Txt.replace (mkS (r3.take (spN (· != q) r3))) (Str.ofString "\t") (Str.ofString " ") = mkS ((r3.take (spN (· != q) r3)).flatMap fun d => if d = 9 then [32] else [d]) := repl_sg _ 9 _
            have l9 : ((r3.take (spN (· != q) r3)).flatMap fun d => if d = 9 then [32] else [d]).length ≤ 400000 := by
              rw [List.length_flatMap]
              have : (r3.take (spN (· != q) r3)).map (fun a => (if a = 9 then [32] else [a]).length) = (r3.take (spN (· != q) r3)).map fun _ => 1 := List.map_congr_left fun a _ => by split <;> rfl
              rw [this, List.map_const', List.sum_replicate_nat, Nat.mul_one]
              exact hln
            refine ⟨_, rfl, _, rfl, (by rw [mkS_len]; show _ + (_ + 1) * 1 ≤ _; omega), _, rfl, ?_, ?_⟩
            · rw [e9, mkS_len]
              show _ + (_ + 1) * 1 ≤ _
              omega
            · have e10 : Txt.replace (Txt.replace (mkS (r3.take (spN (· != q) r3))) (Str.ofString "\t") (Str.ofString " ")) (Str.ofString "\n") (Str.ofString " ") = mkS t := by
                rw [e9]
                have := repl_sg ((r3.take (spN (· != q) r3)).flatMap fun d => if d = 9 then [32] else [d]) 10 (Str.ofString " ")
                have h2 : Str.ofString "\n" = ⟨#[10]⟩ := rfl
                rw [h2, this, e2]
                congr 1
                exact bl_both _
              show Q (.str (Txt.replace _ _ _)) _
              rw [e10]
              exact k _ m13.up (by omega)
          · exact ⟨⟨_, _, rfl⟩, m13⟩
        · refine iteF ?_
          exact ⟨⟨_, _, rfl⟩, m13⟩
      · rw [if_neg hk]
        refine iteF ?_
        refine iteF ?_
        exact ⟨⟨_, _, rfl⟩, m13⟩
    rintro σ H4 ⟨⟨v2, v3, rfl⟩, m4⟩
    refine ⟨by decide, fun L hL => ?_⟩
    have hLp : L ≠ p := fun e => m4.2.ne (e ▸ hL)
    have hL0 : H L = none := m4.free hp hL
    have m5 : ScM K H (upd H4 L (.lst [])) p dx z (j + 1) := m4.more (same_new hL)
    have hL5 : upd H4 L (.lst []) L = some (.lst (sgV [])) := upd_same
    have put : ∀ {H9 : Hp} {j9 : Nat} {o : HO}, ScM K H H9 p dx z j9 → ScM K H (upd H9 L o) p dx z j9 := fun {H9 j9 o} m9 => ⟨fun b u hb hh => by rw [upd_ne (ne_of_none hh hL0)]; exact m9.1 b u hb hh, by show upd H9 L o p = _; rw [upd_ne hLp.symm]; exact m9.2⟩
    generalize upd H4 L (.lst []) = H5 at m5 hL5 ⊢
    refine while_x (fun mm σ H6 => ∃ (j' f m' : Nat) (acc t' : List Nat) (v5 : Option V), mm = f ∧ σ = [some (.ref p), some (.str (mkS [q])), v2, v3, some (.ref L), v5] ∧ ScM K H H6 p dx z j' ∧ j' ≤ z.length ∧ H6 L = some (.lst (sgV acc)) ∧ vaO f q ((tl z).drop j') = some (m', t') ∧ acc ++ t' = t ∧ j' + m' = i + n ∧ acc.length ≤ j')
      (fun σ H6 => ∃ (j' : Nat) (r9 : List Nat) (v5 : Option V), σ = [some (.ref p), some (.str (mkS [q])), v2, v3, some (.ref L), v5] ∧ ScM K H H6 p dx z j' ∧ (tl z).drop j' = q :: r9 ∧ H6 L = some (.lst (sgV t)) ∧ j' + 1 = i + n ∧ t.length ≤ j')
      ⟨_, j + 1, r3.length + 1, m, [], t, none, rfl, rfl, m5, hj3, hL5, (by rw [d4.2]; exact hva), rfl, hnj, Nat.zero_le _⟩ ?_ ?_
    · rintro σ H6 ⟨j', r9, v5, rfl, m6, h9, hL6, hend, htl⟩
      have hd9 := drop_cons h9
      have hjl' : j' ≤ z.length := by omega
      have gl := g.len
      refine ⟨_, rfl, p, CSc K, dx, _, _, rfl, m6.2, cls_Scanner T, na_Scanner_at T, sc_at, _, _, rfl, rfl, dx, _, m6.2, (by show 3 < 1000; decide), ?_⟩
      rw [sc_put (j := j' + 1) (by show (j' : Int) + 1 = ((j' + 1 : Nat) : Int); omega)]
      have m7 : ScM K H _ p dx z (j' + 1) := m6.up
      rw [hend] at m7 ⊢
      refine ⟨⟨_, rfl⟩, _, rfl, _, L, t.map fun c => mkS [c], rfl, rfl, .inl (SqL.of (by rw [upd_ne hLp, hL6]; unfold sgV; rw [List.map_map]; rfl)), ?_, ?_⟩
      · have e0 : (Str.ofString "").length = 0 := rfl
        rw [e0, sum_sg]
        omega
      · rw [join_sg]
        exact k _ m7 (by omega)
    · rintro - mm σ H6 R ⟨j', f, m', acc, t', v5, rfl, rfl, m6, hj', hL6, hv, hat, hend, hal⟩ hfin hbody
      have gl := g.len
      refine ⟨_, rfl, p, dx, _, rfl, m6.2, sc_no (by decide +kernel) (by decide +kernel) (by decide +kernel), p, dx, z, _, rfl, m6.2, g, _, rfl, rfl, _, rfl, ?_⟩
      show R (!decide (V.str (sg ((tl z).drop j')) = V.str (mkS [q]))) H6
      rw [sg_is]
      cases mm with
      | zero => cases hv
      | succ f =>
        cases hl : (tl z).drop j' with
        | nil => rw [hl] at hv; cases hv
        | cons c r =>
          have hdc := drop_cons hl
          rw [hl, vaO_cons] at hv
          by_cases hc : c = q
          · rw [if_pos hc] at hv
            have hh := Option.some.inj hv
            have e1 : 1 = m' := congrArg (fun x : Nat × List Nat => x.1) hh
            have e2 : [] = t' := congrArg (fun x : Nat × List Nat => x.2) hh
            have : hP (· == q) (c :: r) = true := beq_iff_eq.mpr hc
            rw [this]
            rw [← e2, List.append_nil] at hat
            rw [hat] at hL6 hal
            exact hfin _ ⟨j', r, v5, rfl, m6, by rw [hl, hc], hL6, by omega, hal⟩
          · have : hP (· == q) (c :: r) = false := beq_eq_false_iff_ne.mpr hc
            rw [this]
            rw [if_neg hc] at hv
            refine hbody _ ?_
            have hc60 : ¬ c = 60 := fun e => by
              rw [if_pos e] at hv
              cases hv
            rw [if_neg hc60] at hv
            refine ⟨_, rfl, p, dx, _, rfl, m6.2, sc_no (by decide +kernel) (by decide +kernel) (by decide +kernel), p, dx, z, _, rfl, m6.2, g, ?_⟩
            rw [hl]
            refine ⟨_, rfl, (by decide), fun tq2 htq2 => ⟨tq2, _, rfl, .inr (SqT.of upd_same), rfl, rfl, ?_⟩⟩
            rw [if_neg Bool.false_ne_true]
            have m7 := m6.more (same_new htq2 (o := .tup [.str (Str.ofString ""), .str (Str.ofString "<")]))
            have hL7 : upd H6 tq2 (.tup [.str (Str.ofString ""), .str (Str.ofString "<")]) L = some (.lst (sgV acc)) := same_new htq2 _ _ hL6
            generalize upd H6 tq2 (.tup [.str (Str.ofString ""), .str (Str.ofString "<")]) = H7 at m7 hL7 ⊢
            refine ⟨_, rfl, ?_⟩
            have ein : inV (.str (sg (c :: r))) [.str (Str.ofString ""), .str (Str.ofString "<")] = false := by
              show (eqV (.str (Str.ofString "")) (.str (sg (c :: r))) || (eqV (.str (Str.ofString "<")) (.str (sg (c :: r))) || false)) = false
              rw [eqV_str, eqV_str, sg_cons]
              show (decide (([] : List Nat) = [c]) || (decide ([60] = [c]) || false)) = false
              rw [dec1, beq_eq_false_iff_ne.mpr hc60]
              rfl
            rw [ein]
            refine iteF ?_
            refine ⟨_, rfl, rfl, _, rfl, ?_⟩
            rw [sg_lit _ (c := 38)]
            have hsz : (sgV acc).length < sizeLine := by unfold sgV; rw [List.length_map, sizeLine_eq]; omega
            by_cases h38 : c = 38
            · have : hP (· == 38) (c :: r) = true := beq_iff_eq.mpr h38
              rw [this]
              rw [if_pos h38] at hv
              refine iteT ?_
              cases e : rfO (c :: r) with
              | none => rw [e] at hv; cases hv
              | some u =>
                rw [e] at hv
                dsimp only at hv
                cases e2 : vaO f q ((c :: r).drop u.1) with
                | none => rw [e2] at hv; cases hv
                | some v =>
                  rw [e2] at hv
                  have hh := Option.some.inj hv
                  have e3 : u.1 + v.1 = m' := congrArg (fun x : Nat × List Nat => x.1) hh
                  have e4 : u.2 :: v.2 = t' := congrArg (fun x : Nat × List Nat => x.2) hh
                  have hrf : rcV (rfO ((tl z).drop j')) = some (u.1, .str (mkS [u.2])) := by
                    rw [hl, e]
                    rfl
                  obtain ⟨g1, g2, g3⟩ := rfO_le (n := u.1) (c := u.2) e
                  refine ⟨_, rfl, .inl ⟨rfl, _, SqL.of hL7⟩, _, rfl, p, dx, _, rfl, m7.2, sc_no (by decide +kernel) (by decide +kernel) (by decide +kernel), p, dx, z, j', u.1, _, rfl, m7.2, g, hj', hrf, fun H8 m8 hj8 => ?_⟩
                  have hL8 := m8.1 _ _ hLp hL7
                  refine ⟨L, sgV acc, _, rfl, rfl, hL8, hsz, ?_⟩
                  have m9 := put (o := .lst (sgV acc ++ [.str (mkS [u.2])])) (m7.trans m8)
                  refine ⟨f, by omega, j' + u.1, f, v.1, acc ++ [u.2], v.2, _, rfl, rfl, m9, hj8, by rw [upd_same, sgV_app], ?_, ?_, by omega, by rw [List.length_append, List.length_singleton]; omega⟩
                  · rw [drop_add, hl]
                    exact e2
                  · rw [List.append_assoc, ← hat, ← e4]
                    rfl
            · have : hP (· == 38) (c :: r) = false := beq_eq_false_iff_ne.mpr h38
              rw [this]
              rw [if_neg h38] at hv
              refine iteF ?_
              cases e2 : vaO f q r with
              | none => rw [e2] at hv; cases hv
              | some v =>
                rw [e2] at hv
                have hh := Option.some.inj hv
                have e3 : 1 + v.1 = m' := congrArg (fun x : Nat × List Nat => x.1) hh
                have e4 : bl32 c :: v.2 = t' := congrArg (fun x : Nat × List Nat => x.2) hh
                refine ⟨_, rfl, .inl ⟨rfl, _, SqL.of hL7⟩, _, rfl, c :: r, rfl, fun H8 s8 => ⟨_, rfl, ?_⟩⟩
                have m8 := m7.more s8
                have hL8 := s8 _ _ hL7
                have step : ∀ (x : Str), x = mkS [bl32 c] → ∃ m'', m'' < f + 1 ∧ ∃ (j'' f' m' : Nat) (acc' t' : List Nat) (v5 : Option V), m'' = f' ∧ [some (V.ref p), some (.str (mkS [q])), v2, v3, some (.ref L), some (.str (sg (c :: r)))] = [some (V.ref p), some (.str (mkS [q])), v2, v3, some (.ref L), v5] ∧
                    ScM K H (upd (upd H8 L (.lst (sgV acc ++ [.str x]))) p (.ins (CSc K) dx (scF z (j' + 1)))) p dx z j'' ∧ j'' ≤ z.length ∧ (upd (upd H8 L (.lst (sgV acc ++ [.str x]))) p (.ins (CSc K) dx (scF z (j' + 1)))) L = some (.lst (sgV acc')) ∧ vaO f' q ((tl z).drop j'') = some (m', t') ∧ acc' ++ t' = t ∧ j'' + m' = i + n ∧ acc'.length ≤ j'' := by
                  rintro x rfl
                  refine ⟨f, by omega, j' + 1, f, v.1, acc ++ [bl32 c], v.2, _, rfl, rfl, (put m8).up, by omega, ?_, ?_, ?_, by omega, by rw [List.length_append, List.length_singleton]; omega⟩
                  · rw [upd_ne hLp, upd_same, sgV_app]
                  · rw [hdc.2]
                    exact e2
                  · rw [List.append_assoc, ← hat, ← e4]
                    rfl
                have pt1 : ((j' : Int) + 1) = ((j' + 1 : Nat) : Int) := by omega
                rw [hB_hP]
                show if isBl c = true then _ else _
                cases hbl : isBl c with
                | true =>
                  refine iteT ?_
                  refine ⟨L, sgV acc, .str (Str.ofString " "), rfl, rfl, hL8, hsz, ?_⟩
                  have m9 := put (o := .lst (sgV acc ++ [.str (Str.ofString " ")])) m8
                  refine ⟨_, rfl, p, CSc K, dx, _, _, rfl, m9.2, cls_Scanner T, na_Scanner_at T, sc_at, _, _, rfl, rfl, dx, _, m9.2, (by show 3 < 1000; decide), ?_⟩
                  rw [sc_put (j := j' + 1) (by show (j' : Int) + 1 = ((j' + 1 : Nat) : Int); omega)]
                  have := step (Str.ofString " ") (by unfold bl32; rw [hbl]; rfl)
                  exact this
                | false =>
                  refine iteF ?_
                  refine ⟨_, rfl, L, sgV acc, .str (sg (c :: r)), rfl, rfl, hL8, hsz, ?_⟩
                  have m9 := put (o := .lst (sgV acc ++ [.str (sg (c :: r))])) m8
                  refine ⟨_, rfl, p, CSc K, dx, _, _, rfl, m9.2, cls_Scanner T, na_Scanner_at T, sc_at, _, _, rfl, rfl, dx, _, m9.2, (by show 3 < 1000; decide), ?_⟩
                  rw [sc_put (j := j' + 1) (by show (j' : Int) + 1 = ((j' + 1 : Nat) : Int); omega)]
                  have := step (sg (c :: r)) (by unfold bl32; rw [hbl]; rfl)
                  exact this
end
end PX
/-! DXh -/
namespace PX
open PySem PySem.Spec PyProof.Rows L2 TL
/-! ### nodes -/
abbrev CNd (K : PySem.W.Frag) : Addr := He.ga K "Node"
section
variable {w : World} {K : PySem.W.Frag} {mg : Str → Option Value}
theorem scl_N (T : Tx w K mg) : SlX.SCls K (CNd K) := by
  have h := x_scl_Node T
  unfold sclB at h
  simp only [Bool.and_eq_true, decide_eq_true_eq] at h
  exact ⟨h.1, h.2.1, h.2.2.1, h.2.2.2⟩
theorem slt_of {f : Str} {i : Nat} (h : slotB K "Node" f i = true) (hi : i < 1000) : SlX.Slot1 K (CNd K) f (He.ma K (CNd K) f) i := by
  unfold slotB at h
  simp only [Bool.and_eq_true, decide_eq_true_eq] at h
  exact ⟨h.1, h.2.1, h.2.2.1, h.2.2.2.1, h.2.2.2.2, hi⟩
theorem slt_attributes (T : Tx w K mg) : SlX.Slot1 K (CNd K) "attributes" (He.ma K (CNd K) "attributes") 0 := slt_of (x_sl_Node_attributes T) (by decide)
theorem slt_children (T : Tx w K mg) : SlX.Slot1 K (CNd K) "children" (He.ma K (CNd K) "children") 1 := slt_of (x_sl_Node_children T) (by decide)
theorem slt_end (T : Tx w K mg) : SlX.Slot1 K (CNd K) "end" (He.ma K (CNd K) "end") 2 := slt_of (x_sl_Node_end T) (by decide)
theorem slt_kind (T : Tx w K mg) : SlX.Slot1 K (CNd K) "kind" (He.ma K (CNd K) "kind") 3 := slt_of (x_sl_Node_kind T) (by decide)
theorem slt_name (T : Tx w K mg) : SlX.Slot1 K (CNd K) "name" (He.ma K (CNd K) "name") 4 := slt_of (x_sl_Node_name T) (by decide)
theorem slt_order (T : Tx w K mg) : SlX.Slot1 K (CNd K) "order" (He.ma K (CNd K) "order") 5 := slt_of (x_sl_Node_order T) (by decide)
theorem slt_parent (T : Tx w K mg) : SlX.Slot1 K (CNd K) "parent" (He.ma K (CNd K) "parent") 6 := slt_of (x_sl_Node_parent T) (by decide)
theorem slt_part (T : Tx w K mg) : SlX.Slot1 K (CNd K) "part" (He.ma K (CNd K) "part") 7 := slt_of (x_sl_Node_part T) (by decide)
theorem slt_text (T : Tx w K mg) : SlX.Slot1 K (CNd K) "text" (He.ma K (CNd K) "text") 8 := slt_of (x_sl_Node_text T) (by decide)
theorem slt_tree (T : Tx w K mg) : SlX.Slot1 K (CNd K) "tree" (He.ma K (CNd K) "tree") 9 := slt_of (x_sl_Node_tree T) (by decide)
end
/-- what a node's variables hold -/
structure NR where
  A : Addr
  C : Addr
  en : V
  kind : V
  nm : V
  ord : V
  par : V
  part : V
  tx : V
  tr : V
def NR.vs (r : NR) : List (Option V) := [some (.ref r.A), some (.ref r.C), some r.en, some r.kind, some r.nm, some r.ord, some r.par, some r.part, some r.tx, some r.tr]
def newR (A C : Addr) (kind nm tx : V) : NR := ⟨A, C, .int 0, kind, nm, .int 0, .non, .non, tx, .non⟩
/-- the node at a: dx its dict -/
def NdA (K : PySem.W.Frag) (H : Hp) (a dx : Addr) (r : NR) : Prop := H a = some (SlX.SlO a (CNd K) dx r.vs) ∧ H dx = some (.xd [])
theorem NdA.slt {K : PySem.W.Frag} {H : Hp} {a dx : Addr} {r : NR} (h : NdA K H a dx r) : SlX.Slt H a (CNd K) dx r.vs := .inr h
theorem NdA.keep {K : PySem.W.Frag} {H H' : Hp} {a dx : Addr} {r : NR} (h : NdA K H a dx r) (s : Same H H') : NdA K H' a dx r := ⟨s _ _ h.1, s _ _ h.2⟩
theorem NdA.ne {K : PySem.W.Frag} {H : Hp} {a dx : Addr} {r : NR} (h : NdA K H a dx r) : dx ≠ a := fun e => by
  have h1 := h.1
  rw [← e, h.2] at h1
  exact SlX.slO_not (Option.some.inj h1).symm
theorem NdA.nl {K : PySem.W.Frag} {H : Hp} {a dx L : Addr} {r : NR} {xs : List V} (h : NdA K H a dx r) (hL : H L = some (.lst xs)) : L ≠ a ∧ L ≠ dx := by
  refine ⟨fun e => ?_, fun e => ?_⟩
  · rw [e, h.1] at hL
    unfold SlX.SlO at hL
    cases hL
  · rw [e, h.2] at hL
    cases hL
/-- all but these addresses is as it was -/
def EqX (S : List Addr) (H H' : Hp) : Prop := ∀ b, b ∉ S → H' b = H b
theorem okR {P : Program} {w : World} {K : PySem.W.Frag} {mg : Str → Option Value} {base : Heap} {CX : CXT} {k : Nat} {f : Addr} {fd : FuncData} {ps : List Str} {sp : Sp} (F : FnOk P w K mg base CX k f fd ps sp) (b : Binds K fd ps []) : FnR P w K mg base CX k f sp :=
  (F.raw b .nil).imp fun vs H Q E h => by
    rw [List.append_nil]
    exact h
theorem pS3 (k : V) : SlX.putS 3 k [] = [none, none, none, some k] := rfl
theorem pS4 (k n : V) : SlX.putS 4 n [none, none, none, some k] = [none, none, none, some k, some n] := rfl
theorem pS8 (k n t : V) : SlX.putS 8 t [none, none, none, some k, some n] = [none, none, none, some k, some n, none, none, none, some t] := rfl
theorem pS0 (k n t a : V) : SlX.putS 0 a [none, none, none, some k, some n, none, none, none, some t] = [some a, none, none, some k, some n, none, none, none, some t] := rfl
theorem pS1 (k n t a c : V) : SlX.putS 1 c [some a, none, none, some k, some n, none, none, none, some t] = [some a, some c, none, some k, some n, none, none, none, some t] := rfl
theorem pS6 (k n t a c p : V) : SlX.putS 6 p [some a, some c, none, some k, some n, none, none, none, some t] = [some a, some c, none, some k, some n, none, some p, none, some t] := rfl
theorem pS7 (k n t a c p q : V) : SlX.putS 7 q [some a, some c, none, some k, some n, none, some p, none, some t] = [some a, some c, none, some k, some n, none, some p, some q, some t] := rfl
theorem pS5 (k n t a c p q o : V) : SlX.putS 5 o [some a, some c, none, some k, some n, none, some p, some q, some t] = [some a, some c, none, some k, some n, some o, some p, some q, some t] := rfl
theorem pS2 (k n t a c p q o e : V) : SlX.putS 2 e [some a, some c, none, some k, some n, some o, some p, some q, some t] = [some a, some c, some e, some k, some n, some o, some p, some q, some t] := rfl
theorem pS9 (k n t a c p q o e r : V) : SlX.putS 9 r [some a, some c, some e, some k, some n, some o, some p, some q, some t] = [some a, some c, some e, some k, some n, some o, some p, some q, some t, some r] := rfl
section
variable {P : Program} {w : World} {K : PySem.W.Frag} {mg : Str → Option Value} {base : Heap}
def spNdInit (K : PySem.W.Frag) : Sp := fun vs H Q _ => ∃ (a dx : Addr) (k nm tx : V), vs = [.ref a, k, nm, tx] ∧ H a = some (.ins (CNd K) dx []) ∧ dx ≠ a ∧ H dx ≠ none ∧
  ∀ H' A C, H A = none → H C = none → A ≠ C → EqX [a, dx, A, C] H H' → NdA K H' a dx (newR A C k nm tx) → H' A = some (.lst []) → H' C = some (.lst []) → Q .non H'
theorem ok_Node_init (T : Tx w K mg) : Ok P w K mg base CX0 1 (He.fAd K d_Node_init.at_) p_Node_init (spNdInit K) := by
  obtain ⟨fd, F⟩ := f_Node_init T
  refine ⟨fd, ?_, b_Node_init F, F.kp⟩
  refine F.ok sc_Node_init (fun vs H Q E h => ?_) (fun cdv A outer s H vs Q E hr h => ?_)
  · obtain ⟨a, dx, k, nm, tx, rfl, _⟩ := h
    rfl
  · obtain ⟨a, dx, k, nm, tx, rfl, ha, hne, hdx, kk⟩ := h
    refine ⟨_, PSs.nox (pss_cons (SlX.ps_sl (pv 0) (pv 1)) (pss_cons (SlX.ps_sl (pv 0) (pv 2)) (pss_cons (SlX.ps_sl (pv 0) (pv 3)) (pss_cons (SlX.ps_sl (pv 0) (pe_lst pa_nil)) (pss_cons (SlX.ps_sl (pv 0) (pe_lst pa_nil)) (pss_cons (SlX.ps_sl (pv 0) pe_non) (pss_cons (SlX.ps_sl (pv 0) pe_non) (pss_cons (SlX.ps_sl (pv 0) pe_int) (pss_cons (SlX.ps_sl (pv 0) pe_int) (pss_one (SlX.ps_sl (pv 0) pe_non))))))))))), ?_⟩
    have hsl := fun vs => SlX.slH_slt (H := H) (a := a) (C := CNd K) (dx := dx) (vs := vs) hne
    refine ⟨_, rfl, _, rfl, a, CNd K, dx, _, _, 3, rfl, (.inl ⟨ha, rfl⟩), scl_N T, slt_kind T, ?_⟩
    rw [pS3]
    refine ⟨_, rfl, _, rfl, a, CNd K, dx, _, _, 4, rfl, (hsl _), scl_N T, slt_name T, ?_⟩
    rw [pS4]
    rw [SlX.slH_twice hne]
    refine ⟨_, rfl, _, rfl, a, CNd K, dx, _, _, 8, rfl, (hsl _), scl_N T, slt_text T, ?_⟩
    rw [pS8]
    rw [SlX.slH_twice hne]
    refine ⟨by decide, fun A1 h1 => ?_⟩
    have nA : A1 ≠ a ∧ A1 ≠ dx := by
      refine ⟨fun e => ?_, fun e => ?_⟩
      · rw [e] at h1
        unfold SlX.slH at h1
        rw [upd_same] at h1
        cases h1
      · rw [e] at h1
        unfold SlX.slH at h1
        rw [upd_ne hne, upd_same] at h1
        cases h1
    have hA0 : H A1 = none := by
      rw [SlX.slH_ne nA.1 nA.2] at h1
      exact h1
    have mv : ∀ {vs : List (Option V)} {b : Addr} {o : HO}, b ≠ a → b ≠ dx → upd (SlX.slH H a (CNd K) dx vs) b o = SlX.slH (upd H b o) a (CNd K) dx vs := by
      intro vs b o n1 n2
      funext c
      unfold SlX.slH
      by_cases c1 : c = b
      · rw [c1, upd_same, upd_ne n1, upd_ne n2, upd_same]
      · by_cases c2 : c = a
        · rw [c2, upd_ne n1.symm, upd_same, upd_same]
        · by_cases c3 : c = dx
          · rw [c3, upd_ne n2.symm, upd_ne hne, upd_ne hne, upd_same, upd_same]
          · rw [upd_ne c1, upd_ne c2, upd_ne c3, upd_ne c2, upd_ne c3, upd_ne c1]
    rw [mv nA.1 nA.2]
    have hsl2 := fun vs => SlX.slH_slt (H := upd H A1 (.lst [])) (a := a) (C := CNd K) (dx := dx) (vs := vs) hne
    refine ⟨_, rfl, a, CNd K, dx, _, _, 0, rfl, (hsl2 _), scl_N T, slt_attributes T, ?_⟩
    rw [pS0]
    rw [SlX.slH_twice hne]
    refine ⟨by decide, fun C1 h2 => ?_⟩
    have nC : C1 ≠ a ∧ C1 ≠ dx := by
      refine ⟨fun e => ?_, fun e => ?_⟩
      · rw [e] at h2
        unfold SlX.slH at h2
        rw [upd_same] at h2
        cases h2
      · rw [e] at h2
        unfold SlX.slH at h2
        rw [upd_ne hne, upd_same] at h2
        cases h2
    have hC1 : upd H A1 (.lst []) C1 = none := by
      rw [SlX.slH_ne nC.1 nC.2] at h2
      exact h2
    have nCA : C1 ≠ A1 := fun e => by
      rw [e, upd_same] at hC1
      cases hC1
    have hC0 : H C1 = none := by
      rw [upd_ne nCA] at hC1
      exact hC1
    have mv2 : ∀ {vs : List (Option V)} {b : Addr} {o : HO}, b ≠ a → b ≠ dx → upd (SlX.slH (upd H A1 (.lst [])) a (CNd K) dx vs) b o = SlX.slH (upd (upd H A1 (.lst [])) b o) a (CNd K) dx vs := by
      intro vs b o n1 n2
      funext c
      unfold SlX.slH
      by_cases c1 : c = b
      · rw [c1, upd_same, upd_ne n1, upd_ne n2, upd_same]
      · by_cases c2 : c = a
        · rw [c2, upd_ne n1.symm, upd_same, upd_same]
        · by_cases c3 : c = dx
          · rw [c3, upd_ne n2.symm, upd_ne hne, upd_ne hne, upd_same, upd_same]
          · rw [upd_ne c1, upd_ne c2, upd_ne c3, upd_ne c2, upd_ne c3, upd_ne c1]
    rw [mv2 nC.1 nC.2]
    have hsl3 := fun vs => SlX.slH_slt (H := upd (upd H A1 (.lst [])) C1 (.lst [])) (a := a) (C := CNd K) (dx := dx) (vs := vs) hne
    refine ⟨_, rfl, a, CNd K, dx, _, _, 1, rfl, (hsl3 _), scl_N T, slt_children T, ?_⟩
    rw [pS1]
    rw [SlX.slH_twice hne]
    refine ⟨_, rfl, a, CNd K, dx, _, _, 6, rfl, (hsl3 _), scl_N T, slt_parent T, ?_⟩
    rw [pS6]
    rw [SlX.slH_twice hne]
    refine ⟨_, rfl, a, CNd K, dx, _, _, 7, rfl, (hsl3 _), scl_N T, slt_part T, ?_⟩
    rw [pS7]
    rw [SlX.slH_twice hne]
    refine ⟨_, rfl, a, CNd K, dx, _, _, 5, rfl, (hsl3 _), scl_N T, slt_order T, ?_⟩
    rw [pS5]
    rw [SlX.slH_twice hne]
    refine ⟨_, rfl, a, CNd K, dx, _, _, 2, rfl, (hsl3 _), scl_N T, slt_end T, ?_⟩
    rw [pS2]
    rw [SlX.slH_twice hne]
    refine ⟨_, rfl, a, CNd K, dx, _, _, 9, rfl, (hsl3 _), scl_N T, slt_tree T, ?_⟩
    rw [pS9]
    rw [SlX.slH_twice hne]
    refine kk _ A1 C1 hA0 hC0 nCA.symm ?_ ⟨?_, ?_⟩ ?_ ?_
    · intro b hb
      simp only [List.mem_cons, List.not_mem_nil, or_false, not_or] at hb
      obtain ⟨b1, b2, b3, b4⟩ := hb
      rw [SlX.slH_ne b1 b2, upd_ne b4, upd_ne b3]
    · unfold SlX.slH
      rw [upd_same]
      rfl
    · unfold SlX.slH
      rw [upd_ne hne, upd_same]
    · rw [SlX.slH_ne nA.1 nA.2, upd_ne nCA.symm, upd_same]
    · rw [SlX.slH_ne nC.1 nC.2, upd_same]
end
end PX
/-! DXi -/
namespace PX
open PySem PySem.Spec PyProof.Rows L2 TL
/-- a node's store changes it alone -/
theorem NdA.store {K : PySem.W.Frag} {H : Hp} {a dx : Addr} {r : NR} (h : NdA K H a dx r) (vs : List (Option V)) : SlX.slH H a (CNd K) dx vs = upd H a (SlX.SlO a (CNd K) dx vs) := by
  funext b
  unfold SlX.slH
  by_cases c1 : b = a
  · rw [c1, upd_same, upd_same]
  · rw [upd_ne c1, upd_ne c1]
    by_cases c2 : b = dx
    · rw [c2, upd_same, h.2]
    · rw [upd_ne c2]
theorem NdA.up {K : PySem.W.Frag} {H : Hp} {a dx : Addr} {r r' : NR} (h : NdA K H a dx r) : NdA K (upd H a (SlX.SlO a (CNd K) dx r'.vs)) a dx r' := ⟨upd_same, by rw [upd_ne h.ne]; exact h.2⟩
theorem NdA.off {K : PySem.W.Frag} {H : Hp} {a dx b : Addr} {r : NR} {o : HO} (h : NdA K H a dx r) (h1 : b ≠ a) (h2 : b ≠ dx) : NdA K (upd H b o) a dx r := ⟨by rw [upd_ne h1.symm]; exact h.1, by rw [upd_ne h2.symm]; exact h.2⟩
theorem NdA.dn {K : PySem.W.Frag} {H : Hp} {a dx b dy : Addr} {r r2 : NR} (h : NdA K H a dx r) (h2 : NdA K H b dy r2) : b ≠ dx := fun e => by
  have h1 := h2.1
  rw [e, h.2] at h1
  exact SlX.slO_not (Option.some.inj h1).symm
theorem upd_upd2 {H : Hp} {a : Addr} {o o' : HO} : upd (upd H a o) a o' = upd H a o' := by
  funext b
  by_cases h : b = a
  · rw [h, upd_same, upd_same]
  · rw [upd_ne h, upd_ne h, upd_ne h]
section
variable {P : Program} {w : World} {K : PySem.W.Frag} {mg : Str → Option Value} {base : Heap}
def spPutC (K : PySem.W.Frag) : Sp := fun vs H Q _ => ∃ (a1 d1 a2 d2 : Addr) (r1 r2 : NR) (xs : List V), vs = [.ref a1, .ref a2] ∧ NdA K H a1 d1 r1 ∧ NdA K H a2 d2 r2 ∧ a1 ≠ a2 ∧ H r1.C = some (.lst xs) ∧ xs.length ≤ 1000000 ∧
  ∀ H', EqX [a2, r1.C] H H' → NdA K H' a2 d2 { r2 with par := .ref a1, part := .int (xs.length : Int) } → H' r1.C = some (.lst (xs ++ [.ref a2])) → Q .non H'
theorem ok_put_child (T : Tx w K mg) : Ok P w K mg base CX0 1 (He.fAd K d_Node_put_child.at_) p_Node_put_child (spPutC K) := by
  obtain ⟨fd, F⟩ := f_Node_put_child T
  refine ⟨fd, ?_, b_Node_put_child F, F.kp⟩
  refine F.ok sc_Node_put_child (fun vs H Q E h => ?_) (fun cdv A outer s H vs Q E hr h => ?_)
  · obtain ⟨a1, d1, a2, d2, r1, r2, xs, rfl, _⟩ := h
    rfl
  · obtain ⟨a1, d1, a2, d2, r1, r2, xs, rfl, h1, h2, hne, hC, hxl, k⟩ := h
    refine ⟨_, PSs.nox (pss_cons (SlX.ps_sl (pv 1) (pv 0)) (pss_cons (SlX.ps_sl (pv 1) (pe_callB call_len (by rfl) (n_len T) PySem.boot_len (pa_cons (SlX.pe_sl (pv 0)) pa_nil))) (pss_one (ps_expr (pe_bm PySem.F.plainAttrs_list PySem.F.slot_list_append PySem.F.type_list_append mt_append (SlX.pe_sl (pv 0)) (pa_cons (pv 1) pa_nil)))))), ?_⟩
    obtain ⟨c1, c2⟩ := h2.nl hC
    refine ⟨_, rfl, _, rfl, a2, CNd K, d2, _, _, 6, rfl, h2.slt, scl_N T, slt_parent T, ?_⟩
    rw [h2.store, show SlX.putS 6 (.ref a1) r2.vs = ({ r2 with par := .ref a1 } : NR).vs from rfl]
    have g2 := h2.up (r' := { r2 with par := .ref a1 })
    have g1 := h1.off (o := SlX.SlO a2 (CNd K) d2 ({ r2 with par := .ref a1 } : NR).vs) hne.symm (h1.dn h2)
    refine ⟨_, rfl, a1, CNd K, d1, _, _, 1, _, rfl, g1.slt, scl_N T, slt_children T, rfl, ?_⟩
    refine ⟨_, _, rfl, .inl ⟨xs, SqL.of (by rw [upd_ne c1]; exact hC), rfl⟩, ?_⟩
    refine ⟨_, rfl, a2, CNd K, d2, _, _, 7, rfl, g2.slt, scl_N T, slt_part T, ?_⟩
    rw [g2.store, show SlX.putS 7 (.int (xs.length : Int)) ({ r2 with par := .ref a1 } : NR).vs = ({ r2 with par := .ref a1, part := .int (xs.length : Int) } : NR).vs from rfl, upd_upd2]
    have f2 := h2.up (r' := { r2 with par := .ref a1, part := .int (xs.length : Int) })
    have f1 := h1.off (o := SlX.SlO a2 (CNd K) d2 ({ r2 with par := .ref a1, part := .int (xs.length : Int) } : NR).vs) hne.symm (h1.dn h2)
    have fC : upd H a2 (SlX.SlO a2 (CNd K) d2 ({ r2 with par := .ref a1, part := .int (xs.length : Int) } : NR).vs) r1.C = some (.lst xs) := by rw [upd_ne c1]; exact hC
    refine ⟨_, rfl, a1, CNd K, d1, _, _, 1, _, rfl, f1.slt, scl_N T, slt_children T, rfl, .inl ⟨rfl, _, SqL.of fC⟩, ?_⟩
    refine ⟨_, rfl, r1.C, xs, _, rfl, rfl, fC, by rw [sizeLine_eq]; omega, ?_⟩
    refine k _ (fun b hb => ?_) (f2.off c1 c2) upd_same
    simp only [List.mem_cons, List.not_mem_nil, or_false, not_or] at hb
    rw [upd_ne hb.2, upd_ne hb.1]
def spPutA (K : PySem.W.Frag) : Sp := fun vs H Q _ => ∃ (a1 d1 a2 d2 : Addr) (r1 r2 : NR) (xs : List V) (nm : List Nat), vs = [.ref a1, .ref a2] ∧ NdA K H a1 d1 r1 ∧ NdA K H a2 d2 r2 ∧ a1 ≠ a2 ∧ H r1.A = some (.lst xs) ∧ xs.length ≤ 1000000 ∧ r2.nm = .str (mkS nm) ∧ nm.length ≤ 1000000 ∧
  ∀ H', EqX [a2, r1.A] H H' → NdA K H' a2 d2 { r2 with par := .ref a1, part := .str (mkS (64 :: nm)) } → H' r1.A = some (.lst (xs ++ [.ref a2])) → Q .non H'
theorem ok_put_attribute (T : Tx w K mg) : Ok P w K mg base CX0 1 (He.fAd K d_Node_put_attribute.at_) p_Node_put_attribute (spPutA K) := by
  obtain ⟨fd, F⟩ := f_Node_put_attribute T
  refine ⟨fd, ?_, b_Node_put_attribute F, F.kp⟩
  refine F.ok sc_Node_put_attribute (fun vs H Q E h => ?_) (fun cdv A outer s H vs Q E hr h => ?_)
  · obtain ⟨a1, d1, a2, d2, r1, r2, xs, nm, rfl, _⟩ := h
    rfl
  · obtain ⟨a1, d1, a2, d2, r1, r2, xs, nm, rfl, h1, h2, hne, hC, hxl, hnm, hnl, k⟩ := h
    refine ⟨_, PSs.nox (pss_cons (SlX.ps_sl (pv 1) (pv 0)) (pss_cons (SlX.ps_sl (pv 1) (pe_op op_add_str pe_str (SlX.pe_sl (pv 1)))) (pss_one (ps_expr (pe_bm PySem.F.plainAttrs_list PySem.F.slot_list_append PySem.F.type_list_append mt_append (SlX.pe_sl (pv 0)) (pa_cons (pv 1) pa_nil)))))), ?_⟩
    obtain ⟨c1, c2⟩ := h2.nl hC
    refine ⟨_, rfl, _, rfl, a2, CNd K, d2, _, _, 6, rfl, h2.slt, scl_N T, slt_parent T, ?_⟩
    rw [h2.store, show SlX.putS 6 (.ref a1) r2.vs = ({ r2 with par := .ref a1 } : NR).vs from rfl]
    have g2 := h2.up (r' := { r2 with par := .ref a1 })
    refine ⟨_, rfl, a2, CNd K, d2, _, _, 4, r2.nm, rfl, g2.slt, scl_N T, slt_name T, rfl, ?_⟩
    refine ⟨_, mkS nm, rfl, hnm, (by rw [mkS_len, sizeLine_eq]; show 1 + _ ≤ _; omega), ?_⟩
    rw [show Str.ofString "@" ++ mkS nm = mkS (64 :: nm) from cat_mk [64] nm]
    refine ⟨_, rfl, a2, CNd K, d2, _, _, 7, rfl, g2.slt, scl_N T, slt_part T, ?_⟩
    rw [g2.store, show SlX.putS 7 (.str (mkS (64 :: nm))) ({ r2 with par := .ref a1 } : NR).vs = ({ r2 with par := .ref a1, part := .str (mkS (64 :: nm)) } : NR).vs from rfl, upd_upd2]
    have f2 := h2.up (r' := { r2 with par := .ref a1, part := .str (mkS (64 :: nm)) })
    have f1 := h1.off (o := SlX.SlO a2 (CNd K) d2 ({ r2 with par := .ref a1, part := .str (mkS (64 :: nm)) } : NR).vs) hne.symm (h1.dn h2)
    have fC : upd H a2 (SlX.SlO a2 (CNd K) d2 ({ r2 with par := .ref a1, part := .str (mkS (64 :: nm)) } : NR).vs) r1.A = some (.lst xs) := by rw [upd_ne c1]; exact hC
    refine ⟨_, rfl, a1, CNd K, d1, _, _, 0, _, rfl, f1.slt, scl_N T, slt_attributes T, rfl, .inl ⟨rfl, _, SqL.of fC⟩, ?_⟩
    refine ⟨_, rfl, r1.A, xs, _, rfl, rfl, fC, by rw [sizeLine_eq]; omega, ?_⟩
    refine k _ (fun b hb => ?_) (f2.off c1 c2) upd_same
    simp only [List.mem_cons, List.not_mem_nil, or_false, not_or] at hb
    rw [upd_ne hb.2, upd_ne hb.1]
end
end PX
/-! DXj -/
namespace PX
open PySem PySem.Spec PyProof.Rows L2 TL
theorem op_eqNil {X : Cx} (hu : X.A.units < cLine) : OpR X (compareOp .Eq) (fun x y H Q => ∃ a b xs, x = .ref a ∧ y = .ref b ∧ SqL X.K H a xs ∧ SqL X.K H b [] ∧ Q (.bl xs.isEmpty) H) := by
  intro pins s σ H x y v u Q I rx ry h
  obtain ⟨a, b, xs, rfl, rfl, ha, hb, q⟩ := h
  cases rx
  cases ry
  obtain ⟨its, hv, hp, _⟩ := I.list ha
  obtain ⟨its2, hv2, hp2, _⟩ := I.list hb
  have l1 := Vals.length hv
  have l2 := Vals.length hv2
  rw [List.length_nil] at l2
  have fin : EP X pins σ Q (Value.bool xs.isEmpty) s := ⟨.bl xs.isEmpty, H, I, rfl, q⟩
  cases xs with
  | nil =>
    rw [List.length_nil] at l1
    refine SeqAt.RcAt.lists (e := fun _ => true) hp.isList hp2.isList ?_ hu ?_ X.prog X.w X.xe _ ?_
    · rw [List.size_toArray, List.size_toArray, ← l1, ← l2]
    · intro j h1 _
      rw [List.size_toArray, ← l1] at h1
      omega
    · rw [List.size_toArray, ← l1]
      exact fin
  | cons x xs =>
    rw [List.length_cons] at l1
    refine SeqAt.RcAt.lists_lengths hp.isList hp2.isList ?_ hu X.prog X.w X.xe _ fin
    rw [List.size_toArray, List.size_toArray, ← l1, ← l2]
    rfl
theorem op_neNil {X : Cx} (hu : X.A.units < cLine) : OpR X (compareOp .NotEq) (fun x y H Q => ∃ a b xs, x = .ref a ∧ y = .ref b ∧ SqL X.K H a xs ∧ SqL X.K H b [] ∧ Q (.bl (!xs.isEmpty)) H) := by
  intro pins s σ H x y v u Q I rx ry h
  obtain ⟨a, b, xs, rfl, rfl, ha, hb, q⟩ := h
  cases rx
  cases ry
  obtain ⟨its, hv, hp, _⟩ := I.list ha
  obtain ⟨its2, hv2, hp2, _⟩ := I.list hb
  have l1 := Vals.length hv
  have l2 := Vals.length hv2
  rw [List.length_nil] at l2
  have fin : EP X pins σ Q (Value.bool (!xs.isEmpty)) s := ⟨.bl (!xs.isEmpty), H, I, rfl, q⟩
  cases xs with
  | nil =>
    rw [List.length_nil] at l1
    refine SeqAt.RcNeAt.lists (e := fun _ => true) hp.isList hp2.isList ?_ hu ?_ X.prog X.w X.xe _ ?_
    · rw [List.size_toArray, List.size_toArray, ← l1, ← l2]
    · intro j h1 _
      rw [List.size_toArray, ← l1] at h1
      omega
    · rw [List.size_toArray, ← l1]
      exact fin
  | cons x xs =>
    rw [List.length_cons] at l1
    refine SeqAt.RcNeAt.lists_lengths hp.isList hp2.isList ?_ hu X.prog X.w X.xe _ fin
    rw [List.size_toArray, List.size_toArray, ← l1, ← l2]
    rfl
/-! ### trees, plain -/
inductive DN where
  | el (nm : List Nat) (at_ : List (List Nat × List Nat)) (ks : List DN)
  | lf (k : Nat) (nm : Option (List Nat)) (t : List Nat)
def kS : Nat → Str
  | 0 => "text"
  | 1 => "comment"
  | _ => "instruction"
def nmV : Option (List Nat) → V
  | none => .non
  | some n => .str (mkS n)
/-- order, end, tree of a node -/
abbrev Og : Type := Addr → V × V × V
def o0 : Og := fun _ => (.int 0, .int 0, .non)
def mkR (o : Og) (a A C : Addr) (kind nm par part tx : V) : NR := ⟨A, C, (o a).2.1, kind, nm, (o a).1, par, part, tx, (o a).2.2⟩
def refs (l : List Addr) : List V := l.map V.ref
theorem refs_app (l m : List Addr) : refs (l ++ m) = refs l ++ refs m := List.map_append
theorem refs_len (l : List Addr) : (refs l).length = l.length := List.length_map _
section
variable (K : PySem.W.Frag) (o : Og) (F : Hp)
def AttAt (par a : Addr) (q : List Nat × List Nat) : Prop := ∃ dx A C, NdA K F a dx (mkR o a A C (.str "attribute") (.str (mkS q.1)) (.ref par) (.str (mkS (64 :: q.1))) (.str (mkS q.2))) ∧ F A = some (.lst []) ∧ F C = some (.lst [])
def AtsAt (par : Addr) : List Addr → List (List Nat × List Nat) → Prop
  | [], [] => True
  | a :: as, q :: qs => AttAt K o F par a q ∧ AtsAt par as qs
  | _, _ => False
mutual
def NodeAt (par : Addr) (i : Nat) (a : Addr) : DN → List Addr → Prop
  | .lf k nm t, l => l = [a] ∧ ∃ dx A C, NdA K F a dx (mkR o a A C (.str (kS k)) (nmV nm) (.ref par) (.int (i : Int)) (.str (mkS t))) ∧ F A = some (.lst []) ∧ F C = some (.lst [])
  | .el nm at_ ks, l => ∃ dx A C as cs ls, l = a :: (as ++ ls) ∧ NdA K F a dx (mkR o a A C (.str "element") (.str (mkS nm)) (.ref par) (.int (i : Int)) (.str (mkS []))) ∧ F A = some (.lst (refs as)) ∧ F C = some (.lst (refs cs)) ∧ AtsAt K o F a as at_ ∧ KidsAt a 0 cs ks ls
def KidsAt (par : Addr) (i : Nat) : List Addr → List DN → List Addr → Prop
  | cs, [], ls => cs = [] ∧ ls = []
  | cs, d :: ds, ls => ∃ c cs' l ls', cs = c :: cs' ∧ ls = l ++ ls' ∧ NodeAt par i c d l ∧ KidsAt par (i + 1) cs' ds ls'
end
end
theorem AttAt.keep {K : PySem.W.Frag} {o : Og} {F F' : Hp} (s : Same F F') {par a : Addr} {q : List Nat × List Nat} (h : AttAt K o F par a q) : AttAt K o F' par a q := by
  obtain ⟨dx, A, C, h1, h2, h3⟩ := h
  exact ⟨dx, A, C, h1.keep s, s _ _ h2, s _ _ h3⟩
theorem AtsAt.keep {K : PySem.W.Frag} {o : Og} {F F' : Hp} (s : Same F F') {par : Addr} : ∀ {as : List Addr} {qs : List (List Nat × List Nat)}, AtsAt K o F par as qs → AtsAt K o F' par as qs
  | [], [], _ => trivial
  | a :: as, q :: qs, h => ⟨h.1.keep s, AtsAt.keep s h.2⟩
  | [], _ :: _, h => h.elim
  | _ :: _, [], h => h.elim
theorem AtsAt.len {K : PySem.W.Frag} {o : Og} {F : Hp} {par : Addr} : ∀ {as : List Addr} {qs : List (List Nat × List Nat)}, AtsAt K o F par as qs → as.length = qs.length
  | [], [], _ => rfl
  | a :: as, q :: qs, h => congrArg (· + 1) (AtsAt.len h.2)
  | [], _ :: _, h => h.elim
  | _ :: _, [], h => h.elim
theorem AtsAt.app {K : PySem.W.Frag} {o : Og} {F : Hp} {par a : Addr} {q : List Nat × List Nat} (k : AttAt K o F par a q) : ∀ {as : List Addr} {qs : List (List Nat × List Nat)}, AtsAt K o F par as qs → AtsAt K o F par (as ++ [a]) (qs ++ [q])
  | [], [], _ => ⟨k, trivial⟩
  | b :: as, q :: qs, h => ⟨h.1, AtsAt.app k h.2⟩
  | [], _ :: _, h => h.elim
  | _ :: _, [], h => h.elim
theorem AtsAt.some {K : PySem.W.Frag} {o : Og} {F : Hp} {par : Addr} : ∀ {as : List Addr} {qs : List (List Nat × List Nat)}, AtsAt K o F par as qs → ∀ b ∈ as, F b ≠ none
  | [], [], _, b, hb => by cases hb
  | a :: as, q :: qs, h, b, hb => by
    rcases List.mem_cons.mp hb with rfl | hb
    · obtain ⟨dx, A, C, h1, _⟩ := h.1
      rw [h1.1]
      simp
    · exact AtsAt.some h.2 b hb
  | [], _ :: _, h, _, _ => h.elim
  | _ :: _, [], h, _, _ => h.elim
mutual
theorem NodeAt.keep {K : PySem.W.Frag} {o : Og} {F F' : Hp} (s : Same F F') {par : Addr} {i : Nat} {a : Addr} : ∀ {d : DN} {l : List Addr}, NodeAt K o F par i a d l → NodeAt K o F' par i a d l
  | .lf k nm t, l, h => by
    rw [NodeAt] at h ⊢
    obtain ⟨h0, dx, A, C, h1, h2, h3⟩ := h
    exact ⟨h0, dx, A, C, h1.keep s, s _ _ h2, s _ _ h3⟩
  | .el nm at_ ks, l, h => by
    rw [NodeAt] at h ⊢
    obtain ⟨dx, A, C, as, cs, ls, h0, h1, h2, h3, h4, h5⟩ := h
    exact ⟨dx, A, C, as, cs, ls, h0, h1.keep s, s _ _ h2, s _ _ h3, h4.keep s, KidsAt.keep s h5⟩
theorem KidsAt.keep {K : PySem.W.Frag} {o : Og} {F F' : Hp} (s : Same F F') {par : Addr} {i : Nat} : ∀ {cs : List Addr} {ds : List DN} {ls : List Addr}, KidsAt K o F par i cs ds ls → KidsAt K o F' par i cs ds ls
  | cs, [], ls, h => by
    rw [KidsAt] at h ⊢
    exact h
  | cs, d :: ds, ls, h => by
    rw [KidsAt] at h ⊢
    obtain ⟨c, cs', l, ls', h1, h2, h3, h4⟩ := h
    exact ⟨c, cs', l, ls', h1, h2, NodeAt.keep s h3, KidsAt.keep s h4⟩
end
mutual
theorem NodeAt.some {K : PySem.W.Frag} {o : Og} {F : Hp} {par : Addr} {i : Nat} {a : Addr} : ∀ {d : DN} {l : List Addr}, NodeAt K o F par i a d l → ∀ b ∈ l, F b ≠ none
  | .lf k nm t, l, h => by
    rw [NodeAt] at h
    obtain ⟨rfl, dx, A, C, h1, h2, h3⟩ := h
    intro b hb
    rw [List.mem_singleton] at hb
    rw [hb, h1.1]
    simp
  | .el nm at_ ks, l, h => by
    rw [NodeAt] at h
    obtain ⟨dx, A, C, as, cs, ls, rfl, h1, h2, h3, h4, h5⟩ := h
    intro b hb
    rcases List.mem_cons.mp hb with rfl | hb
    · rw [h1.1]
      simp
    · rcases List.mem_append.mp hb with hb | hb
      · exact h4.some b hb
      · exact KidsAt.some h5 b hb
theorem KidsAt.some {K : PySem.W.Frag} {o : Og} {F : Hp} {par : Addr} {i : Nat} : ∀ {cs : List Addr} {ds : List DN} {ls : List Addr}, KidsAt K o F par i cs ds ls → ∀ b ∈ ls, F b ≠ none
  | cs, [], ls, h => by
    rw [KidsAt] at h
    rw [h.2]
    intro b hb
    cases hb
  | cs, d :: ds, ls, h => by
    rw [KidsAt] at h
    obtain ⟨c, cs', l, ls', h1, rfl, h3, h4⟩ := h
    intro b hb
    rcases List.mem_append.mp hb with hb | hb
    · exact NodeAt.some h3 b hb
    · exact KidsAt.some h4 b hb
end
theorem KidsAt.app {K : PySem.W.Frag} {o : Og} {F : Hp} {par c : Addr} {d : DN} {l : List Addr} : ∀ {i : Nat} {cs : List Addr} {ds : List DN} {ls : List Addr}, KidsAt K o F par i cs ds ls → NodeAt K o F par (i + ds.length) c d l → KidsAt K o F par i (cs ++ [c]) (ds ++ [d]) (ls ++ l)
  | i, cs, [], ls, h, k => by
    rw [KidsAt] at h
    obtain ⟨rfl, rfl⟩ := h
    show KidsAt K o F par i [c] [d] ([] ++ l)
    rw [KidsAt]
    refine ⟨c, [], l, [], rfl, by simp, k, ?_⟩
    rw [KidsAt]
    exact ⟨rfl, rfl⟩
  | i, cs, e :: ds, ls, h, k => by
    rw [KidsAt] at h
    obtain ⟨c0, cs', l0, ls', rfl, rfl, h3, h4⟩ := h
    show KidsAt K o F par i (c0 :: (cs' ++ [c])) (e :: (ds ++ [d])) (l0 ++ ls' ++ l)
    rw [KidsAt]
    refine ⟨c0, cs' ++ [c], l0, ls' ++ l, rfl, by rw [List.append_assoc], h3, KidsAt.app h4 ?_⟩
    rw [List.length_cons] at k
    rw [show i + 1 + ds.length = i + (ds.length + 1) by omega]
    exact k
theorem KidsAt.len {K : PySem.W.Frag} {o : Og} {F : Hp} {par : Addr} : ∀ {i : Nat} {cs : List Addr} {ds : List DN} {ls : List Addr}, KidsAt K o F par i cs ds ls → cs.length = ds.length
  | i, cs, [], ls, h => by
    rw [KidsAt] at h
    rw [h.1]
    rfl
  | i, cs, e :: ds, ls, h => by
    rw [KidsAt] at h
    obtain ⟨c0, cs', l0, ls', rfl, rfl, h3, h4⟩ := h
    rw [List.length_cons, List.length_cons, KidsAt.len h4]
/-! ### nodes that are open -/
structure Fr where
  a : Addr
  dx : Addr
  A : Addr
  C : Addr
  nm : List Nat
  at_ : List (List Nat × List Nat)
  ks : List DN
  as : List Addr
  cs : List Addr
  ls : List Addr
def Fr.l (f : Fr) : List Addr := f.a :: (f.as ++ f.ls)
section
variable (K : PySem.W.Frag) (F : Hp)
def FrE (f : Fr) (kind nm par part : V) : Prop := NdA K F f.a f.dx (mkR o0 f.a f.A f.C kind nm par part (.str (mkS []))) ∧ F f.A = some (.lst (refs f.as)) ∧ AtsAt K o0 F f.a f.as f.at_ ∧ KidsAt K o0 F f.a 0 f.cs f.ks f.ls
def StkF : List Fr → Prop
  | [] => False
  | [r] => FrE K F r (.str "root") .non .non .non ∧ r.as = [] ∧ r.at_ = []
  | f :: g :: rest => FrE K F f (.str "element") (.str (mkS f.nm)) (.ref g.a) (.int (g.cs.length : Int)) ∧ StkF (g :: rest)
end
def CsH (H : Hp) : List Fr → List Addr → Prop
  | [], _ => True
  | f :: rest, ex => H f.C = some (.lst (refs (f.cs ++ ex))) ∧ CsH H rest [f.a]
def allL : List Fr → List Addr
  | [] => []
  | f :: rest => allL rest ++ f.l
theorem FrE.keep {K : PySem.W.Frag} {F F' : Hp} (s : Same F F') {f : Fr} {kind nm par part : V} (h : FrE K F f kind nm par part) : FrE K F' f kind nm par part := ⟨h.1.keep s, s _ _ h.2.1, h.2.2.1.keep s, KidsAt.keep s h.2.2.2⟩
theorem StkF.keep {K : PySem.W.Frag} {F F' : Hp} (s : Same F F') : ∀ {stk : List Fr}, StkF K F stk → StkF K F' stk
  | [], h => h
  | [r], h => ⟨h.1.keep s, h.2⟩
  | f :: g :: rest, h => ⟨h.1.keep s, StkF.keep s h.2⟩
theorem FrE.some {K : PySem.W.Frag} {F : Hp} {f : Fr} {kind nm par part : V} (h : FrE K F f kind nm par part) : ∀ b ∈ f.l, F b ≠ none := by
  intro b hb
  rcases List.mem_cons.mp hb with rfl | hb
  · rw [h.1.1]
    simp
  · rcases List.mem_append.mp hb with hb | hb
    · exact h.2.2.1.some b hb
    · exact KidsAt.some h.2.2.2 b hb
theorem StkF.some {K : PySem.W.Frag} {F : Hp} : ∀ {stk : List Fr}, StkF K F stk → ∀ b ∈ allL stk, F b ≠ none
  | [], h, _, _ => h.elim
  | [r], h, b, hb => by
    have : b ∈ [] ++ r.l := hb
    rw [List.nil_append] at this
    exact h.1.some b this
  | f :: g :: rest, h, b, hb => by
    rcases List.mem_append.mp (show b ∈ allL (g :: rest) ++ f.l from hb) with hb | hb
    · exact StkF.some h.2 b hb
    · exact h.1.some b hb
theorem CsH.keep {H H' : Hp} : ∀ {stk : List Fr} {ex : List Addr}, CsH H stk ex → (∀ f ∈ stk, H' f.C = H f.C) → CsH H' stk ex
  | [], _, _, _ => trivial
  | f :: rest, ex, h, k => ⟨by rw [k f List.mem_cons_self]; exact h.1, CsH.keep h.2 fun g hg => k g (List.mem_cons_of_mem _ hg)⟩
theorem CsH.at_ {H : Hp} : ∀ {stk : List Fr} {ex : List Addr}, CsH H stk ex → ∀ f ∈ stk, ∃ xs, H f.C = some (.lst xs)
  | [], _, _, f, hf => by cases hf
  | g :: rest, ex, h, f, hf => by
    rcases List.mem_cons.mp hf with rfl | hf
    · exact ⟨_, h.1⟩
    · exact CsH.at_ h.2 f hf
end PX
/-! DXk -/
namespace PX
open PySem PySem.Spec PyProof.Rows L2 TL
/-! ### a reading of a document -/
abbrev CRd (K : PySem.W.Frag) : Addr := He.ga K "Reader"
def rdF (sc rt here P : Addr) (has : Bool) : List (Str × V) := [("scan", .ref sc), ("root", .ref rt), ("here", .ref here), ("has_outermost", .bl has), ("pieces", .ref P)]
section
variable {sc rt here P x : Addr} {has b : Bool}
theorem rd_scan : (rdF sc rt here P has).lookup ("scan" : Str) = some (.ref sc) := lk_hit
theorem rd_root : (rdF sc rt here P has).lookup ("root" : Str) = some (.ref rt) := (lk_skip (by decide +kernel)).trans lk_hit
theorem rd_here : (rdF sc rt here P has).lookup ("here" : Str) = some (.ref here) := (lk_skip (by decide +kernel)).trans ((lk_skip (by decide +kernel)).trans lk_hit)
theorem rd_has_outermost : (rdF sc rt here P has).lookup ("has_outermost" : Str) = some (.bl has) := (lk_skip (by decide +kernel)).trans ((lk_skip (by decide +kernel)).trans ((lk_skip (by decide +kernel)).trans lk_hit))
theorem rd_pieces : (rdF sc rt here P has).lookup ("pieces" : Str) = some (.ref P) := (lk_skip (by decide +kernel)).trans ((lk_skip (by decide +kernel)).trans ((lk_skip (by decide +kernel)).trans ((lk_skip (by decide +kernel)).trans lk_hit)))
theorem rd_no {m : Str} (h : ∀ f ∈ (["scan", "root", "here", "has_outermost", "pieces"] : List Str), (m == f) = false) : (rdF sc rt here P has).lookup m = none :=
  (lk_skip (h _ (by simp))).trans ((lk_skip (h _ (by simp))).trans ((lk_skip (h _ (by simp))).trans ((lk_skip (h _ (by simp))).trans ((lk_skip (h _ (by simp))).trans rfl))))
theorem rd_put_pieces : putF "pieces" (.ref x) (rdF sc rt here P has) = rdF sc rt here x has := by
  unfold rdF
  rw [put_skip (by decide +kernel), put_skip (by decide +kernel), put_skip (by decide +kernel), put_skip (by decide +kernel), put_hit]
theorem rd_put_here : putF "here" (.ref x) (rdF sc rt here P has) = rdF sc rt x P has := by
  unfold rdF
  rw [put_skip (by decide +kernel), put_skip (by decide +kernel), put_hit]
theorem rd_put_has : putF "has_outermost" (.bl b) (rdF sc rt here P has) = rdF sc rt here P b := by
  unfold rdF
  rw [put_skip (by decide +kernel), put_skip (by decide +kernel), put_skip (by decide +kernel), put_hit]
end
def pcV (pc : List (List Nat)) : List V := pc.map fun t => V.str (mkS t)
def rootOf : List Fr → Addr
  | [] => 0
  | [r] => r.a
  | _ :: g :: rest => rootOf (g :: rest)
def topOf : List Fr → Addr
  | [] => 0
  | f :: _ => f.a
def SameX (S : List Addr) (H H' : Hp) : Prop := ∀ b o, b ∉ S → H b = some o → H' b = some o
/-- the addresses of a reading -/
structure Rd where
  r : Addr
  dxr : Addr
  sc : Addr
  dxs : Addr
  z : Str
  F0 : Hp
structure RdSt (K : PySem.W.Frag) (d : Rd) (F H : Hp) (P : Addr) (M : List Addr) (i : Nat) (has : Bool) (stk : List Fr) (ex : List Addr) (pc : List (List Nat)) : Prop where
  sm : Same F H
  rd : H d.r = some (.ins (CRd K) d.dxr (rdF d.sc (rootOf stk) (topOf stk) P has))
  rf : F d.r = none
  sca : ScA K H d.sc d.dxs d.z i
  sf : F d.sc = none
  pl : H P = some (.lst (pcV pc))
  pf : F P = none
  st : StkF K F stk
  cs : CsH H stk ex
  cf : ∀ f ∈ stk, F f.C = none
  mf : ∀ m ∈ M, F m = none ∧ ∃ xs, H m = some (.lst xs)
  nc : (M ++ P :: stk.map (·.C)).Nodup
  nl : (allL stk).Nodup
  gd : Gd d.z
  il : i ≤ d.z.length
  bd : (allL stk).length + ex.length + pc.length ≤ i + 1
  pb : (pc.map List.length).sum ≤ i
  nf : ∀ b ∈ allL stk, d.F0 b = none
  f0 : Same d.F0 F
theorem f0n {A B : Hp} (s : Same A B) {b : Addr} (h : B b = none) : A b = none := by
  cases e : A b with
  | none => rfl
  | some o =>
    rw [s b o e] at h
    cases h
section
variable {K : PySem.W.Frag} {d : Rd} {F H H' : Hp} {P : Addr} {M : List Addr} {i j : Nat} {has : Bool} {stk : List Fr} {ex : List Addr} {pc : List (List Nat)}
theorem ins_lst {H : Hp} {a b : Addr} {C dx : Addr} {fs : List (Str × V)} {xs : List V} (h : H a = some (.ins C dx fs)) (k : H b = some (.lst xs)) : b ≠ a := fun e => by
  rw [e, h] at k
  cases k
theorem RdSt.rs (h : RdSt K d F H P M i has stk ex pc) : d.r ≠ d.sc := fun e => by
  have h1 := h.rd
  have h2 := h.sca
  rw [e, h2] at h1
  have h3 := Option.some.inj h1
  injection h3 with h4 h5 h6
  unfold scF rdF at h6
  have h7 := congrArg Prod.fst (List.cons.inj h6).1
  exact absurd h7 (by show ¬ (("text" : Str) = "scan"); decide +kernel)
/-- the rest of the heap may change as it will -/
theorem RdSt.keep (h : RdSt K d F H P M i has stk ex pc) (hF : Same F H') (hr : H' d.r = H d.r) (hs : ScA K H' d.sc d.dxs d.z j) (hP : H' P = H P) (hC : ∀ f ∈ stk, H' f.C = H f.C) (hM : ∀ m ∈ M, ∃ xs, H' m = some (.lst xs)) (hij : i ≤ j) (hj : j ≤ d.z.length) : RdSt K d F H' P M j has stk ex pc :=
  ⟨hF, by rw [hr]; exact h.rd, h.rf, hs, h.sf, by rw [hP]; exact h.pl, h.pf, h.st, h.cs.keep hC, h.cf, fun m hm => ⟨(h.mf m hm).1, hM m hm⟩, h.nc, h.nl, h.gd, hj, by have := h.bd; omega, by have := h.pb; omega, h.nf, h.f0⟩
theorem RdSt.scan (h : RdSt K d F H P M i has stk ex pc) (m : ScM K H H' d.sc d.dxs d.z j) (hij : i ≤ j) (hj : j ≤ d.z.length) : RdSt K d F H' P M j has stk ex pc := by
  have at_ : ∀ {b : Addr} {o : HO}, b ≠ d.sc → H b = some o → H' b = H b := fun hb ho => by rw [m.1 _ _ hb ho, ho]
  refine h.keep (fun b o hb => ?_) (at_ h.rs h.rd) m.2 (at_ (ins_lst h.sca h.pl) h.pl) (fun f hf => ?_) (fun x hx => ?_) hij hj
  · exact m.1 b o (fun e => by rw [e, h.sf] at hb; cases hb) (h.sm b o hb)
  · obtain ⟨xs, hxs⟩ := h.cs.at_ f hf
    exact at_ (ins_lst h.sca hxs) hxs
  · obtain ⟨xs, hxs⟩ := (h.mf x hx).2
    exact ⟨xs, by rw [at_ (ins_lst h.sca hxs) hxs]; exact hxs⟩
theorem RdSt.more (h : RdSt K d F H P M i has stk ex pc) (s : Same H H') : RdSt K d F H' P M i has stk ex pc := h.scan (ScM.same h.sca s) (Nat.le_refl _) h.il
theorem RdSt.on (h : RdSt K d F H P M i has stk ex pc) (hij : i = j) : RdSt K d F H P M j has stk ex pc := hij ▸ h
theorem RdSt.Pn (h : RdSt K d F H P M i has stk ex pc) : ∀ f ∈ stk, P ≠ f.C := by
  intro f hf
  have := (List.nodup_append.mp h.nc).2.1
  rw [List.nodup_cons] at this
  exact fun e => this.1 (e ▸ List.mem_map.mpr ⟨f, hf, rfl⟩)
theorem RdSt.Mn (h : RdSt K d F H P M i has stk ex pc) : ∀ m ∈ M, m ≠ P ∧ ∀ f ∈ stk, m ≠ f.C := by
  intro m hm
  have := (List.nodup_append.mp h.nc).2.2 m hm
  exact ⟨fun e => this _ List.mem_cons_self e, fun f hf e => this _ (List.mem_cons_of_mem _ (List.mem_map.mpr ⟨f, hf, rfl⟩)) e⟩
/-- one more piece -/
theorem RdSt.piece {H0 : Hp} (h0 : RdSt K d F H0 P M i has stk ex pc) (m : ScM K H0 H d.sc d.dxs d.z j) {t : List Nat} (hij : i + 1 ≤ j) (hj : j ≤ d.z.length) (ht : t.length + i ≤ j) : RdSt K d F (upd H P (.lst (pcV pc ++ [.str (mkS t)]))) P M j has stk ex (pc ++ [t]) := by
  have h := h0.scan m (by omega) hj
  have at_ : ∀ {b : Addr}, b ≠ P → upd H P (.lst (pcV pc ++ [.str (mkS t)])) b = H b := fun hb => upd_ne hb
  refine ⟨fun b o hb => ?_, by rw [at_ (ins_lst h.rd h.pl).symm]; exact h.rd, h.rf, by show upd _ _ _ _ = _; rw [at_ (ins_lst h.sca h.pl).symm]; exact h.sca, h.sf, by rw [upd_same]; unfold pcV; rw [List.map_append]; rfl, h.pf, h.st, h.cs.keep fun f hf => at_ (h.Pn f hf).symm, h.cf, fun m hm => ⟨(h.mf m hm).1, ?_⟩, h.nc, h.nl, h.gd, hj, ?_, ?_, h.nf, h.f0⟩
  · rw [at_ fun e => by rw [e, h.pf] at hb; cases hb]
    exact h.sm b o hb
  · obtain ⟨xs, hxs⟩ := (h.mf m hm).2
    exact ⟨xs, by rw [at_ (h.Mn m hm).1]; exact hxs⟩
  · have := h0.bd
    rw [List.length_append, List.length_singleton]
    omega
  · have := h0.pb
    rw [List.map_append, List.sum_append]
    show _ + (t.length + 0) ≤ _
    omega
/-- more that stands for good -/
def addF (F H : Hp) (S : List Addr) : Hp := fun b => if b ∈ S then H b else F b
theorem addF_in {F H : Hp} {S : List Addr} {b : Addr} (h : b ∈ S) : addF F H S b = H b := if_pos h
theorem addF_out {F H : Hp} {S : List Addr} {b : Addr} (h : b ∉ S) : addF F H S b = F b := if_neg h
theorem addF_same {F H : Hp} {S : List Addr} (h : ∀ b ∈ S, F b = none) : Same F (addF F H S) := fun b o hb => by
  rw [addF_out fun e => by rw [h b e] at hb; cases hb]
  exact hb
theorem addF_le {F H : Hp} {S : List Addr} (h : Same F H) : Same (addF F H S) H := fun b o hb => by
  by_cases e : b ∈ S
  · rw [addF_in e] at hb
    exact hb
  · rw [addF_out e] at hb
    exact h b o hb
/-- a leaf that stands at the end of the open node's children -/
theorem RdSt.leaf {f : Fr} {rest : List Fr} {a2 d2 A2 C2 : Addr} {k : Nat} {nm : Option (List Nat)} {t : List Nat} (h : RdSt K d F H P M i has (f :: rest) [a2] pc)
    (hn : NdA K H a2 d2 (mkR o0 a2 A2 C2 (.str (kS k)) (nmV nm) (.ref f.a) (.int (f.cs.length : Int)) (.str (mkS t)))) (hA : H A2 = some (.lst [])) (hC : H C2 = some (.lst []))
    (fa : F a2 = none) (fd : F d2 = none) (fA : F A2 = none) (fC : F C2 = none) (nA : ∀ g ∈ f :: rest, A2 ≠ g.C ∧ C2 ≠ g.C) (nP : A2 ≠ P ∧ C2 ≠ P) (nM : ∀ m ∈ M, m ≠ A2 ∧ m ≠ C2) :
    ∃ F' f', Same F F' ∧ (∀ b, F' b ≠ none → F b ≠ none ∨ b = a2 ∨ b = d2 ∨ b = A2 ∨ b = C2) ∧ f' = { f with ks := f.ks ++ [DN.lf k nm t], cs := f.cs ++ [a2], ls := f.ls ++ [a2] } ∧ RdSt K d F' H P M i has (f' :: rest) [] pc := by
  have hS : ∀ b ∈ [a2, d2, A2, C2], F b = none := by
    intro b hb
    simp only [List.mem_cons, List.not_mem_nil, or_false] at hb
    rcases hb with rfl | rfl | rfl | rfl
    · exact fa
    · exact fd
    · exact fA
    · exact fC
  have s1 := addF_same (H := H) hS
  have s2 := addF_le (S := [a2, d2, A2, C2]) h.sm
  have ins_nd : ∀ {b : Addr} {C dx : Addr} {fs : List (Str × V)}, H b = some (.ins C dx fs) → b ∉ [a2, d2, A2, C2] := by
    intro b C dx fs hb hm
    simp only [List.mem_cons, List.not_mem_nil, or_false] at hm
    rcases hm with rfl | rfl | rfl | rfl
    · rw [hn.1] at hb; unfold SlX.SlO at hb; cases hb
    · rw [hn.2] at hb; cases hb
    · rw [hA] at hb; cases hb
    · rw [hC] at hb; cases hb
  have lst_nd : ∀ {b : Addr} {xs : List V}, H b = some (.lst xs) → b ≠ A2 → b ≠ C2 → b ∉ [a2, d2, A2, C2] := by
    intro b xs hb n1 n2 hm
    simp only [List.mem_cons, List.not_mem_nil, or_false] at hm
    rcases hm with rfl | rfl | rfl | rfl
    · rw [hn.1] at hb; unfold SlX.SlO at hb; cases hb
    · rw [hn.2] at hb; cases hb
    · exact n1 rfl
    · exact n2 rfl
  have hnode : NodeAt K o0 (addF F H [a2, d2, A2, C2]) f.a (0 + f.ks.length) a2 (.lf k nm t) [a2] := by
    rw [NodeAt]
    have hl : f.cs.length = f.ks.length := by
      cases rest with
      | nil => exact KidsAt.len h.st.1.2.2.2
      | cons g rest => exact KidsAt.len h.st.1.2.2.2
    rw [hl] at hn
    rw [Nat.zero_add]
    exact ⟨rfl, d2, A2, C2, ⟨by rw [addF_in (by simp)]; exact hn.1, by rw [addF_in (by simp)]; exact hn.2⟩, by rw [addF_in (by simp)]; exact hA, by rw [addF_in (by simp)]; exact hC⟩
  have hna : a2 ∉ allL (f :: rest) := fun hm => h.st.some a2 hm fa
  refine ⟨addF F H [a2, d2, A2, C2], _, s1, fun b hb => ?_, rfl, ?_⟩
  · by_cases e : b ∈ [a2, d2, A2, C2]
    · simp only [List.mem_cons, List.not_mem_nil, or_false] at e
      exact .inr e
    · rw [addF_out e] at hb
      exact .inl hb
  · have hst := h.st.keep s1
    have hal : allL ({ f with ks := f.ks ++ [DN.lf k nm t], cs := f.cs ++ [a2], ls := f.ls ++ [a2] } :: rest) = allL (f :: rest) ++ [a2] := by
      show allL rest ++ (f.a :: (f.as ++ (f.ls ++ [a2]))) = allL rest ++ (f.a :: (f.as ++ f.ls)) ++ [a2]
      simp
    refine ⟨s2, ?_, by rw [addF_out (ins_nd h.rd)]; exact h.rf, h.sca, by rw [addF_out (ins_nd h.sca)]; exact h.sf, h.pl, by rw [addF_out (lst_nd h.pl nP.1.symm nP.2.symm)]; exact h.pf, ?_, ?_, ?_, ?_, h.nc, ?_, h.gd, h.il, ?_, h.pb, ?_, h.f0.trans s1⟩
    · have h1 := h.rd
      cases rest with
      | nil => exact h1
      | cons g rest => exact h1
    · cases rest with
      | nil => exact ⟨⟨hst.1.1, hst.1.2.1, hst.1.2.2.1, KidsAt.app hst.1.2.2.2 hnode⟩, hst.2⟩
      | cons g rest => exact ⟨⟨hst.1.1, hst.1.2.1, hst.1.2.2.1, KidsAt.app hst.1.2.2.2 hnode⟩, hst.2⟩
    · refine ⟨?_, h.cs.2⟩
      show H f.C = some (.lst (refs (f.cs ++ [a2] ++ [])))
      rw [List.append_nil]
      exact h.cs.1
    · intro g hg
      rcases List.mem_cons.mp hg with rfl | hg
      · obtain ⟨xs, hxs⟩ := h.cs.at_ f List.mem_cons_self
        have := nA f List.mem_cons_self
        show addF F H [a2, d2, A2, C2] f.C = none
        rw [addF_out (lst_nd hxs this.1.symm this.2.symm)]
        exact h.cf f List.mem_cons_self
      · obtain ⟨xs, hxs⟩ := h.cs.at_ g (List.mem_cons_of_mem _ hg)
        have := nA g (List.mem_cons_of_mem _ hg)
        rw [addF_out (lst_nd hxs this.1.symm this.2.symm)]
        exact h.cf g (List.mem_cons_of_mem _ hg)
    · intro m hm
      obtain ⟨xs, hxs⟩ := (h.mf m hm).2
      refine ⟨?_, xs, hxs⟩
      rw [addF_out (lst_nd hxs (nM m hm).1 (nM m hm).2)]
      exact (h.mf m hm).1
    · rw [hal, List.nodup_append]
      exact ⟨h.nl, by simp, fun a ha b hb e => by rw [List.mem_singleton] at hb; rw [e, hb] at ha; exact hna ha⟩
    · have := h.bd
      rw [hal, List.length_append]
      exact this
    · intro b hb
      rw [hal] at hb
      rcases List.mem_append.mp hb with hb | hb
      · exact h.nf b hb
      · rw [List.mem_singleton] at hb
        rw [hb]
        exact f0n h.f0 fa
end
end PX
/-! DXl -/
namespace PX
open PySem PySem.Spec PyProof.Rows L2 TL
theorem new_none {H : Hp} {x dx b : Addr} {o1 o2 : HO} (h : upd (upd H dx o1) x o2 b = none) : b ≠ x ∧ b ≠ dx ∧ H b = none := by
  have n1 : b ≠ x := fun e => by
    rw [e, upd_same] at h
    cases h
  rw [upd_ne n1] at h
  have n2 : b ≠ dx := fun e => by
    rw [e, upd_same] at h
    cases h
  rw [upd_ne n2] at h
  exact ⟨n1, n2, h⟩
/-- Node(kind, name, text) -/
theorem mkNode {K : PySem.W.Frag} {H : Hp} {x dx : Addr} {k nm tx : V} {Q : VK} {E : XK} (hx : H x = none) (hdx : H dx = none) (hne : dx ≠ x)
    (kk : ∀ H' A C, Same H H' → H A = none → H C = none → A ≠ C → NdA K H' x dx (newR A C k nm tx) → H' A = some (.lst []) → H' C = some (.lst []) → Q .non H') :
    spNdInit K [.ref x, k, nm, tx] (upd (upd H dx (.own x)) x (.ins (CNd K) dx [])) Q E := by
  refine ⟨x, dx, k, nm, tx, rfl, upd_same, hne, by rw [upd_ne hne, upd_same]; simp, fun H' A C hA hC hAC eqx hn hA' hC' => ?_⟩
  obtain ⟨a1, a2, a3⟩ := new_none hA
  obtain ⟨c1, c2, c3⟩ := new_none hC
  refine kk H' A C (fun b o hb => ?_) a3 c3 hAC hn hA' hC'
  rw [eqx b ?_, upd_ne (ne_of_none hb hx), upd_ne (ne_of_none hb hdx)]
  · exact hb
  · simp only [List.mem_cons, List.not_mem_nil, or_false, not_or]
    exact ⟨ne_of_none hb hx, ne_of_none hb hdx, ne_of_none hb a3, ne_of_none hb c3⟩
/-- one more text -/
def txN (pc : List (List Nat)) : List DN := if pc.flatten = [] then [] else [DN.lf 0 none pc.flatten]
structure FrX (f f' : Fr) (ks : List DN) : Prop where
  a : f'.a = f.a
  dx : f'.dx = f.dx
  A : f'.A = f.A
  C : f'.C = f.C
  nm : f'.nm = f.nm
  at_ : f'.at_ = f.at_
  as : f'.as = f.as
  ks : f'.ks = f.ks ++ ks
def ExtF (F F' H : Hp) : Prop := ∀ b, F' b ≠ none → F b ≠ none ∨ H b = none
theorem ExtF.none {F F' H : Hp} (h : ExtF F F' H) {b : Addr} (h1 : F b = none) (h2 : H b ≠ none) : F' b = none := by
  cases e : F' b with
  | none => rfl
  | some o =>
    rcases h b (by rw [e]; simp) with k | k
    · exact absurd h1 k
    · exact absurd k h2
section
variable {K : PySem.W.Frag} {d : Rd} {F H H' : Hp} {P : Addr} {M : List Addr} {i j : Nat} {has : Bool} {stk : List Fr} {ex : List Addr} {pc : List (List Nat)}
theorem join_tx (pc : List (List Nat)) : Txt.join (Str.ofString "") (pc.map mkS) = mkS pc.flatten := glued_flat pc
/-- a new list of pieces -/
theorem RdSt.newP (h : RdSt K d F H P M i has stk ex pc) {P' : Addr} (hP : H P' = none) : RdSt K d F (upd (upd H P' (.lst [])) d.r (.ins (CRd K) d.dxr (rdF d.sc (rootOf stk) (topOf stk) P' has))) P' M i has stk ex [] := by
  have np : ∀ {b : Addr} {o : HO}, H b = some o → b ≠ P' := fun hb => ne_of_none hb hP
  have at_ : ∀ {b : Addr} {o : HO}, b ≠ d.r → H b = some o → upd (upd H P' (.lst [])) d.r (.ins (CRd K) d.dxr (rdF d.sc (rootOf stk) (topOf stk) P' has)) b = H b := fun hb ho => by rw [upd_ne hb, upd_ne (np ho)]
  have fP : F P' = none := by
    cases e : F P' with
    | none => rfl
    | some o =>
      have := h.sm _ _ e
      rw [hP] at this
      cases this
  refine ⟨fun b o hb => ?_, upd_same, h.rf, ?_, h.sf, by rw [upd_ne (np h.rd).symm, upd_same]; rfl, fP, h.st, h.cs.keep fun f hf => ?_, h.cf, fun m hm => ?_, ?_, h.nl, h.gd, h.il, ?_, Nat.zero_le _, h.nf, h.f0⟩
  · rw [at_ (fun e => by rw [e, h.rf] at hb; cases hb) (h.sm b o hb)]
    exact h.sm b o hb
  · show _ = _
    rw [at_ h.rs.symm h.sca]
    exact h.sca
  · obtain ⟨xs, hxs⟩ := h.cs.at_ f hf
    exact at_ (ins_lst h.rd hxs) hxs
  · obtain ⟨h1, xs, hxs⟩ := h.mf m hm
    exact ⟨h1, xs, by rw [at_ (ins_lst h.rd hxs) hxs]; exact hxs⟩
  · have n1 := h.nc
    rw [List.nodup_append] at n1 ⊢
    obtain ⟨n2, n3, n4⟩ := n1
    rw [List.nodup_cons] at n3 ⊢
    have hM : ∀ m ∈ M, m ≠ P' := fun m hm => by
      obtain ⟨_, xs, hxs⟩ := h.mf m hm
      exact np hxs
    refine ⟨n2, ⟨fun e => ?_, n3.2⟩, fun a ha b hb => ?_⟩
    · obtain ⟨f, hf, e2⟩ := List.mem_map.mp e
      obtain ⟨xs, hxs⟩ := h.cs.at_ f hf
      exact np hxs e2
    · rcases List.mem_cons.mp hb with rfl | hb
      · exact hM a ha
      · exact n4 a ha b (List.mem_cons_of_mem _ hb)
  · have := h.bd
    show _ + _ + 0 ≤ _
    omega
/-- a node that has been put behind the open node's children -/
theorem RdSt.child {f : Fr} {rest : List Fr} {a2 d2 : Addr} {r2 : NR} (h : RdSt K d F H P M i has (f :: rest) [] pc) (hn : NdA K H a2 d2 r2) (fa : F a2 = none) (eqx : EqX [a2, f.C] H H') (hC : H' f.C = some (.lst (refs f.cs ++ [.ref a2]))) (hb : (allL (f :: rest)).length + 1 + pc.length ≤ i + 1) : RdSt K d F H' P M i has (f :: rest) [a2] pc := by
  have na : ∀ {b : Addr} {o : HO}, H b = some o → (∀ vs, o ≠ SlX.SlO a2 (CNd K) d2 vs) → b ≠ a2 := fun hb ho e => by
    rw [e, hn.1] at hb
    exact ho _ (Option.some.inj hb).symm
  have ins_ : ∀ {b C dx : Addr} {fs : List (Str × V)}, H b = some (.ins C dx fs) → H' b = H b := fun hb => eqx _ (by
    simp only [List.mem_cons, List.not_mem_nil, or_false, not_or]
    refine ⟨na hb (fun vs e => by unfold SlX.SlO at e; cases e), (ins_lst hb h.cs.1).symm⟩)
  have lst_ : ∀ {b : Addr} {xs : List V}, H b = some (.lst xs) → b ≠ f.C → H' b = H b := fun hb hn => eqx _ (by
    simp only [List.mem_cons, List.not_mem_nil, or_false, not_or]
    exact ⟨na hb (fun vs e => by unfold SlX.SlO at e; cases e), hn⟩)
  have hnc := (List.nodup_append.mp h.nc).2.1
  rw [List.nodup_cons] at hnc
  have hnc2 : (f.C :: rest.map (·.C)).Nodup := hnc.2
  rw [List.nodup_cons] at hnc2
  refine ⟨fun b o hb => ?_, by rw [ins_ h.rd]; exact h.rd, h.rf, by show _ = _; rw [ins_ h.sca]; exact h.sca, h.sf, by rw [lst_ h.pl (h.Pn f List.mem_cons_self)]; exact h.pl, h.pf, h.st, ⟨?_, h.cs.2.keep fun g hg => ?_⟩, h.cf, fun m hm => ?_, h.nc, h.nl, h.gd, h.il, hb, h.pb, h.nf, h.f0⟩
  · rw [eqx b]
    · exact h.sm b o hb
    · simp only [List.mem_cons, List.not_mem_nil, or_false, not_or]
      refine ⟨fun e => (by rw [e, fa] at hb; cases hb), fun e => (by rw [e, h.cf f List.mem_cons_self] at hb; cases hb)⟩
  · rw [hC, refs_app]
    rfl
  · obtain ⟨xs, hxs⟩ := h.cs.at_ g (List.mem_cons_of_mem _ hg)
    exact lst_ hxs fun e => hnc2.1 (e ▸ List.mem_map.mpr ⟨g, hg, rfl⟩)
  · obtain ⟨h1, xs, hxs⟩ := h.mf m hm
    exact ⟨h1, xs, by rw [lst_ hxs ((h.Mn m hm).2 f List.mem_cons_self)]; exact hxs⟩
theorem RdSt.addM (h : RdSt K d F H P M i has stk ex pc) {A C : Addr} {xs ys : List V} (hA : H A = some (.lst xs)) (hC : H C = some (.lst ys)) (fA : F A = none) (fC : F C = none) (n : A ≠ C) (nA : A ≠ P ∧ (∀ f ∈ stk, A ≠ f.C) ∧ A ∉ M) (nC : C ≠ P ∧ (∀ f ∈ stk, C ≠ f.C) ∧ C ∉ M) : RdSt K d F H P (A :: C :: M) i has stk ex pc := by
  refine ⟨h.sm, h.rd, h.rf, h.sca, h.sf, h.pl, h.pf, h.st, h.cs, h.cf, fun m hm => ?_, ?_, h.nl, h.gd, h.il, h.bd, h.pb, h.nf, h.f0⟩
  · rcases List.mem_cons.mp hm with rfl | hm
    · exact ⟨fA, _, hA⟩
    · rcases List.mem_cons.mp hm with rfl | hm
      · exact ⟨fC, _, hC⟩
      · exact h.mf m hm
  · have key : ∀ {A : Addr}, A ≠ P → (∀ f ∈ stk, A ≠ f.C) → A ∉ M → A ∉ M ++ P :: stk.map (·.C) := by
      intro A h1 h2 h3 hm
      rcases List.mem_append.mp hm with hm | hm
      · exact h3 hm
      · rcases List.mem_cons.mp hm with hm | hm
        · exact h1 hm
        · obtain ⟨f, hf, e⟩ := List.mem_map.mp hm
          exact h2 f hf e.symm
    show (A :: C :: (M ++ P :: stk.map (·.C))).Nodup
    rw [List.nodup_cons, List.nodup_cons]
    refine ⟨fun hm => ?_, key nC.1 nC.2.1 nC.2.2, h.nc⟩
    rcases List.mem_cons.mp hm with hm | hm
    · exact n hm
    · exact key nA.1 nA.2.1 nA.2.2 hm
theorem RdSt.dropM {A C : Addr} (h : RdSt K d F H P (A :: C :: M) i has stk ex pc) : RdSt K d F H P M i has stk ex pc := by
  have n := h.nc
  have n2 : (A :: C :: (M ++ P :: stk.map (·.C))).Nodup := n
  rw [List.nodup_cons, List.nodup_cons] at n2
  exact ⟨h.sm, h.rd, h.rf, h.sca, h.sf, h.pl, h.pf, h.st, h.cs, h.cf, fun m hm => h.mf m (List.mem_cons_of_mem _ (List.mem_cons_of_mem _ hm)), n2.2.2, h.nl, h.gd, h.il, h.bd, h.pb, h.nf, h.f0⟩
theorem RdSt.fresh (h : RdSt K d F H P M i has stk ex pc) {b : Addr} (hb : H b = none) : F b = none ∧ b ≠ P ∧ (∀ f ∈ stk, b ≠ f.C) ∧ b ∉ M := by
  refine ⟨?_, fun e => ?_, fun f hf e => ?_, fun hm => ?_⟩
  · cases e : F b with
    | none => rfl
    | some o =>
      have := h.sm _ _ e
      rw [hb] at this
      cases this
  · rw [e, h.pl] at hb
    cases hb
  · obtain ⟨xs, hxs⟩ := h.cs.at_ f hf
    rw [e, hxs] at hb
    cases hb
  · obtain ⟨_, xs, hxs⟩ := h.mf b hm
    rw [hxs] at hb
    cases hb
/-- a leaf whose lists are held -/
theorem RdSt.leafM {f : Fr} {rest : List Fr} {a2 d2 A2 C2 : Addr} {k : Nat} {nm : Option (List Nat)} {t : List Nat} (h : RdSt K d F H P (A2 :: C2 :: M) i has (f :: rest) [a2] pc)
    (hn : NdA K H a2 d2 (mkR o0 a2 A2 C2 (.str (kS k)) (nmV nm) (.ref f.a) (.int (f.cs.length : Int)) (.str (mkS t)))) (hA : H A2 = some (.lst [])) (hC : H C2 = some (.lst [])) (fa : F a2 = none) (fd : F d2 = none) :
    ∃ F' f', Same F F' ∧ (∀ b, F' b ≠ none → F b ≠ none ∨ b = a2 ∨ b = d2 ∨ b = A2 ∨ b = C2) ∧ f' = { f with ks := f.ks ++ [DN.lf k nm t], cs := f.cs ++ [a2], ls := f.ls ++ [a2] } ∧ RdSt K d F' H P M i has (f' :: rest) [] pc := by
  have hA2 := h.Mn A2 List.mem_cons_self
  have hC2 := h.Mn C2 (List.mem_cons_of_mem _ List.mem_cons_self)
  have n2 : (A2 :: C2 :: (M ++ P :: (f :: rest).map (·.C))).Nodup := h.nc
  rw [List.nodup_cons, List.nodup_cons] at n2
  refine h.dropM.leaf hn hA hC fa fd (h.mf A2 List.mem_cons_self).1 (h.mf C2 (List.mem_cons_of_mem _ List.mem_cons_self)).1 (fun g hg => ⟨hA2.2 g hg, hC2.2 g hg⟩) ⟨hA2.1, hC2.1⟩ fun m hm => ⟨fun e => ?_, fun e => ?_⟩
  · exact n2.1 (List.mem_cons_of_mem _ (e ▸ List.mem_append_left _ hm))
  · exact n2.2.1 (e ▸ List.mem_append_left _ hm)
end
section
variable {P : Program} {w : World} {K : PySem.W.Frag} {mg : Str → Option Value} {base : Heap}
def spPt (K : PySem.W.Frag) : Sp := fun vs H Q _ => ∃ (d : Rd) (F : Hp) (Pl : Addr) (M : List Addr) (i : Nat) (has : Bool) (f : Fr) (rest : List Fr) (pc : List (List Nat)), vs = [.ref d.r] ∧ RdSt K d F H Pl M i has (f :: rest) [] pc ∧ pc ≠ [] ∧
  ∀ F' H' P' f', Same F F' → ExtF F F' H → SameX [d.r, f.C] H H' → FrX f f' (txN pc) → (allL (f' :: rest)).length ≤ (allL (f :: rest)).length + 1 → (∀ b ∈ allL (f' :: rest), b ∈ allL (f :: rest) ∨ F b = none) → RdSt K d F' H' P' M i has (f' :: rest) [] [] → Q .non H'
theorem ok_put_text (T : Tx w K mg) : Ok P w K mg base CX0 3 (He.fAd K d_Reader_put_text.at_) p_Reader_put_text (spPt K) := by
  obtain ⟨fd, F⟩ := f_Reader_put_text T
  obtain ⟨fI, GI, bI, kI⟩ := ok_Node_init (P := P) (base := base) T
  obtain ⟨fP, GP, bP, kP⟩ := ok_put_child (P := P) (base := base) T
  refine ⟨fd, ?_, b_Reader_put_text F, F.kp⟩
  refine F.ok sc_Reader_put_text (fun vs H Q E h => ?_) (fun cdv A outer s H vs Q E hr h => ?_)
  · obtain ⟨d, F, Pl, M, i, has, f, rest, pc, rfl, _⟩ := h
    rfl
  · obtain ⟨d, F, Pl, M, i, has, f, rest, pc, rfl, h, hpc, k⟩ := h
    have nd := sc_Reader_put_text.nd
    refine ⟨_, PSs.nox (pss_cons (ps_set (i := 1) nd rfl (.inl rfl) (pe_join pe_str (pe_fld (pv 0) rfl))) (pss_cons (ps_fld (pv 0) (pe_lst pa_nil) rfl) (pss_one ((ps_if ((pt_cmpR op_ne (pv 1) (pe_str) (nomark _))) (pss_one (ps_expr (SlX.pe_methSl (pe_fld (pv 0) rfl) (scl_N T) (m_Node_put_child T) (okR GP bP) (hr.mono (by decide)) pass0 (pa_cons (pe_make (E := E0) (mk_Node T) GI (hr.mono (by decide)) rfl (g_Node T) bI .nil pass0 (pa_cons (pe_str) (pa_cons (pe_non) (pa_cons (pv 1) pa_nil)))) pa_nil)))) pss_nil))))), ?_⟩
    have hpb := h.pb
    have hgl := h.gd.len
    have hil := h.il
    have hbd := h.bd
    refine ⟨⟨_, rfl⟩, _, rfl, d.r, CRd K, d.dxr, _, _, rfl, h.rd, cls_Reader T, na_Reader_pieces T, rd_pieces, _, Pl, pc.map mkS, rfl, rfl, .inl (SqL.of (by rw [h.pl]; unfold pcV; rw [List.map_map]; rfl)), ?_, ?_⟩
    · have e0 : (Str.ofString "").length = 0 := rfl
      have e1 : ((pc.map mkS).map (·.length)).sum = (pc.map List.length).sum := by
        rw [List.map_map]
        exact congrArg List.sum (List.map_congr_left fun t _ => mkS_len t)
      rw [e0, e1]
      omega
    rw [join_tx]
    refine ⟨by decide, fun P' hP' => ?_⟩
    have hrP := ne_of_none h.rd hP'
    refine ⟨_, rfl, d.r, CRd K, d.dxr, _, rfl, by rw [upd_ne hrP]; exact h.rd, cls_Reader T, na_Reader_pieces T, (by show 5 < 1000; decide), ?_⟩
    rw [rd_put_pieces]
    have h1 := h.newP hP'
    have sx1 : SameX [d.r, f.C] H (upd (upd H P' (.lst [])) d.r (.ins (CRd K) d.dxr (rdF d.sc (rootOf (f :: rest)) (topOf (f :: rest)) P' has))) := fun b o hb ho => by
      rw [upd_ne fun e => hb (by rw [e]; simp), upd_ne (ne_of_none ho hP')]
      exact ho
    generalize hH1 : upd (upd H P' (.lst [])) d.r (.ins (CRd K) d.dxr (rdF d.sc (rootOf (f :: rest)) (topOf (f :: rest)) P' has)) = H1 at h1 sx1 ⊢
    refine ⟨_, rfl, rfl, _, rfl, ?_⟩
    show if (!decide (V.str (mkS pc.flatten) = V.str (Str.ofString ""))) = true then _ else _
    have edec : decide (V.str (mkS pc.flatten) = V.str (Str.ofString "")) = decide (pc.flatten = []) := by
      rw [dec_str, tl_mkS]
      rfl
    rw [edec]
    by_cases hfl : pc.flatten = []
    · refine iteF ?_ (by rw [decide_eq_true hfl]; rfl)
      refine k F H1 P' f (Same.refl _) (fun b hb => .inl hb) sx1 ⟨rfl, rfl, rfl, rfl, rfl, rfl, rfl, ?_⟩ (Nat.le_succ _) (fun b hb => .inl hb) h1
      unfold txN
      rw [if_pos hfl, List.append_nil]
    · refine iteT ?_ (by rw [decide_eq_false hfl]; rfl)
      obtain ⟨fE⟩ : Nonempty (∃ kind nm par part, FrE K F f kind nm par part) := ⟨by
        cases rest with
        | nil => exact ⟨_, _, _, _, h1.st.1⟩
        | cons g rest => exact ⟨_, _, _, _, h1.st.1⟩⟩
      obtain ⟨kind, nm, par, part, fE⟩ := fE
      have nf := fE.1.keep h1.sm
      refine ⟨_, rfl, d.r, CRd K, d.dxr, _, _, rfl, h1.rd, cls_Reader T, na_Reader_here T, rd_here, ?_⟩
      refine ⟨f.a, f.dx, _, rfl, nf.slt, ?_⟩
      refine ⟨_, rfl, ?_⟩
      intro a2 d2 ha2 hd2 hne2
      refine mkNode ha2 hd2 hne2 fun H2 A2 C2 s2 hA2 hC2 hAC hn2 hA2' hC2' => ⟨rfl, ?_⟩
      have h2 := h1.more s2
      obtain ⟨fa2, _⟩ := h1.fresh ha2
      obtain ⟨fd2, _⟩ := h1.fresh hd2
      obtain ⟨fA2, nA⟩ := h1.fresh hA2
      obtain ⟨fC2, nC⟩ := h1.fresh hC2
      have h2M := h2.addM hA2' hC2' fA2 fC2 hAC nA nC
      have nf2 := nf.keep s2
      have hne : f.a ≠ a2 := ne_of_none nf.1 ha2
      have hcl : f.cs.length ≤ 1000000 := by
        have h5 : f.cs.length ≤ (allL (f :: rest)).length := by
          show _ ≤ (allL rest ++ (f.a :: (f.as ++ f.ls))).length
          have h6 : f.cs.length ≤ f.ls.length := by
            have key : ∀ {ds : List DN} {i : Nat} {cs ls : List Addr}, KidsAt K o0 F f.a i cs ds ls → cs.length ≤ ls.length := by
              intro ds
              induction ds with
              | nil =>
                intro i cs ls hk
                rw [KidsAt] at hk
                rw [hk.1]
                exact Nat.zero_le _
              | cons e ds ih =>
                intro i cs ls hk
                rw [KidsAt] at hk
                obtain ⟨c, cs', l, ls', rfl, rfl, hk1, hk2⟩ := hk
                have := ih hk2
                have h7 : 1 ≤ l.length := by
                  cases e with
                  | lf k nm t => rw [NodeAt] at hk1; rw [hk1.1]; exact Nat.le_refl _
                  | el nm at_ ks =>
                    rw [NodeAt] at hk1
                    obtain ⟨_, _, _, as, _, ls2, rfl, _⟩ := hk1
                    exact Nat.succ_le_succ (Nat.zero_le _)
                rw [List.length_cons, List.length_append]
                omega
            exact key fE.2.2.2
          simp only [List.length_append, List.length_cons]
          omega
        omega
      refine ⟨f.a, f.dx, a2, d2, _, _, refs f.cs, rfl, nf2, hn2, hne, ?_, by rw [refs_len]; exact hcl, fun H3 eqx hn3 hC3 => ?_⟩
      · have := h2.cs.1
        rw [List.append_nil] at this
        exact this
      have hp1 : 1 ≤ pc.length := by
        cases pc with
        | nil => exact absurd rfl hpc
        | cons a pc => exact Nat.succ_le_succ (Nat.zero_le _)
      have h3 := h2M.child hn2 fa2 eqx hC3 (by show _ + 1 + 0 ≤ _; omega)
      have lst3 : ∀ {b : Addr} {xs : List V}, H2 b = some (.lst xs) → b ≠ f.C → H3 b = some (.lst xs) := fun hb hn => by
        rw [eqx _ (by
          simp only [List.mem_cons, List.not_mem_nil, or_false, not_or]
          exact ⟨(hn2.nl hb).1, hn⟩)]
        exact hb
      rw [refs_len] at hn3
      obtain ⟨F', f', sF, eF, ef, h4⟩ := h3.leafM (k := 0) (nm := none) (t := pc.flatten) hn3 (lst3 hA2' (nA.2.1 f List.mem_cons_self)) (lst3 hC2' (nC.2.1 f List.mem_cons_self)) fa2 fd2
      have nH : ∀ {b : Addr}, H1 b = none → H b = none := fun {b} hb => by
        cases e : H b with
        | none => rfl
        | some o =>
          exfalso
          by_cases hbr : b = d.r
          · rw [hbr, h1.rd] at hb
            cases hb
          · rw [← hH1, upd_ne hbr, upd_ne (ne_of_none e hP'), e] at hb
            cases hb
      refine k F' H3 P' f' sF (fun b hb => ?_) (fun b o hb ho => ?_) ?_ ?_ ?_ h4
      · rcases eF b hb with e | rfl | rfl | rfl | rfl
        · exact .inl e
        · exact .inr (nH ha2)
        · exact .inr (nH hd2)
        · exact .inr (nH hA2)
        · exact .inr (nH hC2)
      · have ho1 := sx1 b o hb ho
        have ho2 := s2 _ _ ho1
        rw [eqx b]
        · exact ho2
        · simp only [List.mem_cons, List.not_mem_nil, or_false, not_or] at hb ⊢
          exact ⟨ne_of_none ho1 ha2, hb.2⟩
      · rw [ef]
        refine ⟨rfl, rfl, rfl, rfl, rfl, rfl, rfl, ?_⟩
        unfold txN
        rw [if_neg hfl]
      · rw [ef]
        show (allL rest ++ (f.a :: (f.as ++ (f.ls ++ [a2])))).length ≤ (allL rest ++ (f.a :: (f.as ++ f.ls))).length + 1
        simp only [List.length_append, List.length_cons, List.length_nil]
        omega
      · rw [ef]
        intro b hb
        have e : allL ({ f with ks := f.ks ++ [DN.lf 0 none pc.flatten], cs := f.cs ++ [a2], ls := f.ls ++ [a2] } :: rest) = allL (f :: rest) ++ [a2] := by
          show allL rest ++ (f.a :: (f.as ++ (f.ls ++ [a2]))) = allL rest ++ (f.a :: (f.as ++ f.ls)) ++ [a2]
          simp
        rw [e] at hb
        rcases List.mem_append.mp hb with hb | hb
        · exact .inl hb
        · rw [List.mem_singleton] at hb
          rw [hb]
          exact .inr fa2
end
end PX
/-! DXm -/
namespace PX
open PySem PySem.Spec PyProof.Rows L2 TL
section
variable {P : Program} {w : World} {K : PySem.W.Frag} {mg : Str → Option Value} {base : Heap}
theorem cs_le {K : PySem.W.Frag} {F : Hp} {par : Addr} : ∀ {ds : List DN} {i : Nat} {cs ls : List Addr}, KidsAt K o0 F par i cs ds ls → cs.length ≤ ls.length
  | [], i, cs, ls, hk => by
    rw [KidsAt] at hk
    rw [hk.1]
    exact Nat.zero_le _
  | e :: ds, i, cs, ls, hk => by
    rw [KidsAt] at hk
    obtain ⟨c, cs', l, ls', rfl, rfl, hk1, hk2⟩ := hk
    have := cs_le hk2
    have h7 : 1 ≤ l.length := by
      cases e with
      | lf k nm t => rw [NodeAt] at hk1; rw [hk1.1]; exact Nat.le_refl _
      | el nm at_ ks =>
        rw [NodeAt] at hk1
        obtain ⟨_, _, _, as, _, ls2, rfl, _⟩ := hk1
        exact Nat.succ_le_succ (Nat.zero_le _)
    rw [List.length_cons, List.length_append]
    omega
theorem StkF.top {K : PySem.W.Frag} {F : Hp} {f : Fr} {rest : List Fr} (h : StkF K F (f :: rest)) : ∃ kind nm par part, FrE K F f kind nm par part := by
  cases rest with
  | nil => exact ⟨_, _, _, _, h.1⟩
  | cons g rest => exact ⟨_, _, _, _, h.1⟩
theorem RdSt.csl {K : PySem.W.Frag} {d : Rd} {F H : Hp} {P : Addr} {M : List Addr} {i : Nat} {has : Bool} {f : Fr} {rest : List Fr} {ex : List Addr} {pc : List (List Nat)} (h : RdSt K d F H P M i has (f :: rest) ex pc) : f.cs.length ≤ 1000000 := by
  obtain ⟨kind, nm, par, part, fE⟩ := h.st.top
  have h6 := cs_le fE.2.2.2
  have h5 : f.cs.length ≤ (allL (f :: rest)).length := by
    show _ ≤ (allL rest ++ (f.a :: (f.as ++ f.ls))).length
    simp only [List.length_append, List.length_cons]
    omega
  have := h.bd
  have := h.il
  have := h.gd.len
  omega
def spPu (K : PySem.W.Frag) : Sp := fun vs H Q _ => ∃ (d : Rd) (F : Hp) (Pl : Addr) (M : List Addr) (i : Nat) (has : Bool) (f : Fr) (rest : List Fr) (pc : List (List Nat)) (a2 d2 : Addr) (r2 : NR), vs = [.ref d.r, .ref a2] ∧
  RdSt K d F H Pl (r2.A :: r2.C :: M) i has (f :: rest) [] pc ∧ NdA K H a2 d2 r2 ∧ F a2 = none ∧ F d2 = none ∧ (allL (f :: rest)).length + pc.length + 1 ≤ i + 1 ∧
  ∀ F' H' P' f', Same F F' → ExtF F F' H → SameX [d.r, f.C, a2] H H' → FrX f f' (txN pc) → NdA K H' a2 d2 { r2 with par := .ref f'.a, part := .int (f'.cs.length : Int) } → (allL (f' :: rest)).length ≤ (allL (f :: rest)).length + pc.length → (∀ b ∈ allL (f' :: rest), b ∈ allL (f :: rest) ∨ F b = none) → RdSt K d F' H' P' (r2.A :: r2.C :: M) i has (f' :: rest) [a2] [] → Q .non H'
theorem ok_put (T : Tx w K mg) : Ok P w K mg base CX0 4 (He.fAd K d_Reader_put.at_) p_Reader_put (spPu K) := by
  obtain ⟨fd, F⟩ := f_Reader_put T
  obtain ⟨fP, GP, bP, kP⟩ := ok_put_child (P := P) (base := base) T
  obtain ⟨fX, GX, bX, kX⟩ := ok_put_text (P := P) (base := base) T
  refine ⟨fd, ?_, b_Reader_put F, F.kp⟩
  refine F.ok sc_Reader_put (fun vs H Q E h => ?_) (fun cdv A outer s H vs Q E hr h => ?_)
  · obtain ⟨d, F, Pl, M, i, has, f, rest, pc, a2, d2, r2, rfl, _⟩ := h
    rfl
  · obtain ⟨d, F, Pl, M, i, has, f, rest, pc, a2, d2, r2, rfl, h, hn, fa, fd2, hbd, k⟩ := h
    refine ⟨_, PSs.nox (Evl.pss_cut ((ps_if ((pt_cmpR (op_neNil (Nat.lt_of_le_of_lt (Nat.le_add_right _ 64) hr.units)) (pe_fld (pv 0) rfl) (pe_lst pa_nil) (nomark _))) (pss_one (ps_expr (pe_meth0 (E := E0) (pv 0) (cls_Reader T) (m_Reader_put_text T) GX (hr.mono (by decide)) bX .nil pass0))) pss_nil)) (pss_one (ps_expr (SlX.pe_methSl (pe_fld (pv 0) rfl) (scl_N T) (m_Node_put_child T) (okR GP bP) (hr.mono (by decide)) pass0 (pa_cons (pv 1) pa_nil))))), ?_⟩
    refine ⟨fun σ H1 => σ = [some (.ref d.r), some (.ref a2)] ∧ ∃ F1 P1 f1, Same F F1 ∧ ExtF F F1 H ∧ SameX [d.r, f.C] H H1 ∧ FrX f f1 (txN pc) ∧ (allL (f1 :: rest)).length + 1 ≤ i + 1 ∧ (allL (f1 :: rest)).length ≤ (allL (f :: rest)).length + pc.length ∧ (∀ b ∈ allL (f1 :: rest), b ∈ allL (f :: rest) ∨ F b = none) ∧ RdSt K d F1 H1 P1 (r2.A :: r2.C :: M) i has (f1 :: rest) [] [], ?_, ?_⟩
    · refine ⟨_, rfl, d.r, CRd K, d.dxr, _, _, rfl, h.rd, cls_Reader T, na_Reader_pieces T, rd_pieces, by decide, fun q hq => ?_⟩
      have s1 := same_new hq (o := .lst [])
      have h1 := h.more s1
      refine ⟨Pl, q, pcV pc, rfl, rfl, SqL.of h1.pl, SqL.of upd_same, _, rfl, ?_⟩
      have sx1 : SameX [d.r, f.C] H (upd H q (.lst [])) := fun b o _ ho => s1 b o ho
      cases pc with
      | nil =>
        refine iteF ?_
        exact ⟨rfl, F, Pl, f, Same.refl _, fun b hb => .inl hb, sx1, ⟨rfl, rfl, rfl, rfl, rfl, rfl, rfl, (List.append_nil _).symm⟩, hbd, Nat.le_refl _, fun b hb => .inl hb, h1⟩
      | cons t pc =>
        refine iteT ?_
        refine ⟨_, rfl, d.r, d.dxr, _, rfl, h1.rd, rd_no (by decide +kernel), d, F, Pl, _, i, has, f, rest, _, rfl, h1, by simp, fun F' H' P' f' sF eF sx fx hl hfr h2 => ?_⟩
        refine ⟨rfl, F', P', f', sF, fun b hb => ?_, fun b o hb ho => sx b o hb (sx1 b o hb ho), fx, ?_, ?_, hfr, h2⟩
        · rcases eF b hb with e | e
          · exact .inl e
          · refine .inr ?_
            cases e2 : H b with
            | none => rfl
            | some o =>
              have := s1 b o e2
              rw [e] at this
              cases this
        · rw [List.length_cons] at hbd
          omega
        · rw [List.length_cons]
          omega
    · rintro σ H1 ⟨rfl, F1, P1, f1, sF, eF, sx, fx, hl, hlp, hfr, h1⟩
      have a2r : a2 ≠ d.r := fun e => by
        have := hn.1
        rw [e, h.rd] at this
        unfold SlX.SlO at this
        cases this
      obtain ⟨xs, hxs⟩ := h.cs.at_ f List.mem_cons_self
      have nC := hn.nl hxs
      have d2r : d2 ≠ d.r := fun e => by
        have := hn.2
        rw [e, h.rd] at this
        cases this
      have hn1 : NdA K H1 a2 d2 r2 := ⟨sx _ _ (by simp only [List.mem_cons, List.not_mem_nil, or_false, not_or]; exact ⟨a2r, nC.1.symm⟩) hn.1, sx _ _ (by simp only [List.mem_cons, List.not_mem_nil, or_false, not_or]; exact ⟨d2r, nC.2.symm⟩) hn.2⟩
      have fa1 : F1 a2 = none := eF.none fa (by rw [hn.1]; simp)
      obtain ⟨kind, nm, par, part, fE⟩ := h1.st.top
      have nf := fE.1.keep h1.sm
      have hne : f1.a ≠ a2 := fun e => by
        have := fE.1.1
        rw [e, fa1] at this
        cases this
      have hC := h1.cs.1
      rw [List.append_nil] at hC
      refine ⟨_, rfl, d.r, CRd K, d.dxr, _, _, rfl, h1.rd, cls_Reader T, na_Reader_here T, rd_here, f1.a, f1.dx, _, rfl, nf.slt, _, rfl, f1.a, f1.dx, a2, d2, _, _, refs f1.cs, rfl, nf, hn1, hne, hC, by rw [refs_len]; exact h1.csl, fun H2 eqx hn2 hC2 => ?_⟩
      rw [refs_len] at hn2
      refine k F1 H2 P1 f1 sF eF (fun b o hb ho => ?_) fx hn2 hlp hfr (h1.child hn1 fa1 eqx hC2 (by show _ + 1 + 0 ≤ _; omega))
      simp only [List.mem_cons, List.not_mem_nil, or_false, not_or] at hb
      have ho1 := sx b o (by simp only [List.mem_cons, List.not_mem_nil, or_false, not_or]; exact ⟨hb.1, hb.2.1⟩) ho
      rw [eqx b (by simp only [List.mem_cons, List.not_mem_nil, or_false, not_or]; exact ⟨hb.2.2, by rw [fx.C]; exact hb.2.1⟩)]
      exact ho1
end
end PX
/-! DXn -/
namespace PX
open PySem PySem.Spec PyProof.Rows L2 TL
theorem room_hu {k : Nat} {A : Around} (r : Room k A) : A.units + 1 < cLine := by
  have := r.un
  omega
theorem nmN_le (l : List Nat) : nmN l ≤ l.length := by
  unfold nmN
  have h1 := spN_le isWd l
  have h2 := spN_le isWd (l.drop (spN isWd l + 1))
  rw [List.length_drop] at h2
  split
  · rename_i h
    rw [Bool.and_eq_true] at h
    have : spN isWd l < l.length := by
      cases q : l.drop (spN isWd l) with
      | nil => rw [q] at h; cases h.1
      | cons a b =>
        have := congrArg List.length q
        rw [List.length_drop, List.length_cons] at this
        omega
    omega
  · exact h1
theorem nmO_val {r : List Nat} {n : Nat} {y : V} (h : nmO r = some (n, y)) : y = .str (mkS (r.take n)) ∧ 1 ≤ n ∧ n = nmN r ∧ n ≤ r.length := by
  unfold nmO at h
  have hp : ∀ {b : Bool}, hP isLt r = true → 1 ≤ nmN r := fun h => by
    cases r with
    | nil => cases h
    | cons c r => exact nmN_pos h
  by_cases h1 : hP isLt r = true
  · rw [if_pos h1] at h
    have fin : some (nmN r, V.str (mkS (r.take (nmN r)))) = some (n, y) → _ := fun h => some_pair h
    by_cases h2 : hP (· == 58) (r.drop (spN isWd r)) = true
    · rw [if_pos h2] at h
      by_cases h3 : hP isLt (r.drop (spN isWd r + 1)) = true
      · rw [if_pos h3] at h
        obtain ⟨e1, e2⟩ := some_pair h
        subst e1
        exact ⟨e2.symm, hp (b := true) h1, rfl, nmN_le r⟩
      · rw [if_neg h3] at h
        cases h
    · rw [if_neg h2] at h
      obtain ⟨e1, e2⟩ := some_pair h
      subst e1
      exact ⟨e2.symm, hp (b := true) h1, rfl, nmN_le r⟩
  · rw [if_neg h1] at h
    cases h
def stB (c : Nat) : Bool := c == 47 || c == 62
theorem in_tags (r : List Nat) : inV (.str (sg r)) [.str (Str.ofString "/"), .str (Str.ofString ">")] = hP stB r := by
  show (eqV (.str (Str.ofString "/")) (.str (sg r)) || (eqV (.str (Str.ofString ">")) (.str (sg r)) || false)) = _
  rw [eqV_str, eqV_str, Bool.or_false]
  cases r with
  | nil => rfl
  | cons c r =>
    rw [sg_cons]
    show (decide ([47] = [c]) || decide ([62] = [c])) = stB c
    rw [dec1, dec1]
    rfl
/-- attributes -/
def asO : Nat → List (List Nat) → List Nat → Option (Nat × List (List Nat × List Nat))
  | 0, _, _ => none
  | f + 1, ks, r => if hP stB r then some (0, []) else match nmO r with
    | none => none
    | some (n, _) => if r.take n ∈ ks then none else match atO (r.drop n) with
      | none => none
      | some (m, t) => if hP isBl (r.drop (n + m)) then (asO f (r.take n :: ks) ((r.drop (n + m)).drop (spN isBl (r.drop (n + m))))).map fun u => (n + m + spN isBl (r.drop (n + m)) + u.1, (r.take n, t) :: u.2)
        else some (n + m, [(r.take n, t)])
theorem asO_stop {f : Nat} {ks : List (List Nat)} {r : List Nat} (h : hP stB r = true) : asO (f + 1) ks r = some (0, []) := if_pos h
theorem asO_go {f : Nat} {ks : List (List Nat)} {r : List Nat} {n : Nat} {qs : List (List Nat × List Nat)} (h0 : hP stB r = false) (h : asO (f + 1) ks r = some (n, qs)) :
    ∃ n1 m1 t, nmO r = some (n1, .str (mkS (r.take n1))) ∧ 1 ≤ n1 ∧ n1 ≤ r.length ∧ r.take n1 ∉ ks ∧ atO (r.drop n1) = some (m1, t) ∧
      ((hP isBl (r.drop (n1 + m1)) = false ∧ n = n1 + m1 ∧ qs = [(r.take n1, t)]) ∨
      (hP isBl (r.drop (n1 + m1)) = true ∧ ∃ m2 qs2, asO f (r.take n1 :: ks) ((r.drop (n1 + m1)).drop (spN isBl (r.drop (n1 + m1)))) = some (m2, qs2) ∧ n = n1 + m1 + spN isBl (r.drop (n1 + m1)) + m2 ∧ qs = (r.take n1, t) :: qs2)) := by
  have h : (if hP stB r then some (0, []) else match nmO r with
    | none => none
    | some (n, _) => if r.take n ∈ ks then none else match atO (r.drop n) with
      | none => none
      | some (m, t) => if hP isBl (r.drop (n + m)) then (asO f (r.take n :: ks) ((r.drop (n + m)).drop (spN isBl (r.drop (n + m))))).map fun u => (n + m + spN isBl (r.drop (n + m)) + u.1, (r.take n, t) :: u.2)
        else some (n + m, [(r.take n, t)])) = some (n, qs) := h
  rw [if_neg (by rw [h0]; exact Bool.false_ne_true)] at h
  cases e1 : nmO r with
  | none => rw [e1] at h; cases h
  | some u =>
    obtain ⟨n1, y⟩ := u
    rw [e1] at h
    dsimp only at h
    obtain ⟨hy, h1, _, h2⟩ := nmO_val e1
    by_cases e2 : r.take n1 ∈ ks
    · rw [if_pos e2] at h
      cases h
    · rw [if_neg e2] at h
      cases e3 : atO (r.drop n1) with
      | none => rw [e3] at h; cases h
      | some v =>
        obtain ⟨m1, t⟩ := v
        rw [e3] at h
        dsimp only at h
        refine ⟨n1, m1, t, by rw [hy], h1, h2, e2, e3, ?_⟩
        cases e4 : hP isBl (r.drop (n1 + m1)) with
        | false =>
          rw [e4, if_neg Bool.false_ne_true] at h
          have h5 := Option.some.inj h
          exact .inl ⟨rfl, (congrArg Prod.fst h5).symm, (congrArg Prod.snd h5).symm⟩
        | true =>
          rw [e4, if_pos rfl] at h
          cases e5 : asO f (r.take n1 :: ks) ((r.drop (n1 + m1)).drop (spN isBl (r.drop (n1 + m1)))) with
          | none => rw [e5] at h; cases h
          | some u =>
            rw [e5] at h
            have h5 := Option.some.inj h
            exact .inr ⟨rfl, u.1, u.2, rfl, (congrArg Prod.fst h5).symm, (congrArg Prod.snd h5).symm⟩
theorem SameX.free {S : List Addr} {H H' : Hp} (s : SameX S H H') (h : ∀ b ∈ S, H' b ≠ none) {b : Addr} (hb : H' b = none) : H b = none := by
  by_cases e : b ∈ S
  · exact absurd hb (h b e)
  · cases e2 : H b with
    | none => rfl
    | some o =>
      rw [s b o e e2] at hb
      cases hb
theorem SameX.same {S : List Addr} {H H' : Hp} (s : Same H H') : SameX S H H' := fun b o _ h => s b o h
theorem SameX.trans {S : List Addr} {H H1 H2 : Hp} (a : SameX S H H1) (b : SameX S H1 H2) : SameX S H H2 := fun c o n h => b c o n (a c o n h)
theorem SameX.of {S : List Addr} {p : Addr} {H H1 : Hp} (hp : p ∈ S) (a : SameB p H H1) : SameX S H H1 := fun c o n h => a c o (fun e => n (e ▸ hp)) h
theorem EqX.sx {S : List Addr} {H H' : Hp} (a : EqX S H H') : SameX S H H' := fun c o n h => by rw [a c n]; exact h
section
variable {K : PySem.W.Frag} {d : Rd} {F H H' : Hp} {P : Addr} {M : List Addr} {i j : Nat} {has : Bool} {stk : List Fr} {ex : List Addr} {pc : List (List Nat)}
/-- more stands for good -/
theorem RdSt.grow (h : RdSt K d F H P M i has stk ex pc) {S : List Addr} (hS : ∀ b ∈ S, F b = none) (nr : d.r ∉ S) (ns : d.sc ∉ S) (nP : P ∉ S) (nC : ∀ f ∈ stk, f.C ∉ S) (nM : ∀ m ∈ M, m ∉ S) : RdSt K d (addF F H S) H P M i has stk ex pc :=
  ⟨addF_le h.sm, h.rd, by rw [addF_out nr]; exact h.rf, h.sca, by rw [addF_out ns]; exact h.sf, h.pl, by rw [addF_out nP]; exact h.pf, h.st.keep (addF_same hS), h.cs, fun f hf => by rw [addF_out (nC f hf)]; exact h.cf f hf, fun m hm => ⟨by rw [addF_out (nM m hm)]; exact (h.mf m hm).1, (h.mf m hm).2⟩, h.nc, h.nl, h.gd, h.il, h.bd, h.pb, h.nf, h.f0.trans (addF_same hS)⟩
/-- a new attribute of a node whose list is held -/
theorem RdSt.att (h : RdSt K d F H P M i has stk ex pc) {S : List Addr} {x B : Addr} {H2 H3 : Hp} {ys : List V} (hS : ∀ b ∈ S, H b = none) (hx : x ∈ S) (s2 : Same H H2) (hB : B ∈ M) (eqx : EqX [x, B] H2 H3) (hb3 : H3 B = some (.lst ys)) :
    RdSt K d (addF F H3 S) H3 P M i has stk ex pc ∧ Same F (addF F H3 S) ∧ ExtF F (addF F H3 S) H := by
  have hF : ∀ b ∈ S, F b = none := fun b hb => (h.fresh (hS b hb)).1
  have h2 := h.more s2
  have nB : ∀ {b : Addr} {o : HO}, H b = some o → b ∉ S := fun hb hm => by rw [hS _ hm] at hb; cases hb
  have nx : ∀ {b : Addr} {o : HO}, H b = some o → b ≠ x := fun hb e => nB hb (e ▸ hx)
  obtain ⟨fB, xs, hxs⟩ := h.mf B hB
  have hMn := h.Mn B hB
  have at_ : ∀ {b : Addr} {o : HO}, H b = some o → b ≠ B → H3 b = H2 b := fun hb hn => eqx _ (by simp only [List.mem_cons, List.not_mem_nil, or_false, not_or]; exact ⟨nx hb, hn⟩)
  have h3 : RdSt K d F H3 P M i has stk ex pc := by
    refine h2.keep (fun b o hb => ?_) (at_ h.rd (ins_lst h.rd hxs).symm) ?_ (at_ h.pl hMn.1.symm) (fun f hf => ?_) (fun m hm => ?_) (Nat.le_refl _) h.il
    · rw [at_ (h.sm b o hb) fun e => by rw [e, fB] at hb; cases hb]
      exact s2 _ _ (h.sm b o hb)
    · show _ = _
      rw [at_ h.sca (ins_lst h.sca hxs).symm]
      exact h2.sca
    · obtain ⟨ws, hws⟩ := h.cs.at_ f hf
      exact at_ hws (hMn.2 f hf).symm
    · by_cases e : m = B
      · rw [e]
        exact ⟨_, hb3⟩
      · obtain ⟨_, ws, hws⟩ := h.mf m hm
        exact ⟨ws, by rw [at_ hws e]; exact s2 _ _ hws⟩
  refine ⟨h3.grow hF (nB h.rd) (nB h.sca) (nB h.pl) (fun f hf => ?_) fun m hm => ?_, addF_same hF, fun b hb => ?_⟩
  · obtain ⟨ws, hws⟩ := h.cs.at_ f hf
    exact nB hws
  · obtain ⟨_, ws, hws⟩ := h.mf m hm
    exact nB hws
  · by_cases e : b ∈ S
    · exact .inr (hS b e)
    · rw [addF_out e] at hb
      exact .inl hb
end
section
variable {P : Program} {w : World} {K : PySem.W.Frag} {mg : Str → Option Value} {base : Heap}
def spRA (K : PySem.W.Frag) : Sp := fun vs H Q _ => ∃ (d : Rd) (F : Hp) (Pl : Addr) (M : List Addr) (i : Nat) (has : Bool) (stk : List Fr) (pc : List (List Nat)) (a2 d2 : Addr) (r2 : NR) (f n : Nat) (qs : List (List Nat × List Nat)), vs = [.ref d.r, .ref a2] ∧
  RdSt K d F H Pl (r2.A :: r2.C :: M) i has stk [] pc ∧ NdA K H a2 d2 r2 ∧ F a2 = none ∧ H r2.A = some (.lst []) ∧ asO f [] ((tl d.z).drop i) = some (n, qs) ∧
  ∀ F' H' as, Same F F' → ExtF F F' H → SameX [d.sc, r2.A] H H' → AtsAt K o0 F' a2 as qs → (allL stk ++ as).Nodup → (allL stk ++ as).length + pc.length ≤ i + n + 1 → H' r2.A = some (.lst (refs as)) → (∀ b ∈ as, d.F0 b = none) → RdSt K d F' H' Pl (r2.A :: r2.C :: M) (i + n) has stk [] pc → Q .non H'
theorem ok_read_attributes (T : Tx w K mg) : Ok P w K mg base CX0 7 (He.fAd K d_Reader_read_attributes.at_) p_Reader_read_attributes (spRA K) := by
  obtain ⟨fd, F⟩ := f_Reader_read_attributes T
  obtain ⟨fI, GI, bI, kI⟩ := ok_Node_init (P := P) (base := base) T
  obtain ⟨fP, GP, bP, kP⟩ := ok_put_attribute (P := P) (base := base) T
  obtain ⟨fK, GK, bK, kK⟩ := ok_peek (P := P) (base := base) T
  obtain ⟨fN, GN, bN, kN⟩ := ok_read_name (P := P) (base := base) T
  obtain ⟨fX, GX, bX, kX⟩ := ok_read_attribute_text (P := P) (base := base) T
  obtain ⟨fB, GB, bB, kB⟩ := ok_read_blanks (P := P) (base := base) T
  refine ⟨fd, ?_, b_Reader_read_attributes F, F.kp⟩
  refine F.ok sc_Reader_read_attributes (fun vs H Q E h => ?_) (fun cdv A outer s H vs Q E hr h => ?_)
  · obtain ⟨d, F, Pl, M, i, has, stk, pc, a2, d2, r2, f, n, qs, rfl, _⟩ := h
    rfl
  · obtain ⟨d, F, Pl, M, i, has, stk, pc, a2, d2, r2, f, n, qs, rfl, h, hn, fa, hA0, has0, k⟩ := h
    have nd := sc_Reader_read_attributes.nd
    refine ⟨_, PSs.nox (pss_cons (ps_set (i := 2) nd rfl (.inl rfl) (pe_fld (pv 0) rfl)) (pss_cons (ps_set (i := 3) nd rfl (.inl rfl) pe_dnewK) (pss_one (ps_while PassesOwn.never (pt_cmpR op_notIn_seq (pe_meth0 (E := E0) (pv 2) (cls_Scanner T) (m_Scanner_peek T) GK (hr.mono (by decide)) bK .nil pass0) (pe_tup (pa_cons (pe_str) (pa_cons (pe_str) pa_nil))) (by rfl)) (pss_cons (ps_set (i := 4) nd rfl (.inl rfl) (pe_meth0 (E := E0) (pv 2) (cls_Scanner T) (m_Scanner_read_name T) GN (hr.mono (by decide)) bN .nil pass0)) (pss_cons ((ps_if ((pt_cmp (pc_din (room_hu hr) (pv 4) (pv 3)) (by rfl))) pss_no pss_nil)) (pss_cons (ps_dput (room_hu hr) (pv 3) (pv 4) pe_bl (by rfl)) (pss_cons (ps_expr (SlX.pe_methSl (pv 1) (scl_N T) (m_Node_put_attribute T) (okR GP bP) (hr.mono (by decide)) pass0 (pa_cons (pe_make (E := E0) (mk_Node T) GI (hr.mono (by decide)) rfl (g_Node T) bI .nil pass0 (pa_cons (pe_str) (pa_cons (pv 4) (pa_cons ((pe_meth0 (E := E0) (pv 2) (cls_Scanner T) (m_Scanner_read_attribute_text T) GX (hr.mono (by decide)) bX .nil pass0)) pa_nil)))) pa_nil))) (pss_one ((ps_if ((pt_not (pt_val (pe_meth0 (E := E0) (pv 2) (cls_Scanner T) (m_Scanner_read_blanks T) GB (hr.mono (by decide)) bB .nil pass0)))) (pss_one ps_retN) pss_nil))))))))))), ?_⟩
    have hlen : d.z.length = (tl d.z).length := len_tl d.z
    have hgl := h.gd.len
    refine ⟨_, rfl, d.r, CRd K, d.dxr, _, _, rfl, h.rd, cls_Reader T, na_Reader_scan T, rd_scan, fun kd hkd => ?_⟩
    have fkd := (h.fresh hkd).1
    have h1 := h.more (same_new hkd (o := .dK []))
    have hn1 := hn.keep (same_new hkd (o := .dK []))
    have hA1 : upd H kd (.dK []) r2.A = some (.lst []) := same_new hkd _ _ hA0
    have sx1 : SameX [d.sc, r2.A] H (upd H kd (.dK [])) := SameX.same (same_new hkd)
    have hk1 : upd H kd (.dK []) kd = some (.dK []) := upd_same
    generalize upd H kd (.dK []) = H1 at h1 hn1 hA1 sx1 hk1 ⊢
    refine while_x (fun mm σ H5 => ∃ (j : Nat) (ks : List (List Nat)) (as : List Addr) (qs1 qs2 : List (List Nat × List Nat)) (m : Nat) (F1 : Hp) (kvs : List (Key × V)) (v4 : Option V), σ = [some (.ref d.r), some (.ref a2), some (.ref d.sc), some (.ref kd), v4] ∧
        Same F F1 ∧ ExtF F F1 H ∧ SameX [d.sc, r2.A] H H5 ∧ AtsAt K o0 F1 a2 as qs1 ∧ (allL stk ++ as).Nodup ∧ (allL stk ++ as).length + pc.length ≤ j + 1 ∧ H5 r2.A = some (.lst (refs as)) ∧ (∀ b ∈ as, d.F0 b = none) ∧ RdSt K d F1 H5 Pl (r2.A :: r2.C :: M) j has stk [] pc ∧
        asO mm ks ((tl d.z).drop j) = some (m, qs2) ∧ qs1 ++ qs2 = qs ∧ j + m = i + n ∧ H5 kd = some (.dK kvs) ∧ F1 kd = none ∧ kvs.length ≤ ks.length ∧ (∀ s : List Nat, (valV kvs (Sum.inr (mkS s))).isSome = decide (s ∈ ks)) ∧ ks.length ≤ j ∧ NdA K H5 a2 d2 r2 ∧ F1 a2 = none)
      (fun σ H5 => ∃ (as : List Addr) (F1 : Hp), Same F F1 ∧ ExtF F F1 H ∧ SameX [d.sc, r2.A] H H5 ∧ AtsAt K o0 F1 a2 as qs ∧ (allL stk ++ as).Nodup ∧ (allL stk ++ as).length + pc.length ≤ i + n + 1 ∧ H5 r2.A = some (.lst (refs as)) ∧ (∀ b ∈ as, d.F0 b = none) ∧ RdSt K d F1 H5 Pl (r2.A :: r2.C :: M) (i + n) has stk [] pc)
      ⟨f, i, [], [], [], qs, n, F, [], none, rfl, Same.refl _, fun b hb => .inl hb, sx1, trivial, by rw [List.append_nil]; exact h.nl, by rw [List.append_nil]; have := h.bd; exact this, hA1, fun b hb => (by cases hb), h1, has0, rfl, rfl, hk1, fkd, Nat.le_refl _, fun s => rfl, Nat.zero_le _, hn1, fa⟩ ?_ ?_
    · rintro σ H5 ⟨as, F1, a1, a2', a3, a4, a5, a6, a7, a8, a9⟩
      exact k F1 H5 as a1 a2' a3 a4 a5 a6 a7 a8 a9
    · rintro - mm σ H5 R ⟨j, ks, as, qs1, qs2, m, F1, kvs, v4, rfl, sF, eF, sx, hat, hnl, hbd, hA5, hf5, h5, ha5, hq, hjm, hk5, fk5, hkl, hkv, hkj, hn5, fa5⟩ hfin hbody
      refine ⟨_, rfl, d.sc, d.dxs, _, rfl, h5.sca, sc_no (by decide +kernel) (by decide +kernel) (by decide +kernel), d.sc, d.dxs, d.z, j, rfl, h5.sca, h5.gd, (by decide), fun t ht => ⟨t, _, rfl, .inr (SqT.of upd_same), rfl, rfl, ?_⟩⟩
      rw [if_pos rfl]
      refine ⟨_, rfl, ?_⟩
      have s6 := same_new ht (o := .tup [.str (Str.ofString "/"), .str (Str.ofString ">")])
      show R (!inV (.str (sg ((tl d.z).drop j))) [.str (Str.ofString "/"), .str (Str.ofString ">")]) _
      rw [in_tags]
      have h6 := h5.more s6
      have hA6 := s6 _ _ hA5
      have hk6 := s6 _ _ hk5
      have hn6 := hn5.keep s6
      have sx6 := sx.trans (SameX.same s6)
      generalize upd H5 t (.tup [.str (Str.ofString "/"), .str (Str.ofString ">")]) = H6 at h6 hA6 hk6 hn6 sx6 s6 ⊢
      cases mm with
      | zero => cases ha5
      | succ mm =>
        cases hst : hP stB ((tl d.z).drop j) with
        | true =>
          rw [asO_stop hst] at ha5
          have e5 := Option.some.inj ha5
          have e6 : 0 = m := congrArg Prod.fst e5
          have e7 : [] = qs2 := congrArg Prod.snd e5
          rw [← e7, List.append_nil] at hq
          subst hq
          have ej : j = i + n := by omega
          subst ej
          exact hfin _ ⟨as, F1, sF, eF, sx6, hat, hnl, hbd, hA6, hf5, h6⟩
        | false =>
          refine hbody _ ?_
          obtain ⟨n1, m1, t1, e1, p1, p2, e2, e3, e4⟩ := asO_go hst ha5
          refine ⟨_, rfl, d.sc, d.dxs, _, rfl, h6.sca, sc_no (by decide +kernel) (by decide +kernel) (by decide +kernel), d.sc, d.dxs, d.z, j, n1, _, rfl, h6.sca, h6.gd, h6.il, e1, fun H7 m7 hj7 => ?_⟩
          have h7 := h6.scan m7 (Nat.le_add_right _ _) hj7
          have notsc : ∀ {b : Addr} {o : HO}, H6 b = some o → (∀ fs, o ≠ .ins (CSc K) d.dxs fs) → b ≠ d.sc := fun hb ho e => by
            rw [e, h6.sca] at hb
            exact ho _ (Option.some.inj hb).symm
          have hk7 := m7.1 _ _ (notsc hk6 fun fs e => by cases e) hk6
          have hA7 := m7.1 _ _ (notsc hA6 fun fs e => by cases e) hA6
          have hn7 : NdA K H7 a2 d2 r2 := ⟨m7.1 _ _ (notsc hn6.1 fun fs e => by unfold SlX.SlO at e; cases e) hn6.1, m7.1 _ _ (notsc hn6.2 fun fs e => by cases e) hn6.2⟩
          have sx7 := sx6.trans (SameX.of (by simp) m7.1)
          have hnml : (((tl d.z).drop j).take n1).length ≤ 1000000 := by
            rw [List.length_take]
            omega
          refine ⟨_, rfl, _, rfl, kd, _, rfl, DGet.k (k := Sum.inr (mkS (((tl d.z).drop j).take n1))) hk7, _, rfl, ?_⟩
          rw [hkv]
          refine iteF ?_ (decide_eq_false e2)
          refine ⟨_, rfl, _, rfl, kd, _, rfl, DPut.k (k := Sum.inr (mkS (((tl d.z).drop j).take n1))) hk7 (by rw [sizeLine_eq]; have := h7.il; omega), ?_⟩
          have notkd : ∀ {b : Addr} {o : HO}, H7 b = some o → (∀ l, o ≠ .dK l) → b ≠ kd := fun hb ho e => by
            rw [e, hk7] at hb
            exact ho _ (Option.some.inj hb).symm
          have h8 : RdSt K d F1 (upd H7 kd (.dK (putK kvs (Sum.inr (mkS (((tl d.z).drop j).take n1))) (.bl true)))) Pl (r2.A :: r2.C :: M) (j + n1) has stk [] pc := by
            refine h7.keep (same_upd0 h7.sm fk5) (upd_ne (notkd h7.rd fun l e => by cases e)) ?_ (upd_ne (notkd h7.pl fun l e => by cases e)) (fun f hf => ?_) (fun m hm => ?_) (Nat.le_refl _) h7.il
            · show _ = _
              rw [upd_ne (notkd h7.sca fun l e => by cases e)]
              exact h7.sca
            · obtain ⟨xs, hxs⟩ := h7.cs.at_ f hf
              exact upd_ne (notkd hxs fun l e => by cases e)
            · obtain ⟨_, xs, hxs⟩ := h7.mf m hm
              exact ⟨xs, by rw [upd_ne (notkd hxs fun l e => by cases e)]; exact hxs⟩
          have sx8 : SameX [d.sc, r2.A] H (upd H7 kd (.dK (putK kvs (Sum.inr (mkS (((tl d.z).drop j).take n1))) (.bl true)))) := fun b o hb ho => by
            rw [upd_ne (ne_of_none ho hkd)]
            exact sx7 b o hb ho
          have hn8 : NdA K (upd H7 kd (.dK (putK kvs (Sum.inr (mkS (((tl d.z).drop j).take n1))) (.bl true)))) a2 d2 r2 := hn7.off (notkd hn7.1 fun l e => by unfold SlX.SlO at e; cases e).symm (notkd hn7.2 fun l e => by cases e).symm
          have hA8 : upd H7 kd (.dK (putK kvs (Sum.inr (mkS (((tl d.z).drop j).take n1))) (.bl true))) r2.A = some (.lst (refs as)) := by
            rw [upd_ne (notkd hA7 fun l e => by cases e)]
            exact hA7
          have hk8 : upd H7 kd (.dK (putK kvs (Sum.inr (mkS (((tl d.z).drop j).take n1))) (.bl true))) kd = some (.dK (putK kvs (Sum.inr (mkS (((tl d.z).drop j).take n1))) (.bl true))) := upd_same
          have hkl8 := length_putK kvs (Sum.inr (mkS (((tl d.z).drop j).take n1))) (V.bl true)
          have hkv8 : ∀ s : List Nat, (valV (putK kvs (Sum.inr (mkS (((tl d.z).drop j).take n1))) (V.bl true)) (Sum.inr (mkS s))).isSome = decide (s ∈ ((tl d.z).drop j).take n1 :: ks) := fun t => by
            rw [valV_put]
            by_cases e : t = ((tl d.z).drop j).take n1
            · rw [if_pos (by rw [e])]
              simp [e]
            · rw [if_neg (fun h => e (by
                have h2 := congrArg tl (Sum.inr.inj h)
                rw [tl_mkS, tl_mkS] at h2
                exact h2)), hkv]
              simp [e]
          generalize putK kvs (Sum.inr (mkS (((tl d.z).drop j).take n1))) (V.bl true) = kvs8 at h8 sx8 hn8 hA8 hk8 hkl8 hkv8 ⊢
          generalize upd H7 kd (.dK kvs8) = H8 at h8 sx8 hn8 hA8 hk8 ⊢
          have e3' : txV (atO ((tl d.z).drop (j + n1))) = some (m1, .str (mkS t1)) := by
            rw [drop_add, e3]
            rfl
          refine ⟨_, rfl, a2, d2, _, rfl, hn8.slt, _, rfl, _, rfl, d.sc, d.dxs, _, rfl, h8.sca, sc_no (by decide +kernel) (by decide +kernel) (by decide +kernel), d.sc, d.dxs, d.z, j + n1, m1, _, rfl, h8.sca, h8.gd, h8.il, e3', fun H9 m9 hj9 => ?_⟩
          have h9 := h8.scan m9 (Nat.le_add_right _ _) hj9
          have notsc8 : ∀ {b : Addr} {o : HO}, H8 b = some o → (∀ fs, o ≠ .ins (CSc K) d.dxs fs) → b ≠ d.sc := fun hb ho e => by
            rw [e, h8.sca] at hb
            exact ho _ (Option.some.inj hb).symm
          have hk9 := m9.1 _ _ (notsc8 hk8 fun fs e => by cases e) hk8
          have hA9 := m9.1 _ _ (notsc8 hA8 fun fs e => by cases e) hA8
          have hn9 : NdA K H9 a2 d2 r2 := ⟨m9.1 _ _ (notsc8 hn8.1 fun fs e => by unfold SlX.SlO at e; cases e) hn8.1, m9.1 _ _ (notsc8 hn8.2 fun fs e => by cases e) hn8.2⟩
          have sx9 := sx8.trans (SameX.of (by simp) m9.1)
          intro a3 d3 ha3 hd3 hne3
          refine mkNode ha3 hd3 hne3 fun H10 A3 C3 s10 hA3 hC3 hAC hn10 hA3' hC3' => ⟨rfl, ?_⟩
          have hn10' := hn9.keep s10
          have hA10 := s10 _ _ hA9
          have hne : a2 ≠ a3 := ne_of_none hn9.1 ha3
          have hal : (refs as).length ≤ 1000000 := by
            rw [refs_len]
            have := h9.il
            rw [List.length_append] at hbd
            omega
          refine ⟨a2, d2, a3, d3, _, _, refs as, ((tl d.z).drop j).take n1, rfl, hn10', hn10, hne, hA10, hal, rfl, hnml, fun H11 eqx hn11 hA11 => ?_⟩
          obtain ⟨h11, sF11, eF11⟩ := h9.att (S := [a3, d3, A3, C3]) (B := r2.A) (fun b hb => by
            simp only [List.mem_cons, List.not_mem_nil, or_false] at hb
            rcases hb with rfl | rfl | rfl | rfl <;> assumption) (by simp) s10 (by simp) eqx hA11
          have fa3 := (h9.fresh ha3).1
          have hS : ∀ {b : Addr} {o : HO}, H9 b = some o → b ∉ [a3, d3, A3, C3] := fun {b o} hb hm => by
            simp only [List.mem_cons, List.not_mem_nil, or_false] at hm
            rcases hm with rfl | rfl | rfl | rfl
            · rw [ha3] at hb; cases hb
            · rw [hd3] at hb; cases hb
            · rw [hA3] at hb; cases hb
            · rw [hC3] at hb; cases hb
          have at11 : ∀ {b : Addr} {o : HO}, H10 b = some o → b ≠ a3 → b ≠ r2.A → H11 b = some o := fun hb n1 n2 => by
            rw [eqx _ (by simp only [List.mem_cons, List.not_mem_nil, or_false, not_or]; exact ⟨n1, n2⟩)]
            exact hb
          have nA3 : A3 ≠ r2.A := (ne_of_none hA9 hA3).symm
          have nC3 : C3 ≠ r2.A := (ne_of_none hA9 hC3).symm
          have hAtt : AttAt K o0 (addF F1 H11 [a3, d3, A3, C3]) a2 a3 (((tl d.z).drop j).take n1, t1) := by
            refine ⟨d3, A3, C3, ⟨?_, ?_⟩, ?_, ?_⟩
            · rw [addF_in (by simp)]
              exact hn11.1
            · rw [addF_in (by simp)]
              exact hn11.2
            · rw [addF_in (by simp)]
              exact at11 hA3' (hn10.nl hA3').1 nA3
            · rw [addF_in (by simp)]
              exact at11 hC3' (hn10.nl hC3').1 nC3
          have hat2 := AtsAt.app hAtt (hat.keep sF11)
          have hnl2 : (allL stk ++ (as ++ [a3])).Nodup := by
            rw [← List.append_assoc, List.nodup_append]
            refine ⟨hnl, by simp, fun b hb c hc e => ?_⟩
            rw [List.mem_singleton] at hc
            rw [hc] at e
            rw [e] at hb
            rcases List.mem_append.mp hb with hb | hb
            · exact h9.st.some a3 hb fa3
            · exact hat.some a3 hb fa3
          have hbd2 : (allL stk ++ (as ++ [a3])).length + pc.length ≤ j + n1 + m1 + 1 := by
            simp only [List.length_append, List.length_cons, List.length_nil] at hbd ⊢
            omega
          have hk11 := at11 (s10 _ _ hk9) (ne_of_none hk9 ha3) fun e => by rw [e, hA9] at hk9; cases hk9
          have fk11 : addF F1 H11 [a3, d3, A3, C3] kd = none := by
            rw [addF_out (hS hk9)]
            exact fk5
          have hnl9 := hn9.nl hA9
          have hn11' : NdA K H11 a2 d2 r2 := ⟨at11 hn10'.1 hne hnl9.1.symm, at11 hn10'.2 (ne_of_none hn9.2 ha3) hnl9.2.symm⟩
          have fa11 : addF F1 H11 [a3, d3, A3, C3] a2 = none := by
            rw [addF_out (hS hn9.1)]
            exact fa5
          have sx11 : SameX [d.sc, r2.A] H H11 := fun b o hb ho => at11 (s10 _ _ (sx9 b o hb ho)) (ne_of_none (sx9 b o hb ho) ha3) fun e => hb (by rw [e]; simp)
          have hf11 : ∀ b ∈ as ++ [a3], d.F0 b = none := fun b hb => by
            rcases List.mem_append.mp hb with hb | hb
            · exact hf5 b hb
            · rw [List.mem_singleton] at hb
              rw [hb]
              exact f0n h9.f0 fa3
          have hA11' : H11 r2.A = some (.lst (refs (as ++ [a3]))) := by
            rw [hA11, refs_app]
            rfl
          have eF2 : ExtF F (addF F1 H11 [a3, d3, A3, C3]) H := fun b hb => by
            rcases eF11 b hb with e | e
            · exact eF b e
            · refine .inr (sx9.free (fun c hc => ?_) e)
              simp only [List.mem_cons, List.not_mem_nil, or_false] at hc
              rcases hc with rfl | rfl
              · rw [h9.sca]; simp
              · rw [hA9]; simp
          have sF2 : Same F (addF F1 H11 [a3, d3, A3, C3]) := sF.trans sF11
          generalize addF F1 H11 [a3, d3, A3, C3] = F2 at h11 hat2 fk11 fa11 eF2 sF2 ⊢
          refine ⟨_, rfl, d.sc, d.dxs, _, rfl, h11.sca, sc_no (by decide +kernel) (by decide +kernel) (by decide +kernel), d.sc, d.dxs, d.z, _, _, _, rfl, h11.sca, h11.gd, h11.il, rfl, fun H12 m12 hj12 => ?_⟩
          have h12 := h11.scan m12 (Nat.le_add_right _ _) hj12
          have notsc11 : ∀ {b : Addr} {o : HO}, H11 b = some o → (∀ fs, o ≠ .ins (CSc K) d.dxs fs) → b ≠ d.sc := fun hb ho e => by
            rw [e, h11.sca] at hb
            exact ho _ (Option.some.inj hb).symm
          have hk12 := m12.1 _ _ (notsc11 hk11 fun fs e => by cases e) hk11
          have hA12 := m12.1 _ _ (notsc11 hA11' fun fs e => by cases e) hA11'
          have hn12 : NdA K H12 a2 d2 r2 := ⟨m12.1 _ _ (notsc11 hn11'.1 fun fs e => by unfold SlX.SlO at e; cases e) hn11'.1, m12.1 _ _ (notsc11 hn11'.2 fun fs e => by cases e) hn11'.2⟩
          have sx12 := sx11.trans (SameX.of (by simp) m12.1)
          refine ⟨_, rfl, ?_⟩
          have ed : (tl d.z).drop (j + n1 + m1) = ((tl d.z).drop j).drop (n1 + m1) := by rw [Nat.add_assoc, drop_add]
          rw [ed] at h12 hj12 ⊢
          rcases e4 with ⟨b1, b2, b3⟩ | ⟨b1, m2, qs3, b2, b3, b4⟩
          · have b5 : spN isBl (((tl d.z).drop j).drop (n1 + m1)) = 0 := by
              cases q : ((tl d.z).drop j).drop (n1 + m1) with
              | nil => rfl
              | cons c r =>
                rw [q] at b1
                exact if_neg (by rw [show isBl c = false from b1]; exact Bool.false_ne_true)
            rw [b5] at h12
            rw [b1]
            refine iteT ?_
            have e9 : j + n1 + m1 + 0 = i + n := by omega
            rw [e9] at h12
            rw [← hq, b3] at k
            refine k F2 H12 (as ++ [a3]) sF2 eF2 sx12 hat2 hnl2 ?_ hA12 hf11 h12
            omega
          · rw [b1]
            refine iteF ?_
            refine ⟨mm, Nat.lt_succ_self _, j + n1 + m1 + spN isBl (((tl d.z).drop j).drop (n1 + m1)), ((tl d.z).drop j).take n1 :: ks, as ++ [a3], qs1 ++ [(((tl d.z).drop j).take n1, t1)], qs3, m2, F2, kvs8, _, rfl, sF2, eF2, sx12, hat2, hnl2, by omega, hA12, hf11, h12, ?_, ?_, by omega, hk12, fk11, ?_, hkv8, ?_, hn12, fa11⟩
            · rw [drop_add, ed]
              exact b2
            · rw [← hq, b4, List.append_assoc]
              rfl
            · rw [List.length_cons]
              omega
            · rw [List.length_cons]
              omega
end
end PX
/-! DXo -/
namespace PX
open PySem PySem.Spec PyProof.Rows L2 TL
abbrev PF : Type := List Nat × List (List Nat × List Nat) × List DN
def Fr.pl (f : Fr) : PF := (f.nm, f.at_, f.ks)
section
variable {K : PySem.W.Frag} {d : Rd} {F H H' : Hp} {P : Addr} {M : List Addr} {i j : Nat} {has : Bool} {stk : List Fr} {ex : List Addr} {pc : List (List Nat)}
theorem NodeAt.pos {K : PySem.W.Frag} {o : Og} {F : Hp} {par a : Addr} {i : Nat} {e : DN} {l : List Addr} (h : NodeAt K o F par i a e l) : 1 ≤ l.length := by
  cases e with
  | lf k nm t => rw [NodeAt] at h; rw [h.1]; exact Nat.le_refl _
  | el nm at_ ks =>
    rw [NodeAt] at h
    obtain ⟨_, _, _, as, _, ls2, rfl, _⟩ := h
    exact Nat.succ_le_succ (Nat.zero_le _)
theorem StkF.cl {f : Fr} {rest : List Fr} (h : StkF K F (f :: rest)) : f.cs.length = f.ks.length := by
  obtain ⟨_, _, _, _, fE⟩ := h.top
  exact KidsAt.len fE.2.2.2
/-- the node at the end stands for good -/
theorem RdSt.freeze {f : Fr} {rest : List Fr} {a2 : Addr} {S l : List Addr} {dn : DN} (h : RdSt K d F H P M i has (f :: rest) [a2] pc) (hS : ∀ b ∈ S, F b = none) (nr : d.r ∉ S) (ns : d.sc ∉ S) (nP : P ∉ S) (nC : ∀ g ∈ f :: rest, g.C ∉ S) (nM : ∀ m ∈ M, m ∉ S)
    (hn : NodeAt K o0 (addF F H S) f.a f.cs.length a2 dn l) (nl : (allL (f :: rest) ++ l).Nodup) (hf : ∀ b ∈ l, d.F0 b = none) (bd : (allL (f :: rest)).length + l.length + pc.length ≤ i + 1) :
    RdSt K d (addF F H S) H P M i has ({ f with ks := f.ks ++ [dn], cs := f.cs ++ [a2], ls := f.ls ++ l } :: rest) [] pc := by
  have g := h.grow hS nr ns nP nC nM
  have hst := g.st
  have hal : allL ({ f with ks := f.ks ++ [dn], cs := f.cs ++ [a2], ls := f.ls ++ l } :: rest) = allL (f :: rest) ++ l := by
    show allL rest ++ (f.a :: (f.as ++ (f.ls ++ l))) = allL rest ++ (f.a :: (f.as ++ f.ls)) ++ l
    simp
  rw [h.st.cl] at hn
  refine ⟨g.sm, ?_, g.rf, g.sca, g.sf, g.pl, g.pf, ?_, ⟨?_, g.cs.2⟩, ?_, g.mf, g.nc, by rw [hal]; exact nl, g.gd, g.il, by rw [hal, List.length_append]; exact bd, g.pb, fun b hb => (by rw [hal] at hb; exact (List.mem_append.mp hb).elim (h.nf b) (hf b)), g.f0⟩
  · have h1 := h.rd
    cases rest with
    | nil => exact h1
    | cons g rest => exact h1
  · cases rest with
    | nil => exact ⟨⟨hst.1.1, hst.1.2.1, hst.1.2.2.1, KidsAt.app hst.1.2.2.2 (by rw [Nat.zero_add]; exact hn)⟩, hst.2⟩
    | cons g rest => exact ⟨⟨hst.1.1, hst.1.2.1, hst.1.2.2.1, KidsAt.app hst.1.2.2.2 (by rw [Nat.zero_add]; exact hn)⟩, hst.2⟩
  · show H f.C = some (.lst (refs (f.cs ++ [a2] ++ [])))
    rw [List.append_nil]
    exact h.cs.1
  · intro x hx
    rcases List.mem_cons.mp hx with rfl | hx
    · exact g.cf f List.mem_cons_self
    · exact g.cf x (List.mem_cons_of_mem _ hx)
theorem nodup_mid {a : Addr} {l m : List Addr} {p : Addr} (h : (l ++ p :: m).Nodup) (n : a ∉ l ++ p :: m) : (l ++ p :: a :: m).Nodup := by
  have e : (l ++ p :: a :: m).Perm (a :: (l ++ p :: m)) := by
    have := List.perm_middle (a := a) (l₁ := l ++ [p]) (l₂ := m)
    simpa using this
  rw [e.nodup_iff, List.nodup_cons]
  exact ⟨n, h⟩
/-- another node is open -/
theorem RdSt.push {f : Fr} {rest : List Fr} {a2 d2 A2 C2 : Addr} {nm : List Nat} {qs : List (List Nat × List Nat)} {as : List Addr} (h : RdSt K d F H P (A2 :: C2 :: M) i has (f :: rest) [a2] pc)
    (hn : NdA K H a2 d2 (mkR o0 a2 A2 C2 (.str "element") (.str (mkS nm)) (.ref f.a) (.int (f.cs.length : Int)) (.str (mkS [])))) (hA : H A2 = some (.lst (refs as))) (hC : H C2 = some (.lst [])) (fa : F a2 = none) (fd : F d2 = none)
    (hat : AtsAt K o0 F a2 as qs) (nl : (allL (f :: rest) ++ as).Nodup) (hf : ∀ b ∈ as, d.F0 b = none) (bd : (allL (f :: rest) ++ as).length + 1 + pc.length ≤ i + 1) :
    RdSt K d (addF F H [a2, d2, A2]) (upd H d.r (.ins (CRd K) d.dxr (rdF d.sc (rootOf (f :: rest)) a2 P has))) P M i has (⟨a2, d2, A2, C2, nm, qs, [], as, [], []⟩ :: f :: rest) [] pc := by
  have n2 : (A2 :: C2 :: (M ++ P :: (f :: rest).map (·.C))).Nodup := h.nc
  rw [List.nodup_cons, List.nodup_cons] at n2
  obtain ⟨nA, nC, n3⟩ := n2
  have hMA := h.Mn A2 List.mem_cons_self
  have hMC := h.Mn C2 (List.mem_cons_of_mem _ List.mem_cons_self)
  have ins_nd : ∀ {b : Addr} {C dx : Addr} {fs : List (Str × V)}, H b = some (.ins C dx fs) → b ∉ [a2, d2, A2] := by
    intro b C dx fs hb hm
    simp only [List.mem_cons, List.not_mem_nil, or_false] at hm
    rcases hm with rfl | rfl | rfl
    · rw [hn.1] at hb; unfold SlX.SlO at hb; cases hb
    · rw [hn.2] at hb; cases hb
    · rw [hA] at hb; cases hb
  have lst_nd : ∀ {b : Addr} {xs : List V}, H b = some (.lst xs) → b ≠ A2 → b ∉ [a2, d2, A2] := by
    intro b xs hb n1 hm
    simp only [List.mem_cons, List.not_mem_nil, or_false] at hm
    rcases hm with rfl | rfl | rfl
    · rw [hn.1] at hb; unfold SlX.SlO at hb; cases hb
    · rw [hn.2] at hb; cases hb
    · exact n1 rfl
  have hS : ∀ b ∈ [a2, d2, A2], F b = none := by
    intro b hb
    simp only [List.mem_cons, List.not_mem_nil, or_false] at hb
    rcases hb with rfl | rfl | rfl
    · exact fa
    · exact fd
    · exact (h.mf _ List.mem_cons_self).1
  have g := h.dropM.grow hS (ins_nd h.rd) (ins_nd h.sca) (lst_nd h.pl hMA.1.symm) (fun x hx => by
    obtain ⟨xs, hxs⟩ := h.cs.at_ x hx
    exact lst_nd hxs (hMA.2 x hx).symm) fun m hm => by
      obtain ⟨_, xs, hxs⟩ := h.mf m (List.mem_cons_of_mem _ (List.mem_cons_of_mem _ hm))
      exact lst_nd hxs fun e => nA (List.mem_cons_of_mem _ (e ▸ List.mem_append_left _ hm))
  have nr : ∀ {b : Addr} {xs : List V}, H b = some (.lst xs) → b ≠ d.r := fun hb => ins_lst h.rd hb
  have hCr := nr hC
  have fE : FrE K (addF F H [a2, d2, A2]) ⟨a2, d2, A2, C2, nm, qs, [], as, [], []⟩ (.str "element") (.str (mkS nm)) (.ref f.a) (.int (f.cs.length : Int)) := by
    refine ⟨⟨?_, ?_⟩, ?_, hat.keep (addF_same hS), ?_⟩
    · rw [addF_in (by simp)]
      exact hn.1
    · rw [addF_in (by simp)]
      exact hn.2
    · rw [addF_in (by simp)]
      exact hA
    · rw [KidsAt]
      exact ⟨rfl, rfl⟩
  refine ⟨fun b o hb => ?_, upd_same, g.rf, ?_, g.sf, by rw [upd_ne (nr h.pl)]; exact g.pl, g.pf, ⟨fE, g.st⟩, ⟨by rw [upd_ne hCr]; exact hC, g.cs.keep fun x hx => ?_⟩, fun x hx => ?_, fun m hm => ?_, ?_, ?_, g.gd, g.il, ?_, g.pb, ?_, g.f0⟩
  · rw [upd_ne fun e => by rw [e, g.rf] at hb; cases hb]
    exact g.sm b o hb
  · show _ = _
    rw [upd_ne h.rs.symm]
    exact g.sca
  · obtain ⟨xs, hxs⟩ := h.cs.at_ x hx
    exact upd_ne (nr hxs)
  · rcases List.mem_cons.mp hx with rfl | hx
    · show addF F H [a2, d2, A2] C2 = none
      rw [addF_out (lst_nd hC fun e => nA (e ▸ List.mem_cons_self))]
      exact (h.mf C2 (List.mem_cons_of_mem _ List.mem_cons_self)).1
    · exact g.cf x hx
  · obtain ⟨h1, xs, hxs⟩ := g.mf m hm
    exact ⟨h1, xs, by rw [upd_ne (nr hxs)]; exact hxs⟩
  · exact nodup_mid n3 nC
  · show (allL (f :: rest) ++ a2 :: (as ++ [])).Nodup
    rw [List.append_nil]
    have e : (allL (f :: rest) ++ a2 :: as).Perm (a2 :: (allL (f :: rest) ++ as)) := List.perm_middle
    rw [e.nodup_iff, List.nodup_cons]
    refine ⟨fun hm => ?_, nl⟩
    rcases List.mem_append.mp hm with hm | hm
    · exact h.st.some a2 hm fa
    · exact hat.some a2 hm fa
  · show (allL (f :: rest) ++ a2 :: (as ++ [])).length + 0 + pc.length ≤ i + 1
    simp only [List.length_append, List.length_cons, List.length_nil] at bd ⊢
    omega
  · intro b hb
    have hb' : b ∈ allL (f :: rest) ++ a2 :: (as ++ []) := hb
    rw [List.append_nil] at hb'
    rcases List.mem_append.mp hb' with hb' | hb'
    · exact h.nf b hb'
    · rcases List.mem_cons.mp hb' with rfl | hb'
      · exact f0n h.f0 fa
      · exact hf b hb'
/-- the open node is shut -/
theorem RdSt.pop {f g : Fr} {rest : List Fr} (h : RdSt K d F H P M i has (f :: g :: rest) [] pc) :
    ∃ F', Same F F' ∧ RdSt K d F' (upd H d.r (.ins (CRd K) d.dxr (rdF d.sc (rootOf (g :: rest)) g.a P has))) P M i has ({ g with ks := g.ks ++ [.el f.nm f.at_ f.ks], cs := g.cs ++ [f.a], ls := g.ls ++ f.l } :: rest) [] pc := by
  have nr : ∀ {b : Addr} {xs : List V}, H b = some (.lst xs) → b ≠ d.r := fun hb => ins_lst h.rd hb
  obtain ⟨fE, hst⟩ := h.st
  have hC := h.cs.1
  rw [List.append_nil] at hC
  have hCr := nr hC
  have n0 := h.nc
  rw [List.nodup_append] at n0
  have n1 : (P :: f.C :: g.C :: rest.map (·.C)).Nodup := n0.2.1
  rw [List.nodup_cons, List.nodup_cons] at n1
  have fa1 : f.l.length ≥ 1 := Nat.succ_le_succ (Nat.zero_le _)
  have hbd := h.bd
  have hl0 : (allL (f :: g :: rest)).length = (allL (g :: rest)).length + f.l.length := by
    show (allL (g :: rest) ++ f.l).length = _
    rw [List.length_append]
  have hnl : (allL (g :: rest) ++ f.l).Nodup := h.nl
  have fC := h.cf f List.mem_cons_self
  have hm : RdSt K d F (upd H d.r (.ins (CRd K) d.dxr (rdF d.sc (rootOf (g :: rest)) g.a P has))) P M i has (g :: rest) [f.a] pc := by
    refine ⟨fun b o hb => ?_, upd_same, h.rf, ?_, h.sf, by rw [upd_ne (nr h.pl)]; exact h.pl, h.pf, hst, h.cs.2.keep fun x hx => ?_, fun x hx => h.cf x (List.mem_cons_of_mem _ hx), fun m hm => ?_, ?_, (List.nodup_append.mp hnl).1, h.gd, h.il, ?_, h.pb, fun b hb => h.nf b (List.mem_append_left _ hb), h.f0⟩
    · rw [upd_ne fun e => by rw [e, h.rf] at hb; cases hb]
      exact h.sm b o hb
    · show _ = _
      rw [upd_ne h.rs.symm]
      exact h.sca
    · obtain ⟨xs, hxs⟩ := h.cs.at_ x (List.mem_cons_of_mem _ hx)
      exact upd_ne (nr hxs)
    · obtain ⟨h1, xs, hxs⟩ := h.mf m hm
      exact ⟨h1, xs, by rw [upd_ne (nr hxs)]; exact hxs⟩
    · rw [List.nodup_append, List.nodup_cons]
      refine ⟨n0.1, ⟨fun e => n1.1 (List.mem_cons_of_mem _ e), n1.2.2⟩, fun a ha b hb => n0.2.2 a ha b ?_⟩
      rcases List.mem_cons.mp hb with rfl | hb
      · exact List.mem_cons_self
      · exact List.mem_cons_of_mem _ (List.mem_cons_of_mem _ hb)
    · simp only [List.length_cons, List.length_nil] at hbd ⊢
      omega
  have hS : ∀ b ∈ [f.C], F b = none := fun b hb => by
    rw [List.mem_singleton] at hb
    rw [hb]
    exact fC
  have hne : ∀ {b : Addr} {C dx : Addr} {fs : List (Str × V)}, H b = some (.ins C dx fs) → b ∉ [f.C] := fun hb hm => by
    rw [List.mem_singleton] at hm
    rw [hm, hC] at hb
    cases hb
  refine ⟨_, addF_same hS, hm.freeze hS (hne h.rd) (hne h.sca) (fun e => ?_) (fun x hx e => ?_) (fun m hmm e => ?_) ?_ hnl (fun b hb => h.nf b (List.mem_append_right _ hb)) ?_⟩
  · rw [List.mem_singleton] at e
    exact n1.1 (e ▸ List.mem_cons_self)
  · rw [List.mem_singleton] at e
    exact n1.2.1 (e ▸ List.mem_map.mpr ⟨x, hx, rfl⟩)
  · rw [List.mem_singleton] at e
    exact n0.2.2 m hmm f.C (List.mem_cons_of_mem _ List.mem_cons_self) e
  · rw [NodeAt]
    have s := addF_same (H := upd H d.r (.ins (CRd K) d.dxr (rdF d.sc (rootOf (g :: rest)) g.a P has))) hS
    have fE2 := fE.keep s
    refine ⟨f.dx, f.A, f.C, f.as, f.cs, f.ls, rfl, fE2.1, fE2.2.1, ?_, fE2.2.2.1, fE2.2.2.2⟩
    rw [addF_in (by simp), upd_ne hCr]
    exact hC
  · rw [← hl0]
    simp only [List.length_nil] at hbd
    omega
end
end PX
/-! DXp -/
namespace PX
open PySem PySem.Spec PyProof.Rows L2 TL
/-- a tag: how long, the name, the attributes, whether it stays open -/
def tgA (r : List Nat) (n1 : Nat) : Option (Nat × List (List Nat × List Nat)) :=
  if hP isBl (r.drop n1) then (asO (r.length + 1) [] ((r.drop n1).drop (spN isBl (r.drop n1)))).map fun v => (n1 + spN isBl (r.drop n1) + v.1, v.2) else some (n1, [])
def tgE (r nm : List Nat) (n2 : Nat) (qs : List (List Nat × List Nat)) : Option (Nat × List Nat × List (List Nat × List Nat) × Bool) :=
  if hP (· == 62) (r.drop n2) then some (n2 + 1, nm, qs, true) else if (r.drop n2).take 2 = [47, 62] then some (n2 + 2, nm, qs, false) else none
def tgO (r : List Nat) : Option (Nat × List Nat × List (List Nat × List Nat) × Bool) :=
  match nmO r with
  | none => none
  | some (n1, _) => match tgA r n1 with
    | none => none
    | some (n2, qs) => tgE r (r.take n1) n2 qs
theorem tgO_sp {r nm : List Nat} {n : Nat} {qs : List (List Nat × List Nat)} {op : Bool} (h : tgO r = some (n, nm, qs, op)) :
    ∃ n1 n2, nmO r = some (n1, .str (mkS (r.take n1))) ∧ nm = r.take n1 ∧ 1 ≤ n1 ∧ n1 ≤ r.length ∧ tgA r n1 = some (n2, qs) ∧ ((op = true ∧ hP (· == 62) (r.drop n2) = true ∧ n = n2 + 1) ∨ (op = false ∧ hP (· == 62) (r.drop n2) = false ∧ (r.drop n2).take 2 = [47, 62] ∧ n = n2 + 2)) := by
  unfold tgO at h
  cases e1 : nmO r with
  | none => rw [e1] at h; cases h
  | some u =>
    obtain ⟨n1, y⟩ := u
    rw [e1] at h
    dsimp only at h
    obtain ⟨hy, h1, _, h2⟩ := nmO_val e1
    cases e2 : tgA r n1 with
    | none => rw [e2] at h; cases h
    | some v =>
      obtain ⟨n2, qs'⟩ := v
      rw [e2] at h
      dsimp only at h
      unfold tgE at h
      cases e3 : hP (· == 62) (r.drop n2) with
      | true =>
        rw [e3, if_pos rfl] at h
        have h5 := Option.some.inj h
        have q1 := congrArg Prod.fst h5
        have q2 := congrArg (fun x => x.2.1) h5
        have q3 := congrArg (fun x => x.2.2.1) h5
        have q4 := congrArg (fun x => x.2.2.2) h5
        dsimp only at q1 q2 q3 q4
        subst q3
        exact ⟨n1, n2, by rw [hy], q2.symm, h1, h2, e2, .inl ⟨q4.symm, e3, q1.symm⟩⟩
      | false =>
        rw [e3, if_neg Bool.false_ne_true] at h
        by_cases e4 : (r.drop n2).take 2 = [47, 62]
        · rw [if_pos e4] at h
          have h5 := Option.some.inj h
          have q1 := congrArg Prod.fst h5
          have q2 := congrArg (fun x => x.2.1) h5
          have q3 := congrArg (fun x => x.2.2.1) h5
          have q4 := congrArg (fun x => x.2.2.2) h5
          dsimp only at q1 q2 q3 q4
          subst q3
          exact ⟨n1, n2, by rw [hy], q2.symm, h1, h2, e2, .inr ⟨q4.symm, e3, e4, q1.symm⟩⟩
        · rw [if_neg e4] at h
          cases h
theorem hP_bl {r : List Nat} (h : hP isBl r = false) : spN isBl r = 0 := by
  cases r with
  | nil => rfl
  | cons c r => exact if_neg (by rw [show isBl c = false from h]; exact Bool.false_ne_true)
theorem gt_bl {r : List Nat} (h : hP (· == 62) r = true) : hP isBl r = false := by
  cases r with
  | nil => cases h
  | cons c r =>
    have := of_decide_eq_true h
    subst this
    rfl
theorem asO_len : ∀ {f : Nat} {ks : List (List Nat)} {r : List Nat} {n : Nat} {qs : List (List Nat × List Nat)}, asO f ks r = some (n, qs) → qs.length ≤ n
  | 0, _, _, _, _, h => by cases h
  | f + 1, ks, r, n, qs, h => by
    cases hs : hP stB r with
    | true =>
      rw [asO_stop hs] at h
      have := congrArg (fun x => x.2) (Option.some.inj h)
      dsimp only at this
      rw [← this]
      exact Nat.zero_le _
    | false =>
      obtain ⟨n1, m1, t, _, p1, _, _, _, ⟨_, e2, e3⟩ | ⟨_, m2, qs2, e1, e2, e3⟩⟩ := asO_go hs h
      · rw [e3, e2, List.length_singleton]
        omega
      · have := asO_len e1
        rw [e3, e2, List.length_cons]
        omega
section
variable {P : Program} {w : World} {K : PySem.W.Frag} {mg : Str → Option Value} {base : Heap}
/-- what a step of the reading does to the open nodes -/
def spStep (K : PySem.W.Frag) (g : List Nat → PF → List PF → List (List Nat) → Option (Nat × List PF × List (List Nat))) : Sp := fun vs H Q _ => ∃ (d : Rd) (F : Hp) (Pl : Addr) (M : List Addr) (i : Nat) (has : Bool) (f : Fr) (rest : List Fr) (pc : List (List Nat)) (n : Nat) (ss : List PF) (pc' : List (List Nat)), vs = [.ref d.r] ∧
  RdSt K d F H Pl M i has (f :: rest) [] pc ∧ (allL (f :: rest)).length + pc.length + 1 ≤ i + 1 ∧ g ((tl d.z).drop i) f.pl (rest.map Fr.pl) pc = some (n, ss, pc') ∧
  ∀ F' H' P' stk', Same F F' → stk'.map Fr.pl = ss → RdSt K d F' H' P' M (i + n) has stk' [] pc' → Q .non H'
def tgG (r : List Nat) (f : PF) (rest : List PF) (pc : List (List Nat)) : Option (Nat × List PF × List (List Nat)) :=
  match tgO r with
  | none => none
  | some (n, nm, qs, true) => some (n, (nm, qs, []) :: (f.1, f.2.1, f.2.2 ++ txN pc) :: rest, [])
  | some (n, nm, qs, false) => some (n, (f.1, f.2.1, f.2.2 ++ txN pc ++ [.el nm qs []]) :: rest, [])
theorem ok_read_tag (T : Tx w K mg) : Ok P w K mg base CX0 8 (He.fAd K d_Reader_read_tag.at_) p_Reader_read_tag (spStep K tgG) := by
  obtain ⟨fd, F⟩ := f_Reader_read_tag T
  obtain ⟨fI, GI, bI, kI⟩ := ok_Node_init (P := P) (base := base) T
  obtain ⟨fK, GK, bK, kK⟩ := ok_peek (P := P) (base := base) T
  obtain ⟨fN, GN, bN, kN⟩ := ok_read_name (P := P) (base := base) T
  obtain ⟨fA, GA, bA, kA⟩ := ok_read_attributes (P := P) (base := base) T
  obtain ⟨fB, GB, bB, kB⟩ := ok_read_blanks (P := P) (base := base) T
  obtain ⟨fX, GX, bX, kX⟩ := ok_expect (P := P) (base := base) T
  obtain ⟨fU, GU, bU, kU⟩ := ok_put (P := P) (base := base) T
  refine ⟨fd, ?_, b_Reader_read_tag F, F.kp⟩
  refine F.ok sc_Reader_read_tag (fun vs H Q E h => ?_) (fun cdv A outer s H vs Q E hr h => ?_)
  · obtain ⟨d, F, Pl, M, i, has, f, rest, pc, n, ss, pc', rfl, _⟩ := h
    rfl
  · obtain ⟨d, F, Pl, M, i, has, f, rest, pc, n, ss, pc', rfl, h, hbd0, hg, k⟩ := h
    have nd := sc_Reader_read_tag.nd
    refine ⟨_, PSs.nox (pss_cons (ps_set (i := 1) nd rfl (.inl rfl) (pe_fld (pv 0) rfl)) (pss_cons (ps_set (i := 2) nd rfl (.inl rfl) (pe_make (E := E0) (mk_Node T) GI (hr.mono (by decide)) rfl (g_Node T) bI .nil pass0 (pa_cons (pe_str) (pa_cons ((pe_meth0 (E := E0) (pv 1) (cls_Scanner T) (m_Scanner_read_name T) GN (hr.mono (by decide)) bN .nil pass0)) (pa_cons (pe_str) pa_nil))))) (Evl.pss_cut ((ps_if ((pw_and (pt_cmpR op_ne ((pe_meth0 (E := E0) (pv 1) (cls_Scanner T) (m_Scanner_peek T) GK (hr.mono (by decide)) bK .nil pass0)) (pe_str) (nomark _)) (pw_and1 (pt_val (pe_meth0 (E := E0) (pv 1) (cls_Scanner T) (m_Scanner_read_blanks T) GB (hr.mono (by decide)) bB .nil pass0)))).pt) (pss_one (ps_expr (pe_meth (E := E0) (pv 0) (cls_Reader T) (m_Reader_read_attributes T) GA (hr.mono (by decide)) bA .nil pass0 (pa_cons (pv 2) pa_nil)))) pss_nil)) (pss_cons (ps_set (i := 3) nd rfl (.inl rfl) (pe_cmpR op_eq (pe_meth0 (E := E0) (pv 1) (cls_Scanner T) (m_Scanner_peek T) GK (hr.mono (by decide)) bK .nil pass0) pe_str (nomark _))) (pss_cons (ps_expr (pe_meth (E := E0) (pv 1) (cls_Scanner T) (m_Scanner_expect T) GX (hr.mono (by decide)) bX .nil pass0 (pa_cons (pe_ifExp (pt_val (pv 3)) pe_str pe_str) pa_nil))) (pss_cons (ps_expr (pe_meth (E := E0) (pv 0) (cls_Reader T) (m_Reader_put T) GU (hr.mono (by decide)) bU .nil pass0 (pa_cons (pv 2) pa_nil))) (pss_one ((ps_if ((pt_val (pv 3))) (pss_one (ps_fld (pv 0) (pv 2) rfl)) pss_nil))))))))), ?_⟩
    have hlen : d.z.length = (tl d.z).length := len_tl d.z
    have hgl := h.gd.len
    obtain ⟨n', nm, qs, op, etg⟩ : ∃ (n' : Nat) (nm : List Nat) (qs : List (List Nat × List Nat)) (op : Bool), tgO ((tl d.z).drop i) = some (n', nm, qs, op) := by
      unfold tgG at hg
      cases e : tgO ((tl d.z).drop i) with
      | none => rw [e] at hg; cases hg
      | some u => exact ⟨_, _, _, _, rfl⟩
    obtain ⟨n1, n2, e1, rfl, p1, p2, e2, e3⟩ := tgO_sp etg
    have h1bd := h.bd
    refine ⟨_, rfl, d.r, CRd K, d.dxr, _, _, rfl, h.rd, cls_Reader T, na_Reader_scan T, rd_scan, ?_⟩
    refine ⟨_, rfl, d.sc, d.dxs, _, rfl, h.sca, sc_no (by decide +kernel) (by decide +kernel) (by decide +kernel), d.sc, d.dxs, d.z, i, n1, _, rfl, h.sca, h.gd, h.il, e1, fun H1 m1 hj1 => ?_⟩
    have h1 := h.scan m1 (Nat.le_add_right _ _) hj1
    intro a2 d2 ha2 hd2 hne2
    refine mkNode ha2 hd2 hne2 fun H2 A2 C2 s2 hA2 hC2 hAC hn2 hA2' hC2' => ⟨rfl, ?_⟩
    obtain ⟨fa2, _⟩ := h1.fresh ha2
    obtain ⟨fd2, _⟩ := h1.fresh hd2
    obtain ⟨fA2, nA⟩ := h1.fresh hA2
    obtain ⟨fC2, nC⟩ := h1.fresh hC2
    have h2 := (h1.more s2).addM hA2' hC2' fA2 fC2 hAC nA nC
    refine ⟨fun σ H9 => ∃ (as : List Addr) (F9 : Hp), σ = [some (.ref d.r), some (.ref d.sc), some (.ref a2), none] ∧ Same F F9 ∧ ExtF F F9 H2 ∧ SameX [d.sc, A2] H2 H9 ∧ AtsAt K o0 F9 a2 as qs ∧ (allL (f :: rest) ++ as).Nodup ∧ (allL (f :: rest) ++ as).length + pc.length ≤ i + n2 ∧ H9 A2 = some (.lst (refs as)) ∧ (∀ b ∈ as, d.F0 b = none) ∧ RdSt K d F9 H9 Pl (A2 :: C2 :: M) (i + n2) has (f :: rest) [] pc, ?_, ?_⟩
    · refine ⟨_, rfl, d.sc, d.dxs, _, rfl, h2.sca, sc_no (by decide +kernel) (by decide +kernel) (by decide +kernel), d.sc, d.dxs, d.z, _, rfl, h2.sca, h2.gd, rfl, _, rfl, ?_⟩
      have ed : (tl d.z).drop (i + n1) = ((tl d.z).drop i).drop n1 := drop_add
      have base : ∀ {Hx : Hp}, SameX [d.sc, A2] H2 Hx → RdSt K d F Hx Pl (A2 :: C2 :: M) (i + n1) has (f :: rest) [] pc → Hx A2 = some (.lst []) → n2 = n1 → qs = [] → ∃ (as : List Addr) (F9 : Hp), Same F F9 ∧ ExtF F F9 H2 ∧ SameX [d.sc, A2] H2 Hx ∧ AtsAt K o0 F9 a2 as qs ∧ (allL (f :: rest) ++ as).Nodup ∧ (allL (f :: rest) ++ as).length + pc.length ≤ i + n2 ∧ Hx A2 = some (.lst (refs as)) ∧ (∀ b ∈ as, d.F0 b = none) ∧ RdSt K d F9 Hx Pl (A2 :: C2 :: M) (i + n2) has (f :: rest) [] pc := fun {Hx} x1 x2 x3 x4 x5 => by
        subst x4 x5
        exact ⟨[], F, Same.refl _, fun b hb => .inl hb, x1, trivial, by rw [List.append_nil]; exact x2.nl, by rw [List.append_nil]; omega, x3, fun b hb => (by cases hb), x2⟩
      show if (!decide (V.str (sg ((tl d.z).drop (i + n1))) = V.str (Str.ofString ">"))) = true then _ else _
      rw [sg_lit _ (c := 62), ed]
      cases hgt : hP (· == 62) (((tl d.z).drop i).drop n1) with
      | true =>
        refine iteF ?_
        unfold tgA at e2
        rw [gt_bl hgt, if_neg Bool.false_ne_true] at e2
        have e5 := Option.some.inj e2
        obtain ⟨as, F9, b1, b2, b3, b4, b5, b6, b7, b8, b9⟩ := base (fun b o _ ho => ho) h2 hA2' (congrArg Prod.fst e5).symm (congrArg Prod.snd e5).symm
        exact ⟨as, F9, rfl, b1, b2, b3, b4, b5, b6, b7, b8, b9⟩
      | false =>
        refine iteT ?_
        refine ⟨_, rfl, d.sc, d.dxs, _, rfl, h2.sca, sc_no (by decide +kernel) (by decide +kernel) (by decide +kernel), d.sc, d.dxs, d.z, _, _, _, rfl, h2.sca, h2.gd, h2.il, rfl, fun H3 m3 hj3 => ?_⟩
        have h3 := h2.scan m3 (Nat.le_add_right _ _) hj3
        have notsc : ∀ {b : Addr} {o : HO}, H2 b = some o → (∀ fs, o ≠ .ins (CSc K) d.dxs fs) → b ≠ d.sc := fun hb ho e => by
          rw [e, h2.sca] at hb
          exact ho _ (Option.some.inj hb).symm
        have hA3 := m3.1 _ _ (notsc hA2' fun fs e => by cases e) hA2'
        have hn3 : NdA K H3 a2 d2 _ := ⟨m3.1 _ _ (notsc hn2.1 fun fs e => by unfold SlX.SlO at e; cases e) hn2.1, m3.1 _ _ (notsc hn2.2 fun fs e => by cases e) hn2.2⟩
        have sx3 : SameX [d.sc, A2] H2 H3 := SameX.of (by simp) m3.1
        rw [ed] at h3
        refine ⟨_, rfl, ?_⟩
        rw [ed]
        unfold tgA at e2
        cases hbl : hP isBl (((tl d.z).drop i).drop n1) with
        | false =>
          refine iteF ?_
          rw [hbl, if_neg Bool.false_ne_true] at e2
          have e5 := Option.some.inj e2
          rw [hP_bl hbl] at h3
          obtain ⟨as, F9, b1, b2, b3, b4, b5, b6, b7, b8, b9⟩ := base sx3 h3 hA3 (congrArg Prod.fst e5).symm (congrArg Prod.snd e5).symm
          exact ⟨as, F9, rfl, b1, b2, b3, b4, b5, b6, b7, b8, b9⟩
        | true =>
          refine iteT ?_
          rw [hbl, if_pos rfl] at e2
          obtain ⟨v, e6, e7⟩ := Option.map_eq_some_iff.mp e2
          have e8 : n1 + spN isBl (((tl d.z).drop i).drop n1) + v.1 = n2 := congrArg Prod.fst e7
          have e9 : v.2 = qs := congrArg Prod.snd e7
          have ed3 : (tl d.z).drop (i + n1 + spN isBl (((tl d.z).drop i).drop n1)) = (((tl d.z).drop i).drop n1).drop (spN isBl (((tl d.z).drop i).drop n1)) := by rw [drop_add, ed]
          refine ⟨_, rfl, d.r, d.dxr, _, rfl, h3.rd, rd_no (by decide +kernel), _, rfl, d, F, Pl, M, _, has, f :: rest, pc, a2, d2, _, _, v.1, v.2, rfl, h3, hn3, fa2, hA3, by rw [ed3]; exact e6, fun F' H' as s1 s2' s3 s4 s5 s6 s7 s7f s8 => ?_⟩
          have l1 := s4.len
          have l2 := asO_len e6
          rw [e9] at s4 l1 l2
          have e10 : i + n1 + spN isBl (((tl d.z).drop i).drop n1) + v.1 = i + n2 := by omega
          rw [e10] at s8
          refine ⟨as, F', rfl, s1, fun b hb => ?_, sx3.trans s3, s4, s5, ?_, s7, s7f, s8⟩
          · rcases s2' b hb with e | e
            · exact .inl e
            · exact .inr (ScM.free h2.sca m3 e)
          · rw [List.length_append]
            omega
    rintro σ H9 ⟨as, F9, rfl, sF, eF, sx, hat, hnl, hbd, hA9, hf9, h9⟩
    have a2sc : a2 ≠ d.sc := fun e => by
      have := hn2.1
      rw [e, h2.sca] at this
      unfold SlX.SlO at this
      cases this
    have d2sc : d2 ≠ d.sc := fun e => by
      have := hn2.2
      rw [e, h2.sca] at this
      cases this
    have nA2 := hn2.nl hA2'
    have nC2 := hn2.nl hC2'
    have hn9 : NdA K H9 a2 d2 _ := ⟨sx _ _ (by simp only [List.mem_cons, List.not_mem_nil, or_false, not_or]; exact ⟨a2sc, nA2.1.symm⟩) hn2.1, sx _ _ (by simp only [List.mem_cons, List.not_mem_nil, or_false, not_or]; exact ⟨d2sc, nA2.2.symm⟩) hn2.2⟩
    have C2sc : C2 ≠ d.sc := ins_lst h2.sca hC2'
    have hC9 : H9 C2 = some (.lst []) := sx _ _ (by simp only [List.mem_cons, List.not_mem_nil, or_false, not_or]; exact ⟨C2sc, hAC.symm⟩) hC2'
    have fa9 : F9 a2 = none := eF.none fa2 (by rw [hn2.1]; simp)
    have fd9 : F9 d2 = none := eF.none fd2 (by rw [hn2.2]; simp)
    refine ⟨_, rfl, d.sc, d.dxs, _, rfl, h9.sca, sc_no (by decide +kernel) (by decide +kernel) (by decide +kernel), d.sc, d.dxs, d.z, _, rfl, h9.sca, h9.gd, rfl, ?_⟩
    rw [sg_lit _ (c := 62)]
    have ed9 : (tl d.z).drop (i + n2) = ((tl d.z).drop i).drop n2 := drop_add
    rw [ed9]
    have key : ∀ {H10 : Hp} {n3 : Nat}, ScM K H9 H10 d.sc d.dxs d.z (i + n2 + n3) → RdSt K d F9 H10 Pl (A2 :: C2 :: M) (i + n2 + n3) has (f :: rest) [] pc → 1 ≤ n3 →
        NdA K H10 a2 d2 (newR A2 C2 (.str (Str.ofString "element")) (.str (mkS (((tl d.z).drop i).take n1))) (.str (Str.ofString ""))) ∧ (allL (f :: rest)).length + pc.length + 1 ≤ i + n2 + n3 + 1 ∧ H10 A2 = some (.lst (refs as)) ∧ H10 C2 = some (.lst []) := by
      intro H10 n3 m10 h10 hn3
      have notsc : ∀ {b : Addr} {o : HO}, H9 b = some o → (∀ fs, o ≠ .ins (CSc K) d.dxs fs) → b ≠ d.sc := fun hb ho e => by
        rw [e, h9.sca] at hb
        exact ho _ (Option.some.inj hb).symm
      refine ⟨⟨m10.1 _ _ a2sc hn9.1, m10.1 _ _ d2sc hn9.2⟩, ?_, m10.1 _ _ (ins_lst h9.sca hA9) hA9, m10.1 _ _ C2sc hC9⟩
      rw [List.length_append] at hbd
      omega
    have aft : ∀ {H10 F' H' : Hp} {P' : Addr} {f' : Fr} {n3 : Nat}, RdSt K d F9 H10 Pl (A2 :: C2 :: M) (i + n2 + n3) has (f :: rest) [] pc → 1 ≤ n3 → H10 A2 = some (.lst (refs as)) → H10 C2 = some (.lst []) → SameX [d.r, f.C, a2] H10 H' → Same F9 F' →
        (allL (f' :: rest)).length ≤ (allL (f :: rest)).length + pc.length → (∀ b ∈ allL (f' :: rest), b ∈ allL (f :: rest) ∨ F9 b = none) → RdSt K d F' H' P' (A2 :: C2 :: M) (i + n2 + n3) has (f' :: rest) [a2] [] →
        H' A2 = some (.lst (refs as)) ∧ H' C2 = some (.lst []) ∧ (allL (f' :: rest) ++ as).Nodup ∧ (allL (f' :: rest) ++ as).length + 1 + 0 ≤ i + n2 + n3 + 1 := by
      intro H10 F' H' P' f' n3 h10 hn3 hA10 hC10 sx' sF' hl hfr h11
      refine ⟨sx' _ _ ?_ hA10, sx' _ _ ?_ hC10, ?_, ?_⟩
      · simp only [List.mem_cons, List.not_mem_nil, or_false, not_or]
        exact ⟨ins_lst h10.rd hA10, nA.2.1 f List.mem_cons_self, nA2.1⟩
      · simp only [List.mem_cons, List.not_mem_nil, or_false, not_or]
        exact ⟨ins_lst h10.rd hC10, nC.2.1 f List.mem_cons_self, nC2.1⟩
      · have n9 := List.nodup_append.mp hnl
        rw [List.nodup_append]
        refine ⟨h11.nl, n9.2.1, fun b hb c hc e => ?_⟩
        rcases hfr b hb with hb | hb
        · exact n9.2.2 b hb c hc e
        · exact hat.some c hc (e ▸ hb)
      · rw [List.length_append] at hbd ⊢
        omega
    rcases e3 with ⟨rfl, hgt, rfl⟩ | ⟨rfl, hgt, hcl, rfl⟩
    · rw [hgt]
      refine ⟨_, rfl, d.sc, d.dxs, _, rfl, h9.sca, sc_no (by decide +kernel) (by decide +kernel) (by decide +kernel), _, rfl, _, rfl, ?_⟩
      refine iteT ?_
      have ex : exO [62] ((tl d.z).drop (i + n2)) = some (1, .non) := by
        rw [ed9]
        cases q : ((tl d.z).drop i).drop n2 with
        | nil => rw [q] at hgt; cases hgt
        | cons c r =>
          rw [q] at hgt
          have := of_decide_eq_true hgt
          subst this
          rfl
      refine ⟨[62], by decide, d.sc, d.dxs, d.z, _, 1, _, rfl, h9.sca, h9.gd, h9.il, ex, fun H10 m10 hj10 => ?_⟩
      have h10 := h9.scan m10 (Nat.le_add_right _ _) hj10
      obtain ⟨hn10, hbp, hA10, hC10⟩ := key m10 h10 (Nat.le_refl _)
      refine ⟨_, rfl, d.r, d.dxr, _, rfl, h10.rd, rd_no (by decide +kernel), _, rfl, d, F9, Pl, M, _, has, f, rest, pc, a2, d2, _, rfl, h10, hn10, fa9, fd9, hbp, fun F' H' P' f' sF' eF' sx' fx hn11 hl hfr h11 => ?_⟩
      obtain ⟨hA11, hC11, hnl11, hbd11⟩ := aft h10 (Nat.le_refl _) hA10 hC10 sx' sF' hl hfr h11
      have fa11 : F' a2 = none := eF'.none fa9 (by rw [hn10.1]; simp)
      have fd11 : F' d2 = none := eF'.none fd9 (by rw [hn10.2]; simp)
      have h12 := h11.push (nm := ((tl d.z).drop i).take n1) (as := as) (qs := qs) hn11 hA11 hC11 fa11 fd11 (hat.keep sF') hnl11 hf9 hbd11
      refine ⟨_, rfl, _, rfl, ?_⟩
      refine iteT ?_
      refine ⟨_, rfl, _, rfl, d.r, CRd K, d.dxr, _, rfl, h11.rd, cls_Reader T, na_Reader_here T, (by show 5 < 1000; decide), ?_⟩
      rw [rd_put_here]
      unfold tgG at hg
      rw [etg] at hg
      have hg2 := Option.some.inj hg
      have g1 : n2 + 1 = n := congrArg Prod.fst hg2
      have g2 := congrArg (fun x => x.2.1) hg2
      have g3 : [] = pc' := congrArg (fun x => x.2.2) hg2
      dsimp only at g2
      rw [← g1, ← g3] at k
      refine k _ _ P' _ (sF.trans (sF'.trans (addF_same fun b hb => ?_))) ?_ h12
      · simp only [List.mem_cons, List.not_mem_nil, or_false] at hb
        rcases hb with rfl | rfl | rfl
        · exact fa11
        · exact fd11
        · exact (h11.mf _ List.mem_cons_self).1
      · rw [← g2]
        show _ :: (f'.nm, f'.at_, f'.ks) :: _ = _
        rw [fx.nm, fx.at_, fx.ks]
        rfl
    · rw [hgt]
      refine ⟨_, rfl, d.sc, d.dxs, _, rfl, h9.sca, sc_no (by decide +kernel) (by decide +kernel) (by decide +kernel), _, rfl, _, rfl, ?_⟩
      refine iteF ?_
      have ex : exO [47, 62] ((tl d.z).drop (i + n2)) = some (2, .non) := by
        rw [ed9]
        exact if_pos hcl
      refine ⟨[47, 62], by decide, d.sc, d.dxs, d.z, _, 2, _, rfl, h9.sca, h9.gd, h9.il, ex, fun H10 m10 hj10 => ?_⟩
      have h10 := h9.scan m10 (Nat.le_add_right _ _) hj10
      obtain ⟨hn10, hbp, hA10, hC10⟩ := key m10 h10 (by decide)
      refine ⟨_, rfl, d.r, d.dxr, _, rfl, h10.rd, rd_no (by decide +kernel), _, rfl, d, F9, Pl, M, _, has, f, rest, pc, a2, d2, _, rfl, h10, hn10, fa9, fd9, hbp, fun F' H' P' f' sF' eF' sx' fx hn11 hl hfr h11 => ?_⟩
      obtain ⟨hA11, hC11, hnl11, hbd11⟩ := aft h10 (by decide) hA10 hC10 sx' sF' hl hfr h11
      have fa11 : F' a2 = none := eF'.none fa9 (by rw [hn10.1]; simp)
      have fd11 : F' d2 = none := eF'.none fd9 (by rw [hn10.2]; simp)
      refine ⟨_, rfl, _, rfl, ?_⟩
      refine iteF ?_
      unfold tgG at hg
      rw [etg] at hg
      have hg2 := Option.some.inj hg
      have g1 : n2 + 2 = n := congrArg Prod.fst hg2
      have g2 := congrArg (fun x => x.2.1) hg2
      have g3 : [] = pc' := congrArg (fun x => x.2.2) hg2
      dsimp only at g2
      rw [← g1, ← g3] at k
      have n2' : (A2 :: C2 :: (M ++ P' :: (f' :: rest).map (·.C))).Nodup := h11.nc
      rw [List.nodup_cons, List.nodup_cons] at n2'
      obtain ⟨nA', nC', _⟩ := n2'
      have hMA := h11.Mn A2 List.mem_cons_self
      have hMC := h11.Mn C2 (List.mem_cons_of_mem _ List.mem_cons_self)
      have hS : ∀ b ∈ [a2, d2, A2, C2], F' b = none := by
        intro b hb
        simp only [List.mem_cons, List.not_mem_nil, or_false] at hb
        rcases hb with rfl | rfl | rfl | rfl
        · exact fa11
        · exact fd11
        · exact (h11.mf _ List.mem_cons_self).1
        · exact (h11.mf _ (List.mem_cons_of_mem _ List.mem_cons_self)).1
      have ins_nd : ∀ {b : Addr} {C dx : Addr} {fs : List (Str × V)}, H' b = some (.ins C dx fs) → b ∉ [a2, d2, A2, C2] := by
        intro b C dx fs hb hm
        simp only [List.mem_cons, List.not_mem_nil, or_false] at hm
        rcases hm with rfl | rfl | rfl | rfl
        · rw [hn11.1] at hb; unfold SlX.SlO at hb; cases hb
        · rw [hn11.2] at hb; cases hb
        · rw [hA11] at hb; cases hb
        · rw [hC11] at hb; cases hb
      have lst_nd : ∀ {b : Addr} {xs : List V}, H' b = some (.lst xs) → b ≠ A2 → b ≠ C2 → b ∉ [a2, d2, A2, C2] := by
        intro b xs hb n1 n3 hm
        simp only [List.mem_cons, List.not_mem_nil, or_false] at hm
        rcases hm with rfl | rfl | rfl | rfl
        · rw [hn11.1] at hb; unfold SlX.SlO at hb; cases hb
        · rw [hn11.2] at hb; cases hb
        · exact n1 rfl
        · exact n3 rfl
      have h12 := h11.dropM.freeze (S := [a2, d2, A2, C2]) (l := a2 :: (as ++ [])) (dn := .el (((tl d.z).drop i).take n1) qs []) hS (ins_nd h11.rd) (ins_nd h11.sca) (lst_nd h11.pl hMA.1.symm hMC.1.symm) (fun x hx => by
          obtain ⟨xs, hxs⟩ := h11.cs.at_ x hx
          exact lst_nd hxs (hMA.2 x hx).symm (hMC.2 x hx).symm) (fun m hm => by
          obtain ⟨_, xs, hxs⟩ := h11.mf m (List.mem_cons_of_mem _ (List.mem_cons_of_mem _ hm))
          exact lst_nd hxs (fun e => nA' (List.mem_cons_of_mem _ (e ▸ List.mem_append_left _ hm))) (fun e => nC' (e ▸ List.mem_append_left _ hm))) ?_ ?_ (fun b hb => by
          rw [List.append_nil] at hb
          rcases List.mem_cons.mp hb with rfl | hb
          · exact f0n h11.f0 fa11
          · exact hf9 b hb) ?_
      · refine k _ _ P' _ (sF.trans (sF'.trans (addF_same hS))) ?_ h12
        rw [← g2]
        show (f'.nm, f'.at_, f'.ks ++ _) :: _ = _
        rw [fx.nm, fx.at_, fx.ks]
        rfl
      · rw [NodeAt]
        refine ⟨d2, A2, C2, as, [], [], rfl, ⟨?_, ?_⟩, ?_, ?_, hat.keep (sF'.trans (addF_same hS)), ?_⟩
        · rw [addF_in (by simp)]
          exact hn11.1
        · rw [addF_in (by simp)]
          exact hn11.2
        · rw [addF_in (by simp)]
          exact hA11
        · rw [addF_in (by simp)]
          exact hC11
        · rw [KidsAt]
          exact ⟨rfl, rfl⟩
      · rw [List.append_nil]
        have e : (allL (f' :: rest) ++ a2 :: as).Perm (a2 :: (allL (f' :: rest) ++ as)) := List.perm_middle
        rw [e.nodup_iff, List.nodup_cons]
        refine ⟨fun hm => ?_, hnl11⟩
        rcases List.mem_append.mp hm with hm | hm
        · exact h11.st.some a2 hm fa11
        · exact hat.some a2 hm fa9
      · simp only [List.length_append, List.length_cons, List.length_nil] at hbd11 ⊢
        omega
end
end PX
/-! DXq -/
namespace PX
open PySem PySem.Spec PyProof.Rows L2 TL
/-- an end tag of a name -/
def etO (nm r : List Nat) : Option Nat :=
  if r.take (nm.length + 1) = 47 :: nm then
    (if hP (· == 62) ((r.drop (nm.length + 1)).drop (spN isBl (r.drop (nm.length + 1)))) then some (nm.length + 1 + spN isBl (r.drop (nm.length + 1)) + 1) else none)
  else none
def etG (r : List Nat) (f : PF) : List PF → List (List Nat) → Option (Nat × List PF × List (List Nat))
  | [], _ => none
  | g :: rest, pc => (etO f.1 r).map fun n => (n, (g.1, g.2.1, g.2.2 ++ [.el f.1 f.2.1 (f.2.2 ++ txN pc)]) :: rest, [])
theorem etO_fast {nm r : List Nat} (h : r.take (nm.length + 2) = 47 :: (nm ++ [62])) : etO nm r = some (nm.length + 2) := by
  have h1 : r.take (nm.length + 1) = 47 :: nm := by
    have := congrArg (List.take (nm.length + 1)) h
    rw [List.take_take, Nat.min_eq_left (by omega)] at this
    rw [this]
    show (47 :: (nm ++ [62])).take (nm.length + 1) = _
    rw [List.take_succ_cons, List.take_left']
    rfl
  have h2 : ∃ q, r.drop (nm.length + 1) = 62 :: q := by
    have e : r = (47 :: (nm ++ [62])) ++ r.drop (nm.length + 2) := by
      rw [← h, List.take_append_drop]
    refine ⟨r.drop (nm.length + 2), ?_⟩
    have := congrArg (List.drop (nm.length + 1)) e
    rw [this]
    show (47 :: (nm ++ [62] ++ r.drop (nm.length + 2))).drop (nm.length + 1) = _
    rw [List.drop_succ_cons, List.append_assoc, List.drop_left']
    · rfl
    · rfl
  obtain ⟨q, h2⟩ := h2
  unfold etO
  rw [if_pos h1, h2]
  rfl
section
variable {P : Program} {w : World} {K : PySem.W.Frag} {mg : Str → Option Value} {base : Heap}
theorem ok_read_end_tag (T : Tx w K mg) : Ok P w K mg base CX0 4 (He.fAd K d_Reader_read_end_tag.at_) p_Reader_read_end_tag (spStep K etG) := by
  obtain ⟨fd, F⟩ := f_Reader_read_end_tag T
  obtain ⟨fB, GB, bB, kB⟩ := ok_read_blanks (P := P) (base := base) T
  obtain ⟨fX, GX, bX, kX⟩ := ok_expect (P := P) (base := base) T
  obtain ⟨fU, GU, bU, kU⟩ := ok_put_text (P := P) (base := base) T
  refine ⟨fd, ?_, b_Reader_read_end_tag F, F.kp⟩
  refine F.ok sc_Reader_read_end_tag (fun vs H Q E h => ?_) (fun cdv A outer s H vs Q E hr h => ?_)
  · obtain ⟨d, F, Pl, M, i, has, f, rest, pc, n, ss, pc', rfl, _⟩ := h
    rfl
  · obtain ⟨d, F, Pl, M, i, has, f, rest, pc, n, ss, pc', rfl, h, hbd0, hg, k⟩ := h
    have nd := sc_Reader_read_end_tag.nd
    refine ⟨_, PSs.nox (pss_cons (ps_set (i := 1) nd rfl (.inl rfl) (pe_fld (pv 0) rfl)) (pss_cons (ps_set (i := 2) nd rfl (.inl rfl) (pe_op op_add_str pe_str (SlX.pe_sl (pe_fld (pv 0) rfl)))) (Evl.pss_cut ((ps_if ((pt_val (pe_bm PySem.F.plainAttrs_str PySem.F.slot_str_startswith PySem.F.type_str_startswith mt_startswith3 (pe_fld (pv 1) rfl) (pa_cons (pe_op op_add_str (pv 2) pe_str) (pa_cons (pe_fld (pv 1) rfl) pa_nil))))) (pss_one (ps_fldaug (pv 1) (pe_op op_add (pe_callB call_len (by rfl) (n_len T) PySem.boot_len (pa_cons (pv 2) pa_nil)) pe_int) ip_add)) (pss_cons (ps_expr (pe_meth (E := E0) (pv 1) (cls_Scanner T) (m_Scanner_expect T) GX (hr.mono (by decide)) bX .nil pass0 (pa_cons (pv 2) pa_nil))) (pss_cons (ps_expr (pe_meth0 (E := E0) (pv 1) (cls_Scanner T) (m_Scanner_read_blanks T) GB (hr.mono (by decide)) bB .nil pass0)) (pss_one (ps_expr (pe_meth (E := E0) (pv 1) (cls_Scanner T) (m_Scanner_expect T) GX (hr.mono (by decide)) bX .nil pass0 (pa_cons (pe_str) pa_nil)))))))) (Evl.pss_cut ((ps_if ((pt_cmpR (op_neNil (Nat.lt_of_le_of_lt (Nat.le_add_right _ 64) hr.units)) (pe_fld (pv 0) rfl) (pe_lst pa_nil) (nomark _))) (pss_one (ps_expr (pe_meth0 (E := E0) (pv 0) (cls_Reader T) (m_Reader_put_text T) GU (hr.mono (by decide)) bU .nil pass0))) pss_nil)) (pss_one (ps_fld (pv 0) (SlX.pe_sl (pe_fld (pv 0) rfl)) rfl)))))), ?_⟩
    have hlen : d.z.length = (tl d.z).length := len_tl d.z
    have hgl := h.gd.len
    cases rest with
    | nil => cases hg
    | cons g rest =>
    have hg2 : (etO f.nm ((tl d.z).drop i)).map (fun n => (n, (g.nm, g.at_, g.ks ++ [DN.el f.nm f.at_ (f.ks ++ txN pc)]) :: rest.map Fr.pl, ([] : List (List Nat)))) = some (n, ss, pc') := hg
    obtain ⟨n', e1, e2⟩ := Option.map_eq_some_iff.mp hg2
    have g1 : n' = n := congrArg Prod.fst e2
    have g2 := congrArg (fun x => x.2.1) e2
    have g3 : [] = pc' := congrArg (fun x => x.2.2) e2
    dsimp only at g2
    subst g1 g3
    have fE := h.st.1
    have nf := fE.1.keep h.sm
    have hnm : ((tl d.z).drop i).take (f.nm.length + 1) = 47 :: f.nm := by
      unfold etO at e1
      split at e1
      · assumption
      · cases e1
    have hnl : f.nm.length + 1 ≤ 400000 := by
      have := congrArg List.length hnm
      rw [List.length_take, List.length_cons, List.length_drop] at this
      omega
    refine ⟨_, rfl, d.r, CRd K, d.dxr, _, _, rfl, h.rd, cls_Reader T, na_Reader_scan T, rd_scan, _, rfl, d.r, CRd K, d.dxr, _, _, rfl, h.rd, cls_Reader T, na_Reader_here T, rd_here, f.a, CNd K, f.dx, _, _, 4, _, rfl, nf.slt, scl_N T, slt_name T, rfl, ?_⟩
    refine ⟨_, mkS f.nm, rfl, rfl, (by rw [mkS_len, sizeLine_eq]; show 1 + _ ≤ _; omega), ?_⟩
    rw [show Str.ofString "/" ++ mkS f.nm = mkS (47 :: f.nm) from cat_mk [47] f.nm]
    refine ⟨fun σ H1 => σ = [some (.ref d.r), some (.ref d.sc), some (.str (mkS (47 :: f.nm)))] ∧ RdSt K d F H1 Pl M (i + n') has (f :: g :: rest) [] pc, ?_, ?_⟩
    · refine ⟨_, rfl, d.sc, CSc K, d.dxs, _, _, rfl, h.sca, cls_Scanner T, na_Scanner_text T, sc_text, rfl, _, rfl, mkS (47 :: f.nm), _, rfl, rfl, (by rw [mkS_len, sizeLine_eq]; show (47 :: f.nm).length + 1 ≤ _; rw [List.length_cons]; omega), ?_⟩
      rw [show mkS (47 :: f.nm) ++ Str.ofString ">" = mkS (47 :: (f.nm ++ [62])) from cat_mk (47 :: f.nm) [62]]
      refine ⟨_, rfl, d.sc, CSc K, d.dxs, _, _, rfl, h.sca, cls_Scanner T, na_Scanner_at T, sc_at, _, _, _, rfl, rfl, ?_⟩
      rw [starts3 _ _ _ h.il, tl_mkS, show (47 :: (f.nm ++ [62])).length = f.nm.length + 2 by simp]
      refine ⟨_, rfl, ?_⟩
      by_cases hfast : ((tl d.z).drop i).take (f.nm.length + 2) = 47 :: (f.nm ++ [62])
      · refine iteT ?_ (decide_eq_true hfast)
        rw [etO_fast hfast] at e1
        have e1' : f.nm.length + 2 = n' := Option.some.inj e1
        subst e1'
        have hl := congrArg List.length hfast
        rw [List.length_take, List.length_drop, List.length_cons, List.length_append, List.length_singleton] at hl
        refine ⟨_, rfl, d.sc, CSc K, d.dxs, _, _, rfl, h.sca, cls_Scanner T, na_Scanner_at T, sc_at, _, rfl, _, _, rfl, ⟨by rw [mkS_len, sizeLine_eq, List.length_cons]; omega, rfl⟩, _, _, rfl, rfl, _, _, rfl, rfl, d.dxs, _, h.sca, (by show 3 < 1000; decide), ?_⟩
        rw [sc_put (j := i + (f.nm.length + 2)) (by show (i : Int) + (((mkS (47 :: f.nm)).length : Int) + 1) = _; rw [mkS_len, List.length_cons]; omega)]
        exact ⟨rfl, h.scan (ScM.refl h.sca).up (Nat.le_add_right _ _) (by omega)⟩
      · refine iteF ?_ (decide_eq_false hfast)
        unfold etO at e1
        rw [if_pos hnm] at e1
        have ed1 : (tl d.z).drop (i + (f.nm.length + 1)) = ((tl d.z).drop i).drop (f.nm.length + 1) := drop_add
        have ex1 : exO (47 :: f.nm) ((tl d.z).drop i) = some (f.nm.length + 1, .non) := if_pos hnm
        refine ⟨_, rfl, d.sc, d.dxs, _, rfl, h.sca, sc_no (by decide +kernel) (by decide +kernel) (by decide +kernel), _, rfl, 47 :: f.nm, by rw [List.length_cons]; omega, d.sc, d.dxs, d.z, i, _, _, rfl, h.sca, h.gd, h.il, ex1, fun H1 m1 hj1 => ?_⟩
        have h1 := h.scan m1 (Nat.le_add_right _ _) hj1
        refine ⟨_, rfl, d.sc, d.dxs, _, rfl, h1.sca, sc_no (by decide +kernel) (by decide +kernel) (by decide +kernel), d.sc, d.dxs, d.z, _, _, _, rfl, h1.sca, h1.gd, h1.il, rfl, fun H2 m2 hj2 => ?_⟩
        have h2 := h1.scan m2 (Nat.le_add_right _ _) hj2
        rw [ed1] at h2 hj2
        cases hgt : hP (· == 62) ((((tl d.z).drop i).drop (f.nm.length + 1)).drop (spN isBl (((tl d.z).drop i).drop (f.nm.length + 1)))) with
        | false =>
          rw [hgt, if_neg Bool.false_ne_true] at e1
          cases e1
        | true =>
          rw [hgt, if_pos rfl] at e1
          have e1' := Option.some.inj e1
          have ex2 : exO [62] ((tl d.z).drop (i + (f.nm.length + 1) + spN isBl (((tl d.z).drop i).drop (f.nm.length + 1)))) = some (1, .non) := by
            rw [drop_add, ed1]
            cases q : (((tl d.z).drop i).drop (f.nm.length + 1)).drop (spN isBl (((tl d.z).drop i).drop (f.nm.length + 1))) with
            | nil => rw [q] at hgt; cases hgt
            | cons c r =>
              rw [q] at hgt
              have := of_decide_eq_true hgt
              subst this
              rfl
          refine ⟨_, rfl, d.sc, d.dxs, _, rfl, h2.sca, sc_no (by decide +kernel) (by decide +kernel) (by decide +kernel), [62], by decide, d.sc, d.dxs, d.z, _, 1, _, rfl, h2.sca, h2.gd, h2.il, ex2, fun H3 m3 hj3 => ?_⟩
          have h3 := h2.scan m3 (Nat.le_add_right _ _) hj3
          exact ⟨rfl, h3.on (by omega)⟩
    rintro σ H1 ⟨rfl, h1⟩
    refine ⟨fun σ H2 => σ = [some (.ref d.r), some (.ref d.sc), some (.str (mkS (47 :: f.nm)))] ∧ ∃ F2 P2 f2, Same F F2 ∧ FrX f f2 (txN pc) ∧ RdSt K d F2 H2 P2 M (i + n') has (f2 :: g :: rest) [] [], ?_, ?_⟩
    · refine ⟨_, rfl, d.r, CRd K, d.dxr, _, _, rfl, h1.rd, cls_Reader T, na_Reader_pieces T, rd_pieces, by decide, fun q hq => ?_⟩
      have h2 := h1.more (same_new hq (o := .lst []))
      refine ⟨Pl, q, pcV pc, rfl, rfl, SqL.of h2.pl, SqL.of upd_same, _, rfl, ?_⟩
      cases pc with
      | nil =>
        refine iteF ?_
        exact ⟨rfl, F, Pl, f, Same.refl _, ⟨rfl, rfl, rfl, rfl, rfl, rfl, rfl, (List.append_nil _).symm⟩, h2⟩
      | cons t pc =>
        refine iteT ?_
        exact ⟨_, rfl, d.r, d.dxr, _, rfl, h2.rd, rd_no (by decide +kernel), d, F, Pl, M, _, has, f, g :: rest, _, rfl, h2, by simp, fun F' H' P' f' sF eF sx fx hl hfr h3 => ⟨rfl, F', P', f', sF, fx, h3⟩⟩
    · rintro σ H2 ⟨rfl, F2, P2, f2, sF, fx, h2⟩
      have nf2 := h2.st.1.1.keep h2.sm
      obtain ⟨F3, sF3, h3⟩ := h2.pop
      refine ⟨_, rfl, d.r, CRd K, d.dxr, _, _, rfl, h2.rd, cls_Reader T, na_Reader_here T, rd_here, f2.a, CNd K, f2.dx, _, _, 6, _, rfl, nf2.slt, scl_N T, slt_parent T, rfl, _, rfl, d.r, CRd K, d.dxr, _, rfl, h2.rd, cls_Reader T, na_Reader_here T, (by show 5 < 1000; decide), ?_⟩
      show Q .non (upd H2 d.r (.ins (CRd K) d.dxr (putF "here" (.ref g.a) (rdF d.sc (rootOf (f2 :: g :: rest)) (topOf (f2 :: g :: rest)) P2 has))))
      rw [rd_put_here]
      refine k _ _ P2 _ (sF.trans sF3) ?_ h3
      rw [← g2]
      show (g.nm, g.at_, g.ks ++ [DN.el f2.nm f2.at_ f2.ks]) :: _ = _
      rw [fx.nm, fx.at_, fx.ks]
end
end PX
/-! DXr -/
namespace PX
open PySem PySem.Spec PyProof.Rows L2 TL
section
variable {P : Program} {w : World} {K : PySem.W.Frag} {mg : Str → Option Value} {base : Heap}
theorem put_leaf {d : Rd} {F H1 H2 : Hp} {Pl : Addr} {M : List Addr} {i : Nat} {has : Bool} {f : Fr} {rest : List Fr} {pc : List (List Nat)} {a2 d2 A2 C2 : Addr} {k : Nat} {nm : Option (List Nat)} {t : List Nat} {Q : VK} {E : XK}
    (h : RdSt K d F H1 Pl M i has (f :: rest) [] pc) (bd : (allL (f :: rest)).length + pc.length + 1 ≤ i + 1) (s2 : Same H1 H2) (ha2 : H1 a2 = none) (hd2 : H1 d2 = none) (hA2 : H1 A2 = none) (hC2 : H1 C2 = none) (hAC : A2 ≠ C2)
    (hn2 : NdA K H2 a2 d2 (newR A2 C2 (.str (kS k)) (nmV nm) (.str (mkS t)))) (hA2' : H2 A2 = some (.lst [])) (hC2' : H2 C2 = some (.lst []))
    (kk : ∀ F' H' P' stk', Same F F' → stk'.map Fr.pl = (f.nm, f.at_, f.ks ++ txN pc ++ [.lf k nm t]) :: rest.map Fr.pl → RdSt K d F' H' P' M i has stk' [] [] → Q .non H') : spPu K [.ref d.r, .ref a2] H2 Q E := by
  obtain ⟨fa2, _⟩ := h.fresh ha2
  obtain ⟨fd2, _⟩ := h.fresh hd2
  obtain ⟨fA2, nA⟩ := h.fresh hA2
  obtain ⟨fC2, nC⟩ := h.fresh hC2
  have h2 := (h.more s2).addM hA2' hC2' fA2 fC2 hAC nA nC
  have nA2 := hn2.nl hA2'
  have nC2 := hn2.nl hC2'
  refine ⟨d, F, Pl, M, i, has, f, rest, pc, a2, d2, _, rfl, h2, hn2, fa2, fd2, bd, fun F' H' P' f' sF eF sx fx hn3 hl hfr h3 => ?_⟩
  have fa3 : F' a2 = none := eF.none fa2 (by rw [hn2.1]; simp)
  have fd3 : F' d2 = none := eF.none fd2 (by rw [hn2.2]; simp)
  have hA3 : H' A2 = some (.lst []) := sx _ _ (by simp only [List.mem_cons, List.not_mem_nil, or_false, not_or]; exact ⟨ins_lst h2.rd hA2', nA.2.1 f List.mem_cons_self, nA2.1⟩) hA2'
  have hC3 : H' C2 = some (.lst []) := sx _ _ (by simp only [List.mem_cons, List.not_mem_nil, or_false, not_or]; exact ⟨ins_lst h2.rd hC2', nC.2.1 f List.mem_cons_self, nC2.1⟩) hC2'
  obtain ⟨F4, f4, sF4, _, e4, h4⟩ := h3.leafM (k := k) (nm := nm) (t := t) hn3 hA3 hC3 fa3 fd3
  refine kk F4 H' P' _ (sF.trans sF4) ?_ h4
  rw [e4]
  show (f'.nm, f'.at_, f'.ks ++ [DN.lf k nm t]) :: _ = _
  rw [fx.nm, fx.at_, fx.ks]
/-! ### comments -/
def coO (r : List Nat) : Option (Nat × List Nat) :=
  if r.take 3 = [33, 45, 45] then match fdN [45, 45] (r.drop 3) with
    | none => none
    | some j => if hP (· == 62) (r.drop (3 + (j + 2))) then some (3 + (j + 2) + 1, (r.drop 3).take j) else none
  else none
def lfG (g : List Nat → Option (Nat × DN)) (r : List Nat) (f : PF) (rest : List PF) (pc : List (List Nat)) : Option (Nat × List PF × List (List Nat)) :=
  (g r).map fun u => (u.1, (f.1, f.2.1, f.2.2 ++ txN pc ++ [u.2]) :: rest, [])
def coG := lfG fun r => (coO r).map fun u => (u.1, DN.lf 1 none u.2)
theorem coO_sp {r t : List Nat} {n : Nat} (h : coO r = some (n, t)) : ∃ j, r.take 3 = [33, 45, 45] ∧ fdN [45, 45] (r.drop 3) = some j ∧ (∃ q, r.drop (3 + (j + 2)) = 62 :: q) ∧ n = 3 + (j + 2) + 1 ∧ t = (r.drop 3).take j := by
  unfold coO at h
  by_cases e1 : r.take 3 = [33, 45, 45]
  · rw [if_pos e1] at h
    cases e2 : fdN [45, 45] (r.drop 3) with
    | none => rw [e2] at h; cases h
    | some j =>
      rw [e2] at h
      dsimp only at h
      cases e3 : r.drop (3 + (j + 2)) with
      | nil => rw [e3] at h; cases h
      | cons c q =>
        rw [e3] at h
        by_cases e4 : c = 62
        · subst e4
          have := Option.some.inj h
          exact ⟨j, e1, rfl, ⟨q, e3⟩, (congrArg Prod.fst this).symm, (congrArg Prod.snd this).symm⟩
        · rw [if_neg (by show ¬ ((c == 62) = true); simp [e4])] at h
          cases h
  · rw [if_neg e1] at h
    cases h
theorem ok_read_comment (T : Tx w K mg) : Ok P w K mg base CX0 5 (He.fAd K d_Reader_read_comment.at_) p_Reader_read_comment (spStep K coG) := by
  obtain ⟨fd, F⟩ := f_Reader_read_comment T
  obtain ⟨fI, GI, bI, kI⟩ := ok_Node_init (P := P) (base := base) T
  obtain ⟨fR, GR, bR, kR⟩ := ok_read_up_to (P := P) (base := base) T
  obtain ⟨fX, GX, bX, kX⟩ := ok_expect (P := P) (base := base) T
  obtain ⟨fU, GU, bU, kU⟩ := ok_put (P := P) (base := base) T
  refine ⟨fd, ?_, b_Reader_read_comment F, F.kp⟩
  refine F.ok sc_Reader_read_comment (fun vs H Q E h => ?_) (fun cdv A outer s H vs Q E hr h => ?_)
  · obtain ⟨d, F, Pl, M, i, has, f, rest, pc, n, ss, pc', rfl, _⟩ := h
    rfl
  · obtain ⟨d, F, Pl, M, i, has, f, rest, pc, n, ss, pc', rfl, h, hbd0, hg, k⟩ := h
    have nd := sc_Reader_read_comment.nd
    refine ⟨_, PSs.nox (pss_cons (ps_expr (pe_meth (E := E0) (pe_fld (pv 0) rfl) (cls_Scanner T) (m_Scanner_expect T) GX (hr.mono (by decide)) bX .nil pass0 (pa_cons (pe_str) pa_nil))) (pss_cons (ps_set (i := 1) nd rfl (.inl rfl) (pe_meth (E := E0) (pe_fld (pv 0) rfl) (cls_Scanner T) (m_Scanner_read_up_to T) GR (hr.mono (by decide)) bR .nil pass0 (pa_cons (pe_str) pa_nil))) (pss_cons (ps_expr (pe_meth (E := E0) (pe_fld (pv 0) rfl) (cls_Scanner T) (m_Scanner_expect T) GX (hr.mono (by decide)) bX .nil pass0 (pa_cons (pe_str) pa_nil))) (pss_one (ps_expr (pe_meth (E := E0) (pv 0) (cls_Reader T) (m_Reader_put T) GU (hr.mono (by decide)) bU .nil pass0 (pa_cons (pe_make (E := E0) (mk_Node T) GI (hr.mono (by decide)) rfl (g_Node T) bI .nil pass0 (pa_cons (pe_str) (pa_cons (pe_non) (pa_cons (pv 1) pa_nil)))) pa_nil))))))), ?_⟩
    obtain ⟨u, e0, e5⟩ := Option.map_eq_some_iff.mp hg
    obtain ⟨u2, e6, e7⟩ := Option.map_eq_some_iff.mp e0
    subst e7
    obtain ⟨j, e1, e2, ⟨q, e3⟩, e4, e8⟩ := coO_sp e6
    have g1 : u2.1 = n := congrArg Prod.fst e5
    have g2 := congrArg (fun x => x.2.1) e5
    have g3 : [] = pc' := congrArg (fun x => x.2.2) e5
    dsimp only at g2
    rw [e8] at g2
    rw [e4] at g1
    subst g1 g3
    have ex1 : exO [33, 45, 45] ((tl d.z).drop i) = some (3, .non) := if_pos e1
    refine ⟨_, rfl, d.r, CRd K, d.dxr, _, _, rfl, h.rd, cls_Reader T, na_Reader_scan T, rd_scan, d.sc, d.dxs, _, rfl, h.sca, sc_no (by decide +kernel) (by decide +kernel) (by decide +kernel), [33, 45, 45], by decide, d.sc, d.dxs, d.z, i, _, _, rfl, h.sca, h.gd, h.il, ex1, fun H1 m1 hj1 => ?_⟩
    have h1 := h.scan m1 (Nat.le_add_right _ _) hj1
    have up : upO [45, 45] ((tl d.z).drop (i + 3)) = some (j + 2, .str (mkS ((((tl d.z).drop i).drop 3).take j))) := by
      unfold upO
      rw [drop_add, e2]
      rfl
    refine ⟨_, rfl, d.r, CRd K, d.dxr, _, _, rfl, h1.rd, cls_Reader T, na_Reader_scan T, rd_scan, d.sc, d.dxs, _, rfl, h1.sca, sc_no (by decide +kernel) (by decide +kernel) (by decide +kernel), [45, 45], by decide, by decide, d.sc, d.dxs, d.z, _, _, _, rfl, h1.sca, h1.gd, h1.il, up, fun H2 m2 hj2 => ?_⟩
    have h2 := h1.scan m2 (Nat.le_add_right _ _) hj2
    have ex2 : exO [62] ((tl d.z).drop (i + 3 + (j + 2))) = some (1, .non) := by
      rw [Nat.add_assoc, drop_add, e3]
      rfl
    refine ⟨_, rfl, d.r, CRd K, d.dxr, _, _, rfl, h2.rd, cls_Reader T, na_Reader_scan T, rd_scan, d.sc, d.dxs, _, rfl, h2.sca, sc_no (by decide +kernel) (by decide +kernel) (by decide +kernel), [62], by decide, d.sc, d.dxs, d.z, _, _, _, rfl, h2.sca, h2.gd, h2.il, ex2, fun H3 m3 hj3 => ?_⟩
    have h3 := h2.scan m3 (Nat.le_add_right _ _) hj3
    refine ⟨_, rfl, d.r, d.dxr, _, rfl, h3.rd, rd_no (by decide +kernel), _, rfl, ?_⟩
    intro a2 d2 ha2 hd2 hne2
    refine mkNode ha2 hd2 hne2 fun H4 A2 C2 s4 hA2 hC2 hAC hn4 hA4 hC4 => ⟨rfl, ?_⟩
    refine put_leaf (E := E0) (k := 1) (nm := none) h3 (by omega) s4 ha2 hd2 hA2 hC2 hAC hn4 hA4 hC4 fun F' H' P' stk' sF e h5 => ?_
    exact k F' H' P' stk' sF (by rw [e, ← g2]; rfl) (h5.on (by omega))
/-! ### written signs and comments -/
def ccG (r : List Nat) (f : PF) (rest : List PF) (pc : List (List Nat)) : Option (Nat × List PF × List (List Nat)) :=
  if r.take 2 = [33, 91] then (if r.take 8 = [33, 91, 67, 68, 65, 84, 65, 91] then (fdN [93, 93, 62] (r.drop 8)).map fun j => (8 + (j + 3), f :: rest, pc ++ [(r.drop 8).take j]) else none)
  else coG r f rest pc
theorem ok_read_comment_or_cdata (T : Tx w K mg) : Ok P w K mg base CX0 6 (He.fAd K d_Reader_read_comment_or_cdata.at_) p_Reader_read_comment_or_cdata (spStep K ccG) := by
  obtain ⟨fd, F⟩ := f_Reader_read_comment_or_cdata T
  obtain ⟨fR, GR, bR, kR⟩ := ok_read_up_to (P := P) (base := base) T
  obtain ⟨fX, GX, bX, kX⟩ := ok_expect (P := P) (base := base) T
  obtain ⟨fC, GC, bC, kC⟩ := ok_read_comment (P := P) (base := base) T
  refine ⟨fd, ?_, b_Reader_read_comment_or_cdata F, F.kp⟩
  refine F.ok sc_Reader_read_comment_or_cdata (fun vs H Q E h => ?_) (fun cdv A outer s H vs Q E hr h => ?_)
  · obtain ⟨d, F, Pl, M, i, has, f, rest, pc, n, ss, pc', rfl, _⟩ := h
    rfl
  · obtain ⟨d, F, Pl, M, i, has, f, rest, pc, n, ss, pc', rfl, h, hbd0, hg, k⟩ := h
    have nd := sc_Reader_read_comment_or_cdata.nd
    refine ⟨_, PSs.nox (pss_one ((ps_if ((pt_val (pe_bm PySem.F.plainAttrs_str PySem.F.slot_str_startswith PySem.F.type_str_startswith mt_startswith3 (pe_fld (pe_fld (pv 0) rfl) rfl) (pa_cons (pe_str) (pa_cons (pe_fld (pe_fld (pv 0) rfl) rfl) pa_nil))))) (pss_cons (ps_expr (pe_meth (E := E0) (pe_fld (pv 0) rfl) (cls_Scanner T) (m_Scanner_expect T) GX (hr.mono (by decide)) bX .nil pass0 (pa_cons (pe_str) pa_nil))) (pss_one (ps_expr (pe_bm PySem.F.plainAttrs_list PySem.F.slot_list_append PySem.F.type_list_append mt_append (pe_fld (pv 0) rfl) (pa_cons ((pe_meth (E := E0) (pe_fld (pv 0) rfl) (cls_Scanner T) (m_Scanner_read_up_to T) GR (hr.mono (by decide)) bR .nil pass0 (pa_cons (pe_str) pa_nil))) pa_nil))))) (pss_one (ps_expr (pe_meth0 (E := E0) (pv 0) (cls_Reader T) (m_Reader_read_comment T) GC (hr.mono (by decide)) bC .nil pass0)))))), ?_⟩
    refine ⟨_, rfl, d.r, CRd K, d.dxr, _, _, rfl, h.rd, cls_Reader T, na_Reader_scan T, rd_scan, d.sc, CSc K, d.dxs, _, _, rfl, h.sca, cls_Scanner T, na_Scanner_text T, sc_text, rfl, _, rfl, d.r, CRd K, d.dxr, _, _, rfl, h.rd, cls_Reader T, na_Reader_scan T, rd_scan, d.sc, CSc K, d.dxs, _, _, rfl, h.sca, cls_Scanner T, na_Scanner_at T, sc_at, _, _, _, rfl, rfl, ?_⟩
    rw [starts3 _ _ _ h.il]
    refine ⟨_, rfl, ?_⟩
    have hgl := h.gd.len
    unfold ccG at hg
    by_cases e1 : ((tl d.z).drop i).take 2 = [33, 91]
    · refine iteT ?_ (decide_eq_true e1)
      rw [if_pos e1] at hg
      by_cases e2 : ((tl d.z).drop i).take 8 = [33, 91, 67, 68, 65, 84, 65, 91]
      · rw [if_pos e2] at hg
        obtain ⟨j, e3, e5⟩ := Option.map_eq_some_iff.mp hg
        have g1 : 8 + (j + 3) = n := congrArg Prod.fst e5
        have g2 := congrArg (fun x => x.2.1) e5
        have g3 := congrArg (fun x => x.2.2) e5
        dsimp only at g2 g3
        subst g1 g3
        have ex1 : exO [33, 91, 67, 68, 65, 84, 65, 91] ((tl d.z).drop i) = some (8, .non) := if_pos e2
        refine ⟨_, rfl, d.r, CRd K, d.dxr, _, _, rfl, h.rd, cls_Reader T, na_Reader_scan T, rd_scan, d.sc, d.dxs, _, rfl, h.sca, sc_no (by decide +kernel) (by decide +kernel) (by decide +kernel), [33, 91, 67, 68, 65, 84, 65, 91], by decide, d.sc, d.dxs, d.z, i, _, _, rfl, h.sca, h.gd, h.il, ex1, fun H1 m1 hj1 => ?_⟩
        have h1 := h.scan m1 (Nat.le_add_right _ _) hj1
        have up : upO [93, 93, 62] ((tl d.z).drop (i + 8)) = some (j + 3, .str (mkS ((((tl d.z).drop i).drop 8).take j))) := by
          unfold upO
          rw [drop_add, e3]
          rfl
        refine ⟨_, rfl, d.r, CRd K, d.dxr, _, _, rfl, h1.rd, cls_Reader T, na_Reader_pieces T, rd_pieces, .inl ⟨rfl, _, SqL.of h1.pl⟩, _, rfl, d.r, CRd K, d.dxr, _, _, rfl, h1.rd, cls_Reader T, na_Reader_scan T, rd_scan, d.sc, d.dxs, _, rfl, h1.sca, sc_no (by decide +kernel) (by decide +kernel) (by decide +kernel), [93, 93, 62], by decide, by decide, d.sc, d.dxs, d.z, _, _, _, rfl, h1.sca, h1.gd, h1.il, up, fun H2 m2 hj2 => ?_⟩
        have h2 := h1.scan m2 (Nat.le_add_right _ _) hj2
        have hpc : pc.length ≤ 500000 := by
          have := h.bd
          have := h.il
          omega
        refine ⟨Pl, pcV pc, _, rfl, rfl, h2.pl, (by unfold pcV; rw [List.length_map, sizeLine_eq]; omega), ?_⟩
        have h3 := h.piece (m1.trans m2) (t := (((tl d.z).drop i).drop 8).take j) (by omega) hj2 (by rw [List.length_take]; omega)
        exact k F _ Pl _ (Same.refl _) (by rw [← g2]; rfl) (h3.on (by omega))
      · rw [if_neg e2] at hg
        cases hg
    · refine iteF ?_ (decide_eq_false e1)
      rw [if_neg e1] at hg
      exact ⟨_, rfl, d.r, d.dxr, _, rfl, h.rd, rd_no (by decide +kernel), d, F, Pl, M, i, has, f, rest, pc, n, ss, pc', rfl, h, hbd0, hg, fun F' H' P' stk' sF e h2 => k F' H' P' stk' sF e h2⟩
end
end PX
/-! DXs -/
namespace PX
open PySem PySem.Spec PyProof.Rows L2 TL
section
variable {P : Program} {w : World} {K : PySem.W.Frag} {mg : Str → Option Value} {base : Heap}
/-! ### instructions -/
def isXml (nm : List Nat) : Bool := decide (V.str (Txt.lower (mkS nm)) = V.str (Str.ofString "xml"))
def inO (r : List Nat) : Option (Nat × DN) :=
  if r.take 1 = [63] then match nmO (r.drop 1) with
    | none => none
    | some (n1, _) => if isXml ((r.drop 1).take n1) then none else
      if hP isBl (r.drop (1 + n1)) then (fdN [63, 62] ((r.drop (1 + n1)).drop (spN isBl (r.drop (1 + n1))))).map fun j => (1 + n1 + spN isBl (r.drop (1 + n1)) + (j + 2), DN.lf 2 (some ((r.drop 1).take n1)) (((r.drop (1 + n1)).drop (spN isBl (r.drop (1 + n1)))).take j))
      else if (r.drop (1 + n1)).take 2 = [63, 62] then some (1 + n1 + 2, DN.lf 2 (some ((r.drop 1).take n1)) []) else none
  else none
def inG := lfG inO
theorem inO_sp {r : List Nat} {n : Nat} {u : DN} (h : inO r = some (n, u)) : ∃ n1 t, r.take 1 = [63] ∧ nmO (r.drop 1) = some (n1, .str (mkS ((r.drop 1).take n1))) ∧ 1 ≤ n1 ∧ n1 ≤ r.length ∧ isXml ((r.drop 1).take n1) = false ∧ u = .lf 2 (some ((r.drop 1).take n1)) t ∧
    ((hP isBl (r.drop (1 + n1)) = true ∧ ∃ j, fdN [63, 62] ((r.drop (1 + n1)).drop (spN isBl (r.drop (1 + n1)))) = some j ∧ t = ((r.drop (1 + n1)).drop (spN isBl (r.drop (1 + n1)))).take j ∧ n = 1 + n1 + spN isBl (r.drop (1 + n1)) + (j + 2)) ∨
     (hP isBl (r.drop (1 + n1)) = false ∧ (r.drop (1 + n1)).take 2 = [63, 62] ∧ t = [] ∧ n = 1 + n1 + 2)) := by
  unfold inO at h
  by_cases e1 : r.take 1 = [63]
  · rw [if_pos e1] at h
    cases e2 : nmO (r.drop 1) with
    | none => rw [e2] at h; cases h
    | some v =>
      obtain ⟨n1, y⟩ := v
      rw [e2] at h
      dsimp only at h
      obtain ⟨hy, h1, _, h2⟩ := nmO_val e2
      rw [List.length_drop] at h2
      cases e3 : isXml ((r.drop 1).take n1) with
      | true => rw [e3, if_pos rfl] at h; cases h
      | false =>
        rw [e3, if_neg Bool.false_ne_true] at h
        cases e4 : hP isBl (r.drop (1 + n1)) with
        | true =>
          rw [e4, if_pos rfl] at h
          obtain ⟨j, e5, e6⟩ := Option.map_eq_some_iff.mp h
          exact ⟨n1, _, e1, by rw [hy], h1, by omega, e3, (congrArg Prod.snd e6).symm, .inl ⟨e4, j, e5, rfl, (congrArg Prod.fst e6).symm⟩⟩
        | false =>
          rw [e4, if_neg Bool.false_ne_true] at h
          by_cases e5 : (r.drop (1 + n1)).take 2 = [63, 62]
          · rw [if_pos e5] at h
            have e6 := Option.some.inj h
            exact ⟨n1, _, e1, by rw [hy], h1, by omega, e3, (congrArg Prod.snd e6).symm, .inr ⟨e4, e5, rfl, (congrArg Prod.fst e6).symm⟩⟩
          · rw [if_neg e5] at h
            cases h
  · rw [if_neg e1] at h
    cases h
theorem ok_read_instruction (T : Tx w K mg) : Ok P w K mg base CX0 5 (He.fAd K d_Reader_read_instruction.at_) p_Reader_read_instruction (spStep K inG) := by
  obtain ⟨fd, F⟩ := f_Reader_read_instruction T
  obtain ⟨fI, GI, bI, kI⟩ := ok_Node_init (P := P) (base := base) T
  obtain ⟨fN, GN, bN, kN⟩ := ok_read_name (P := P) (base := base) T
  obtain ⟨fB, GB, bB, kB⟩ := ok_read_blanks (P := P) (base := base) T
  obtain ⟨fR, GR, bR, kR⟩ := ok_read_up_to (P := P) (base := base) T
  obtain ⟨fX, GX, bX, kX⟩ := ok_expect (P := P) (base := base) T
  obtain ⟨fU, GU, bU, kU⟩ := ok_put (P := P) (base := base) T
  refine ⟨fd, ?_, b_Reader_read_instruction F, F.kp⟩
  refine F.ok sc_Reader_read_instruction (fun vs H Q E h => ?_) (fun cdv A outer s H vs Q E hr h => ?_)
  · obtain ⟨d, F, Pl, M, i, has, f, rest, pc, n, ss, pc', rfl, _⟩ := h
    rfl
  · obtain ⟨d, F, Pl, M, i, has, f, rest, pc, n, ss, pc', rfl, h, hbd0, hg, k⟩ := h
    have nd := sc_Reader_read_instruction.nd
    refine ⟨_, PSs.nox (pss_cons (ps_set (i := 1) nd rfl (.inl rfl) (pe_fld (pv 0) rfl)) (pss_cons (ps_expr (pe_meth (E := E0) (pv 1) (cls_Scanner T) (m_Scanner_expect T) GX (hr.mono (by decide)) bX .nil pass0 (pa_cons (pe_str) pa_nil))) (pss_cons (ps_set (i := 2) nd rfl (.inl rfl) (pe_meth0 (E := E0) (pv 1) (cls_Scanner T) (m_Scanner_read_name T) GN (hr.mono (by decide)) bN .nil pass0)) (pss_cons ((ps_if ((pt_cmpR op_eq ((pe_m0 PySem.F.slot_str_lower PySem.F.type_str_lower mt_lower (pv 2))) (pe_str) (nomark _))) pss_no pss_nil)) (pss_cons (ps_set (i := 3) nd rfl (.inl rfl) pe_str) (Evl.pss_cut ((ps_if ((pt_val (pe_meth0 (E := E0) (pv 1) (cls_Scanner T) (m_Scanner_read_blanks T) GB (hr.mono (by decide)) bB .nil pass0))) (pss_one (ps_set (i := 3) nd rfl (.inl rfl) (pe_meth (E := E0) (pv 1) (cls_Scanner T) (m_Scanner_read_up_to T) GR (hr.mono (by decide)) bR .nil pass0 (pa_cons (pe_str) pa_nil)))) (pss_one (ps_expr (pe_meth (E := E0) (pv 1) (cls_Scanner T) (m_Scanner_expect T) GX (hr.mono (by decide)) bX .nil pass0 (pa_cons (pe_str) pa_nil)))))) (pss_one (ps_expr (pe_meth (E := E0) (pv 0) (cls_Reader T) (m_Reader_put T) GU (hr.mono (by decide)) bU .nil pass0 (pa_cons (pe_make (E := E0) (mk_Node T) GI (hr.mono (by decide)) rfl (g_Node T) bI .nil pass0 (pa_cons (pe_str) (pa_cons (pv 2) (pa_cons (pv 3) pa_nil)))) pa_nil)))))))))), ?_⟩
    obtain ⟨u, e6, e5⟩ := Option.map_eq_some_iff.mp hg
    obtain ⟨n1, t, e1, e2, p1, p2, e3, e4, e7⟩ := inO_sp e6
    have g1 : u.1 = n := congrArg Prod.fst e5
    have g2 := congrArg (fun x => x.2.1) e5
    have g3 : [] = pc' := congrArg (fun x => x.2.2) e5
    dsimp only at g2
    rw [e4] at g2
    rw [g1] at e7
    subst g3
    have hlen : d.z.length = (tl d.z).length := len_tl d.z
    have hgl := h.gd.len
    have ex1 : exO [63] ((tl d.z).drop i) = some (1, .non) := if_pos e1
    refine ⟨_, rfl, d.r, CRd K, d.dxr, _, _, rfl, h.rd, cls_Reader T, na_Reader_scan T, rd_scan, _, rfl, d.sc, d.dxs, _, rfl, h.sca, sc_no (by decide +kernel) (by decide +kernel) (by decide +kernel), [63], by decide, d.sc, d.dxs, d.z, i, _, _, rfl, h.sca, h.gd, h.il, ex1, fun H1 m1 hj1 => ?_⟩
    have h1 := h.scan m1 (Nat.le_add_right _ _) hj1
    have ed1 : (tl d.z).drop (i + 1) = ((tl d.z).drop i).drop 1 := drop_add
    refine ⟨_, rfl, d.sc, d.dxs, _, rfl, h1.sca, sc_no (by decide +kernel) (by decide +kernel) (by decide +kernel), d.sc, d.dxs, d.z, _, _, _, rfl, h1.sca, h1.gd, h1.il, by rw [ed1]; exact e2, fun H2 m2 hj2 => ?_⟩
    have h2 := h1.scan m2 (Nat.le_add_right _ _) hj2
    have ed2 : (tl d.z).drop (i + 1 + n1) = ((tl d.z).drop i).drop (1 + n1) := by rw [Nat.add_assoc, drop_add]
    refine ⟨_, rfl, ⟨_, rfl⟩, _, rfl, rfl, (by rw [mkS_len, List.length_take, List.length_drop, List.length_drop]; omega), rfl, _, rfl, ?_⟩
    show if isXml (((tl d.z).drop i).drop 1 |>.take n1) = true then _ else _
    rw [e3]
    refine iteF ?_
    refine ⟨fun σ H3 => σ = [some (.ref d.r), some (.ref d.sc), some (.str (mkS ((((tl d.z).drop i).drop 1).take n1))), some (.str (mkS t))] ∧ RdSt K d F H3 Pl M (i + n) has (f :: rest) [] pc, ?_, ?_⟩
    · refine ⟨_, rfl, d.sc, d.dxs, _, rfl, h2.sca, sc_no (by decide +kernel) (by decide +kernel) (by decide +kernel), d.sc, d.dxs, d.z, _, _, _, rfl, h2.sca, h2.gd, h2.il, rfl, fun H3 m3 hj3 => ?_⟩
      have h3 := h2.scan m3 (Nat.le_add_right _ _) hj3
      refine ⟨_, rfl, ?_⟩
      rw [ed2] at h3 hj3 ⊢
      rcases e7 with ⟨b1, j, b2, b3, b4⟩ | ⟨b1, b2, b3, b4⟩
      · rw [b1]
        refine iteT ?_
        have up : upO [63, 62] ((tl d.z).drop (i + 1 + n1 + spN isBl (((tl d.z).drop i).drop (1 + n1)))) = some (j + 2, .str (mkS t)) := by
          unfold upO
          rw [drop_add, ed2, b2, b3]
          rfl
        refine ⟨_, rfl, d.sc, d.dxs, _, rfl, h3.sca, sc_no (by decide +kernel) (by decide +kernel) (by decide +kernel), [63, 62], by decide, by decide, d.sc, d.dxs, d.z, _, _, _, rfl, h3.sca, h3.gd, h3.il, up, fun H4 m4 hj4 => ?_⟩
        have h4 := h3.scan m4 (Nat.le_add_right _ _) hj4
        exact ⟨rfl, h4.on (by omega)⟩
      · rw [b1]
        refine iteF ?_
        rw [hP_bl b1] at h3 hj3
        have ex2 : exO [63, 62] ((tl d.z).drop (i + 1 + n1 + 0)) = some (2, .non) := by
          rw [Nat.add_zero, ed2]
          exact if_pos b2
        refine ⟨_, rfl, d.sc, d.dxs, _, rfl, h3.sca, sc_no (by decide +kernel) (by decide +kernel) (by decide +kernel), [63, 62], by decide, d.sc, d.dxs, d.z, _, _, _, rfl, h3.sca, h3.gd, h3.il, ex2, fun H4 m4 hj4 => ?_⟩
        have h4 := h3.scan m4 (Nat.le_add_right _ _) hj4
        subst b3
        exact ⟨rfl, h4.on (by omega)⟩
    · rintro σ H3 ⟨rfl, h3⟩
      refine ⟨_, rfl, d.r, d.dxr, _, rfl, h3.rd, rd_no (by decide +kernel), _, rfl, _, rfl, ?_⟩
      intro a2 d2 ha2 hd2 hne2
      refine mkNode ha2 hd2 hne2 fun H4 A2 C2 s4 hA2 hC2 hAC hn4 hA4 hC4 => ⟨rfl, ?_⟩
      refine put_leaf (E := E0) (k := 2) (nm := some ((((tl d.z).drop i).drop 1).take n1)) h3 (by omega) s4 ha2 hd2 hA2 hC2 hAC hn4 hA4 hC4 fun F' H' P' stk' sF e h5 => ?_
      exact k F' H' P' stk' sF (by rw [e, ← g2]; rfl) h5
end
end PX
/-! DXt -/
namespace PX
open PySem PySem.Spec PyProof.Rows L2 TL
section
variable {P : Program} {w : World} {K : PySem.W.Frag} {mg : Str → Option Value} {base : Heap}
def muG (r : List Nat) (f : PF) (rest : List PF) (pc : List (List Nat)) : Option (Nat × List PF × List (List Nat)) :=
  if hP (· == 47) r then etG r f rest pc else if hP (· == 33) r then ccG r f rest pc else if hP (· == 63) r then inG r f rest pc else tgG r f rest pc
theorem ok_read_markup (T : Tx w K mg) : Ok P w K mg base CX0 9 (He.fAd K d_Reader_read_markup.at_) p_Reader_read_markup (spStep K muG) := by
  obtain ⟨fd, F⟩ := f_Reader_read_markup T
  obtain ⟨fK, GK, bK, kK⟩ := ok_peek (P := P) (base := base) T
  obtain ⟨fE, GE, bE, kE⟩ := ok_read_end_tag (P := P) (base := base) T
  obtain ⟨fC, GC, bC, kC⟩ := ok_read_comment_or_cdata (P := P) (base := base) T
  obtain ⟨fI, GI, bI, kI⟩ := ok_read_instruction (P := P) (base := base) T
  obtain ⟨fG, GG, bG, kG⟩ := ok_read_tag (P := P) (base := base) T
  refine ⟨fd, ?_, b_Reader_read_markup F, F.kp⟩
  refine F.ok sc_Reader_read_markup (fun vs H Q E h => ?_) (fun cdv A outer s H vs Q E hr h => ?_)
  · obtain ⟨d, F, Pl, M, i, has, f, rest, pc, n, ss, pc', rfl, _⟩ := h
    rfl
  · obtain ⟨d, F, Pl, M, i, has, f, rest, pc, n, ss, pc', rfl, h, hbd0, hg, k⟩ := h
    have nd := sc_Reader_read_markup.nd
    refine ⟨_, PSs.nox (pss_cons (ps_set (i := 1) nd rfl (.inl rfl) (pe_meth0 (E := E0) (pe_fld (pv 0) rfl) (cls_Scanner T) (m_Scanner_peek T) GK (hr.mono (by decide)) bK .nil pass0)) (pss_one ((ps_if ((pt_cmpR op_eq (pv 1) (pe_str) (nomark _))) (pss_one (ps_expr (pe_meth0 (E := E0) (pv 0) (cls_Reader T) (m_Reader_read_end_tag T) GE (hr.mono (by decide)) bE .nil pass0))) (pss_one ((ps_if ((pt_cmpR op_eq (pv 1) (pe_str) (nomark _))) (pss_one (ps_expr (pe_meth0 (E := E0) (pv 0) (cls_Reader T) (m_Reader_read_comment_or_cdata T) GC (hr.mono (by decide)) bC .nil pass0))) (pss_one ((ps_if ((pt_cmpR op_eq (pv 1) (pe_str) (nomark _))) (pss_one (ps_expr (pe_meth0 (E := E0) (pv 0) (cls_Reader T) (m_Reader_read_instruction T) GI (hr.mono (by decide)) bI .nil pass0))) (pss_one (ps_expr (pe_meth0 (E := E0) (pv 0) (cls_Reader T) (m_Reader_read_tag T) GG (hr.mono (by decide)) bG .nil pass0))))))))))))), ?_⟩
    refine ⟨_, rfl, d.r, CRd K, d.dxr, _, _, rfl, h.rd, cls_Reader T, na_Reader_scan T, rd_scan, d.sc, d.dxs, _, rfl, h.sca, sc_no (by decide +kernel) (by decide +kernel) (by decide +kernel), d.sc, d.dxs, d.z, i, rfl, h.sca, h.gd, ?_⟩
    unfold muG at hg
    refine ⟨_, rfl, rfl, _, rfl, ?_⟩
    show if decide (V.str (sg ((tl d.z).drop i)) = V.str (Str.ofString "/")) = true then _ else _
    rw [sg_lit _ (c := 47)]
    cases h1 : hP (· == 47) ((tl d.z).drop i) with
    | true =>
      rw [h1, if_pos rfl] at hg
      refine iteT ?_
      exact ⟨_, rfl, d.r, d.dxr, _, rfl, h.rd, rd_no (by decide +kernel), d, F, Pl, M, i, has, f, rest, pc, n, ss, pc', rfl, h, hbd0, hg, k⟩
    | false =>
      rw [h1, if_neg Bool.false_ne_true] at hg
      refine iteF ?_
      refine ⟨_, rfl, rfl, _, rfl, ?_⟩
      show if decide (V.str (sg ((tl d.z).drop i)) = V.str (Str.ofString "!")) = true then _ else _
      rw [sg_lit _ (c := 33)]
      cases h2 : hP (· == 33) ((tl d.z).drop i) with
      | true =>
        rw [h2, if_pos rfl] at hg
        refine iteT ?_
        exact ⟨_, rfl, d.r, d.dxr, _, rfl, h.rd, rd_no (by decide +kernel), d, F, Pl, M, i, has, f, rest, pc, n, ss, pc', rfl, h, hbd0, hg, k⟩
      | false =>
        rw [h2, if_neg Bool.false_ne_true] at hg
        refine iteF ?_
        refine ⟨_, rfl, rfl, _, rfl, ?_⟩
        show if decide (V.str (sg ((tl d.z).drop i)) = V.str (Str.ofString "?")) = true then _ else _
        rw [sg_lit _ (c := 63)]
        cases h3 : hP (· == 63) ((tl d.z).drop i) with
        | true =>
          rw [h3, if_pos rfl] at hg
          refine iteT ?_
          exact ⟨_, rfl, d.r, d.dxr, _, rfl, h.rd, rd_no (by decide +kernel), d, F, Pl, M, i, has, f, rest, pc, n, ss, pc', rfl, h, hbd0, hg, k⟩
        | false =>
          rw [h3, if_neg Bool.false_ne_true] at hg
          refine iteF ?_
          exact ⟨_, rfl, d.r, d.dxr, _, rfl, h.rd, rd_no (by decide +kernel), d, F, Pl, M, i, has, f, rest, pc, n, ss, pc', rfl, h, hbd0, hg, k⟩
/-- a step with nothing known of its place -/
def spSt0 (K : PySem.W.Frag) (g : List Nat → PF → List PF → List (List Nat) → Option (Nat × List PF × List (List Nat))) : Sp := fun vs H Q _ => ∃ (d : Rd) (F : Hp) (Pl : Addr) (M : List Addr) (i : Nat) (has : Bool) (f : Fr) (rest : List Fr) (pc : List (List Nat)) (n : Nat) (ss : List PF) (pc' : List (List Nat)), vs = [.ref d.r] ∧
  RdSt K d F H Pl M i has (f :: rest) [] pc ∧ g ((tl d.z).drop i) f.pl (rest.map Fr.pl) pc = some (n, ss, pc') ∧
  ∀ F' H' P' stk', Same F F' → stk'.map Fr.pl = ss → RdSt K d F' H' P' M (i + n) has stk' [] pc' → Q .non H'
def cnG (r : List Nat) (f : PF) (rest : List PF) (pc : List (List Nat)) : Option (Nat × List PF × List (List Nat)) :=
  if hP (· == 60) r then (muG (r.drop 1) f rest pc).map fun u => (1 + u.1, u.2)
  else if hP (· == 38) r then (rfO r).map fun u => (u.1, f :: rest, pc ++ [[u.2]])
  else if ptN r = 0 then none else (plO r).map fun u => (u.1, f :: rest, pc ++ [r.take u.1])
theorem hP_head {c : Nat} {r : List Nat} (h : hP (· == c) r = true) : ∃ q, r = c :: q := by
  cases r with
  | nil => cases h
  | cons e q =>
    have := of_decide_eq_true h
    subst this
    exact ⟨q, rfl⟩
theorem ok_read_part_of_content (T : Tx w K mg) : Ok P w K mg base CX0 10 (He.fAd K d_Reader_read_part_of_content.at_) p_Reader_read_part_of_content (spSt0 K cnG) := by
  obtain ⟨fd, F⟩ := f_Reader_read_part_of_content T
  obtain ⟨fK, GK, bK, kK⟩ := ok_peek (P := P) (base := base) T
  obtain ⟨fU, GU, bU, kU⟩ := ok_read_markup (P := P) (base := base) T
  obtain ⟨fR, GR, bR, kR⟩ := ok_read_reference (P := P) (base := base) T
  obtain ⟨fL, GL, bL, kL⟩ := ok_read_plain (P := P) (base := base) T
  refine ⟨fd, ?_, b_Reader_read_part_of_content F, F.kp⟩
  refine F.ok sc_Reader_read_part_of_content (fun vs H Q E h => ?_) (fun cdv A outer s H vs Q E hr h => ?_)
  · obtain ⟨d, F, Pl, M, i, has, f, rest, pc, n, ss, pc', rfl, _⟩ := h
    rfl
  · obtain ⟨d, F, Pl, M, i, has, f, rest, pc, n, ss, pc', rfl, h, hg, k⟩ := h
    have nd := sc_Reader_read_part_of_content.nd
    refine ⟨_, PSs.nox (pss_cons (ps_set (i := 1) nd rfl (.inl rfl) (pe_fld (pv 0) rfl)) (pss_cons (ps_set (i := 2) nd rfl (.inl rfl) (pe_meth0 (E := E0) (pv 1) (cls_Scanner T) (m_Scanner_peek T) GK (hr.mono (by decide)) bK .nil pass0)) (pss_one ((ps_if ((pt_cmpR op_eq (pv 2) (pe_str) (nomark _))) (pss_cons (ps_fldaug (pv 1) pe_int ip_add) (pss_one (ps_expr (pe_meth0 (E := E0) (pv 0) (cls_Reader T) (m_Reader_read_markup T) GU (hr.mono (by decide)) bU .nil pass0)))) (pss_one ((ps_if ((pt_cmpR op_eq (pv 2) (pe_str) (nomark _))) (pss_one (ps_expr (pe_bm PySem.F.plainAttrs_list PySem.F.slot_list_append PySem.F.type_list_append mt_append (pe_fld (pv 0) rfl) (pa_cons ((pe_meth0 (E := E0) (pv 1) (cls_Scanner T) (m_Scanner_read_reference T) GR (hr.mono (by decide)) bR .nil pass0)) pa_nil)))) (pss_one (ps_expr (pe_bm PySem.F.plainAttrs_list PySem.F.slot_list_append PySem.F.type_list_append mt_append (pe_fld (pv 0) rfl) (pa_cons ((pe_meth0 (E := E0) (pv 1) (cls_Scanner T) (m_Scanner_read_plain T) GL (hr.mono (by decide)) bL .nil pass0)) pa_nil)))))))))))), ?_⟩
    have hlen : d.z.length = (tl d.z).length := len_tl d.z
    have hgl := h.gd.len
    have hil := h.il
    have hbd := h.bd
    have hpc : pc.length ≤ 500000 := by omega
    refine ⟨_, rfl, d.r, CRd K, d.dxr, _, _, rfl, h.rd, cls_Reader T, na_Reader_scan T, rd_scan, _, rfl, d.sc, d.dxs, _, rfl, h.sca, sc_no (by decide +kernel) (by decide +kernel) (by decide +kernel), d.sc, d.dxs, d.z, i, rfl, h.sca, h.gd, ?_⟩
    unfold cnG at hg
    refine ⟨_, rfl, rfl, _, rfl, ?_⟩
    show if decide (V.str (sg ((tl d.z).drop i)) = V.str (Str.ofString "<")) = true then _ else _
    rw [sg_lit _ (c := 60)]
    cases h1 : hP (· == 60) ((tl d.z).drop i) with
    | true =>
      rw [h1, if_pos rfl] at hg
      refine iteT ?_
      obtain ⟨u, e1, e2⟩ := Option.map_eq_some_iff.mp hg
      obtain ⟨q, hq⟩ := hP_head h1
      have hd := drop_cons hq
      refine ⟨_, rfl, d.sc, CSc K, d.dxs, _, _, rfl, h.sca, cls_Scanner T, na_Scanner_at T, sc_at, _, _, rfl, rfl, d.dxs, _, h.sca, (by show 3 < 1000; decide), ?_⟩
      rw [sc_put (j := i + 1) (by show (i : Int) + 1 = _; omega)]
      have h2 := h.scan (ScM.refl h.sca).up (Nat.le_succ _) (by omega)
      have e3 : u.2.1 = ss := congrArg (fun x => x.2.1) e2
      have e4 : u.2.2 = pc' := congrArg (fun x => x.2.2) e2
      have e5 : 1 + u.1 = n := congrArg Prod.fst e2
      subst e3 e4
      refine ⟨_, rfl, d.r, d.dxr, _, rfl, h2.rd, rd_no (by decide +kernel), d, F, Pl, M, i + 1, has, f, rest, pc, u.1, u.2.1, u.2.2, rfl, h2, by simp only [List.length_nil] at hbd; omega, by rw [drop_add]; exact e1, fun F' H' P' stk' sF e h3 => k F' H' P' stk' sF e (h3.on (by omega))⟩
    | false =>
      rw [h1, if_neg Bool.false_ne_true] at hg
      refine iteF ?_
      refine ⟨_, rfl, rfl, _, rfl, ?_⟩
      show if decide (V.str (sg ((tl d.z).drop i)) = V.str (Str.ofString "&")) = true then _ else _
      rw [sg_lit _ (c := 38)]
      cases h2 : hP (· == 38) ((tl d.z).drop i) with
      | true =>
        rw [h2, if_pos rfl] at hg
        refine iteT ?_
        obtain ⟨u, e1, e2⟩ := Option.map_eq_some_iff.mp hg
        have e3 := congrArg (fun x => x.2.1) e2
        have e4 := congrArg (fun x => x.2.2) e2
        have e5 : u.1 = n := congrArg Prod.fst e2
        dsimp only at e3 e4
        obtain ⟨b1, b2, b3⟩ := rfO_le (n := u.1) (c := u.2) e1
        have er : rcV (rfO ((tl d.z).drop i)) = some (u.1, .str (mkS [u.2])) := by
          rw [e1]
          rfl
        refine ⟨_, rfl, d.r, CRd K, d.dxr, _, _, rfl, h.rd, cls_Reader T, na_Reader_pieces T, rd_pieces, .inl ⟨rfl, _, SqL.of h.pl⟩, _, rfl, d.sc, d.dxs, _, rfl, h.sca, sc_no (by decide +kernel) (by decide +kernel) (by decide +kernel), d.sc, d.dxs, d.z, i, _, _, rfl, h.sca, h.gd, h.il, er, fun H2 m2 hj2 => ?_⟩
        have h3 := h.scan m2 (Nat.le_add_right _ _) hj2
        refine ⟨Pl, pcV pc, _, rfl, rfl, h3.pl, (by unfold pcV; rw [List.length_map, sizeLine_eq]; omega), ?_⟩
        have h4 := h.piece m2 (t := [u.2]) (by omega) hj2 (by show 1 + _ ≤ _; omega)
        subst e5 e3 e4
        exact k F _ Pl _ (Same.refl _) rfl h4
      | false =>
        rw [h2, if_neg Bool.false_ne_true] at hg
        refine iteF ?_
        by_cases h0 : ptN ((tl d.z).drop i) = 0
        · rw [if_pos h0] at hg
          cases hg
        · rw [if_neg h0] at hg
          obtain ⟨u, e1, e2⟩ := Option.map_eq_some_iff.mp hg
          have e3 := congrArg (fun x => x.2.1) e2
          have e4 := congrArg (fun x => x.2.2) e2
          have e5 : u.1 = n := congrArg Prod.fst e2
          dsimp only at e3 e4
          have e6 : u = (ptN ((tl d.z).drop i), .str (mkS (((tl d.z).drop i).take (ptN ((tl d.z).drop i))))) := by
            unfold plO at e1
            split at e1
            · exact (Option.some.inj e1).symm
            · cases e1
          refine ⟨_, rfl, d.r, CRd K, d.dxr, _, _, rfl, h.rd, cls_Reader T, na_Reader_pieces T, rd_pieces, .inl ⟨rfl, _, SqL.of h.pl⟩, _, rfl, d.sc, d.dxs, _, rfl, h.sca, sc_no (by decide +kernel) (by decide +kernel) (by decide +kernel), d.sc, d.dxs, d.z, i, _, _, rfl, h.sca, h.gd, h.il, e1, fun H2 m2 hj2 => ?_⟩
          have h3 := h.scan m2 (Nat.le_add_right _ _) hj2
          have e7 : u.2 = .str (mkS (((tl d.z).drop i).take u.1)) := by rw [e6]
          rw [e7]
          refine ⟨Pl, pcV pc, _, rfl, rfl, h3.pl, (by unfold pcV; rw [List.length_map, sizeLine_eq]; omega), ?_⟩
          have h4 := h.piece m2 (t := ((tl d.z).drop i).take u.1) (by rw [e6]; show i + 1 ≤ i + ptN _; omega) hj2 (by rw [List.length_take]; omega)
          subst e5 e3 e4
          exact k F _ Pl _ (Same.refl _) rfl h4
end
end PX
/-! DXu -/
namespace PX
open PySem PySem.Spec PyProof.Rows L2 TL
theorem RdSt.hasT {K : PySem.W.Frag} {d : Rd} {F H : Hp} {P : Addr} {M : List Addr} {i : Nat} {has : Bool} {stk : List Fr} {ex : List Addr} {pc : List (List Nat)} (h : RdSt K d F H P M i has stk ex pc) (b : Bool) :
    RdSt K d F (upd H d.r (.ins (CRd K) d.dxr (rdF d.sc (rootOf stk) (topOf stk) P b))) P M i b stk ex pc := by
  have nr : ∀ {b : Addr} {xs : List V}, H b = some (.lst xs) → b ≠ d.r := fun hb => ins_lst h.rd hb
  refine ⟨fun b o hb => ?_, upd_same, h.rf, ?_, h.sf, by rw [upd_ne (nr h.pl)]; exact h.pl, h.pf, h.st, h.cs.keep fun x hx => ?_, h.cf, fun m hm => ?_, h.nc, h.nl, h.gd, h.il, h.bd, h.pb, h.nf, h.f0⟩
  · rw [upd_ne fun e => by rw [e, h.rf] at hb; cases hb]
    exact h.sm b o hb
  · show _ = _
    rw [upd_ne h.rs.symm]
    exact h.sca
  · obtain ⟨xs, hxs⟩ := h.cs.at_ x hx
    exact upd_ne (nr hxs)
  · obtain ⟨h1, xs, hxs⟩ := h.mf m hm
    exact ⟨h1, xs, by rw [upd_ne (nr hxs)]; exact hxs⟩
section
variable {P : Program} {w : World} {K : PySem.W.Frag} {mg : Str → Option Value} {base : Heap}
def arG (has : Bool) (r : List Nat) (f : PF) (rest : List PF) (pc : List (List Nat)) : Option (Nat × Bool × List PF × List (List Nat)) :=
  if hP isBl r then some (spN isBl r, has, f :: rest, pc)
  else if hP (· == 60) r then
    (if hP (· == 33) (r.drop 1) then (coG (r.drop 1) f rest pc).map fun u => (1 + u.1, has, u.2)
    else if hP (· == 63) (r.drop 1) then (inG (r.drop 1) f rest pc).map fun u => (1 + u.1, has, u.2)
    else if has then none else (tgG (r.drop 1) f rest pc).map fun u => (1 + u.1, true, u.2))
  else none
def spAr (K : PySem.W.Frag) : Sp := fun vs H Q _ => ∃ (d : Rd) (F : Hp) (Pl : Addr) (M : List Addr) (i : Nat) (has : Bool) (f : Fr) (rest : List Fr) (pc : List (List Nat)) (n : Nat) (has' : Bool) (ss : List PF) (pc' : List (List Nat)), vs = [.ref d.r] ∧
  RdSt K d F H Pl M i has (f :: rest) [] pc ∧ arG has ((tl d.z).drop i) f.pl (rest.map Fr.pl) pc = some (n, has', ss, pc') ∧
  ∀ F' H' P' stk', Same F F' → stk'.map Fr.pl = ss → RdSt K d F' H' P' M (i + n) has' stk' [] pc' → Q .non H'
theorem ok_read_part_around (T : Tx w K mg) : Ok P w K mg base CX0 9 (He.fAd K d_Reader_read_part_around.at_) p_Reader_read_part_around (spAr K) := by
  obtain ⟨fd, F⟩ := f_Reader_read_part_around T
  obtain ⟨fK, GK, bK, kK⟩ := ok_peek (P := P) (base := base) T
  obtain ⟨fB, GB, bB, kB⟩ := ok_read_blanks (P := P) (base := base) T
  obtain ⟨fX, GX, bX, kX⟩ := ok_expect (P := P) (base := base) T
  obtain ⟨fC, GC, bC, kC⟩ := ok_read_comment (P := P) (base := base) T
  obtain ⟨fI, GI, bI, kI⟩ := ok_read_instruction (P := P) (base := base) T
  obtain ⟨fG, GG, bG, kG⟩ := ok_read_tag (P := P) (base := base) T
  refine ⟨fd, ?_, b_Reader_read_part_around F, F.kp⟩
  refine F.ok sc_Reader_read_part_around (fun vs H Q E h => ?_) (fun cdv A outer s H vs Q E hr h => ?_)
  · obtain ⟨d, F, Pl, M, i, has, f, rest, pc, n, has', ss, pc', rfl, _⟩ := h
    rfl
  · obtain ⟨d, F, Pl, M, i, has, f, rest, pc, n, has', ss, pc', rfl, h, hg, k⟩ := h
    have nd := sc_Reader_read_part_around.nd
    refine ⟨_, PSs.nox (pss_cons (ps_set (i := 1) nd rfl (.inl rfl) (pe_fld (pv 0) rfl)) (pss_cons ((ps_if ((pt_val (pe_meth0 (E := E0) (pv 1) (cls_Scanner T) (m_Scanner_read_blanks T) GB (hr.mono (by decide)) bB .nil pass0))) (pss_one ps_retN) pss_nil)) (pss_cons (ps_expr (pe_meth (E := E0) (pv 1) (cls_Scanner T) (m_Scanner_expect T) GX (hr.mono (by decide)) bX .nil pass0 (pa_cons (pe_str) pa_nil))) (pss_one ((ps_if ((pt_cmpR op_eq ((pe_meth0 (E := E0) (pv 1) (cls_Scanner T) (m_Scanner_peek T) GK (hr.mono (by decide)) bK .nil pass0)) (pe_str) (nomark _))) (pss_one (ps_expr (pe_meth0 (E := E0) (pv 0) (cls_Reader T) (m_Reader_read_comment T) GC (hr.mono (by decide)) bC .nil pass0))) (pss_one ((ps_if ((pt_cmpR op_eq ((pe_meth0 (E := E0) (pv 1) (cls_Scanner T) (m_Scanner_peek T) GK (hr.mono (by decide)) bK .nil pass0)) (pe_str) (nomark _))) (pss_one (ps_expr (pe_meth0 (E := E0) (pv 0) (cls_Reader T) (m_Reader_read_instruction T) GI (hr.mono (by decide)) bI .nil pass0))) (pss_one ((ps_if ((pt_val (pe_fld (pv 0) rfl))) pss_no (pss_cons (ps_fld (pv 0) pe_bl rfl) (pss_one (ps_expr (pe_meth0 (E := E0) (pv 0) (cls_Reader T) (m_Reader_read_tag T) GG (hr.mono (by decide)) bG .nil pass0)))))))))))))))), ?_⟩
    have hlen : d.z.length = (tl d.z).length := len_tl d.z
    have hgl := h.gd.len
    have hil := h.il
    have hbd := h.bd
    simp only [List.length_nil] at hbd
    refine ⟨_, rfl, d.r, CRd K, d.dxr, _, _, rfl, h.rd, cls_Reader T, na_Reader_scan T, rd_scan, _, rfl, d.sc, d.dxs, _, rfl, h.sca, sc_no (by decide +kernel) (by decide +kernel) (by decide +kernel), d.sc, d.dxs, d.z, i, _, _, rfl, h.sca, h.gd, h.il, rfl, fun H1 m1 hj1 => ?_⟩
    have h1 := h.scan m1 (Nat.le_add_right _ _) hj1
    refine ⟨_, rfl, ?_⟩
    unfold arG at hg
    cases hb : hP isBl ((tl d.z).drop i) with
    | true =>
      rw [hb, if_pos rfl] at hg
      refine iteT ?_
      have e := Option.some.inj hg
      have e1 := congrArg Prod.fst e
      have e2 := congrArg (fun x => x.2.1) e
      have e3 := congrArg (fun x => x.2.2.1) e
      have e4 := congrArg (fun x => x.2.2.2) e
      dsimp only at e1 e2 e3 e4
      subst e1 e2 e3 e4
      exact k F H1 Pl _ (Same.refl _) rfl h1
    | false =>
      rw [hb, if_neg Bool.false_ne_true] at hg
      refine iteF ?_
      rw [hP_bl hb] at h1
      cases h60 : hP (· == 60) ((tl d.z).drop i) with
      | false =>
        rw [h60, if_neg Bool.false_ne_true] at hg
        cases hg
      | true =>
        rw [h60, if_pos rfl] at hg
        obtain ⟨q, hq⟩ := hP_head h60
        have ex1 : exO [60] ((tl d.z).drop (i + 0)) = some (1, .non) := by
          rw [Nat.add_zero, hq]
          rfl
        refine ⟨_, rfl, d.sc, d.dxs, _, rfl, h1.sca, sc_no (by decide +kernel) (by decide +kernel) (by decide +kernel), [60], by decide, d.sc, d.dxs, d.z, _, _, _, rfl, h1.sca, h1.gd, h1.il, ex1, fun H2 m2 hj2 => ?_⟩
        have h2 := h1.scan m2 (Nat.le_add_right _ _) hj2
        have ed : (tl d.z).drop (i + 0 + 1) = ((tl d.z).drop i).drop 1 := by rw [Nat.add_zero, drop_add]
        refine ⟨_, rfl, d.sc, d.dxs, _, rfl, h2.sca, sc_no (by decide +kernel) (by decide +kernel) (by decide +kernel), d.sc, d.dxs, d.z, _, rfl, h2.sca, h2.gd, rfl, _, rfl, ?_⟩
        show if decide (V.str (sg ((tl d.z).drop (i + 0 + 1))) = V.str (Str.ofString "!")) = true then _ else _
        rw [sg_lit _ (c := 33), ed]
        have fin : ∀ {g : List Nat → PF → List PF → List (List Nat) → Option (Nat × List PF × List (List Nat))} {hx : Bool} {Hx : Hp}, ((g (((tl d.z).drop i).drop 1) f.pl (rest.map Fr.pl) pc).map fun u => (1 + u.1, hx, u.2)) = some (n, has', ss, pc') → RdSt K d F Hx Pl M (i + 0 + 1) hx (f :: rest) [] pc → spStep K g [.ref d.r] Hx Q E0 := by
          intro g hx Hx hg h3
          obtain ⟨u, e1, e2⟩ := Option.map_eq_some_iff.mp hg
          have e3 : 1 + u.1 = n := congrArg Prod.fst e2
          have e4 : hx = has' := congrArg (fun x => x.2.1) e2
          have e5 : u.2.1 = ss := congrArg (fun x => x.2.2.1) e2
          have e6 : u.2.2 = pc' := congrArg (fun x => x.2.2.2) e2
          subst e4 e5 e6
          exact ⟨d, F, Pl, M, _, hx, f, rest, pc, u.1, u.2.1, u.2.2, rfl, h3, by omega, by rw [ed]; exact e1, fun F' H' P' stk' sF e h4 => k F' H' P' stk' sF e (h4.on (by omega))⟩
        cases h33 : hP (· == 33) (((tl d.z).drop i).drop 1) with
        | true =>
          rw [h33, if_pos rfl] at hg
          refine iteT ?_
          exact ⟨_, rfl, d.r, d.dxr, _, rfl, h2.rd, rd_no (by decide +kernel), fin hg h2⟩
        | false =>
          rw [h33, if_neg Bool.false_ne_true] at hg
          refine iteF ?_
          refine ⟨_, rfl, d.sc, d.dxs, _, rfl, h2.sca, sc_no (by decide +kernel) (by decide +kernel) (by decide +kernel), d.sc, d.dxs, d.z, _, rfl, h2.sca, h2.gd, rfl, _, rfl, ?_⟩
          show if decide (V.str (sg ((tl d.z).drop (i + 0 + 1))) = V.str (Str.ofString "?")) = true then _ else _
          rw [sg_lit _ (c := 63), ed]
          cases h63 : hP (· == 63) (((tl d.z).drop i).drop 1) with
          | true =>
            rw [h63, if_pos rfl] at hg
            refine iteT ?_
            exact ⟨_, rfl, d.r, d.dxr, _, rfl, h2.rd, rd_no (by decide +kernel), fin hg h2⟩
          | false =>
            rw [h63, if_neg Bool.false_ne_true] at hg
            refine iteF ?_
            refine ⟨_, rfl, d.r, CRd K, d.dxr, _, _, rfl, h2.rd, cls_Reader T, na_Reader_has_outermost T, rd_has_outermost, _, rfl, ?_⟩
            cases has with
            | true =>
              rw [if_pos rfl] at hg
              cases hg
            | false =>
              rw [if_neg Bool.false_ne_true] at hg
              refine iteF ?_
              refine ⟨_, rfl, d.r, CRd K, d.dxr, _, rfl, h2.rd, cls_Reader T, na_Reader_has_outermost T, (by show 5 < 1000; decide), ?_⟩
              rw [rd_put_has]
              have h3 := h2.hasT true
              exact ⟨_, rfl, d.r, d.dxr, _, rfl, h3.rd, rd_no (by decide +kernel), fin hg h3⟩
/-! ### the declaration -/
theorem starts0 (x y : Str) : Txt.startswith x y = decide ((tl x).take (tl y).length = tl y) := by
  unfold Txt.startswith
  rw [StrLaws.subAt_eq, ← len_tl y]
  show (decide _ && (((tl x).drop 0).take y.length == tl y)) = _
  rw [List.drop_zero]
  by_cases q : (tl x).take y.length = tl y
  · have e := congrArg List.length q
    rw [List.length_take, ← len_tl x, ← len_tl y] at e
    rw [decide_eq_true q, q, decide_eq_true (by omega)]
    simp
  · rw [decide_eq_false q, show ((tl x).take y.length == tl y) = false by simp [q], Bool.and_false]
def deO (r : List Nat) : Option Nat := if r.take 5 = [60, 63, 120, 109, 108] ∧ hP isBl (r.drop 5) = true then (fdN [63, 62] r).map (· + 2) else some 0
def spDe (K : PySem.W.Frag) : Sp := fun vs H Q _ => ∃ (d : Rd) (F : Hp) (Pl : Addr) (M : List Addr) (has : Bool) (stk : List Fr) (pc : List (List Nat)) (n : Nat), vs = [.ref d.r] ∧ RdSt K d F H Pl M 0 has stk [] pc ∧ deO (tl d.z) = some n ∧ ∀ H', RdSt K d F H' Pl M n has stk [] pc → Q .non H'
theorem ok_read_declaration (T : Tx w K mg) : Ok P w K mg base CX0 3 (He.fAd K d_Reader_read_declaration.at_) p_Reader_read_declaration (spDe K) := by
  obtain ⟨fd, F⟩ := f_Reader_read_declaration T
  obtain ⟨fR, GR, bR, kR⟩ := ok_read_up_to (P := P) (base := base) T
  obtain ⟨fI, GI, bI, kI⟩ := ok_is_blank (P := P) (base := base) T
  refine ⟨fd, ?_, b_Reader_read_declaration F, F.kp⟩
  refine F.ok sc_Reader_read_declaration (fun vs H Q E h => ?_) (fun cdv A outer s H vs Q E hr h => ?_)
  · obtain ⟨d, F, Pl, M, has, stk, pc, n, rfl, _⟩ := h
    rfl
  · obtain ⟨d, F, Pl, M, has, stk, pc, n, rfl, h, hg, k⟩ := h
    have nd := sc_Reader_read_declaration.nd
    refine ⟨_, PSs.nox (pss_one ((ps_if ((pw_and (pt_val (pe_bm PySem.F.plainAttrs_str PySem.F.slot_str_startswith PySem.F.type_str_startswith mt_startswith (pe_fld (pe_fld (pv 0) rfl) rfl) (pa_cons (pe_str) pa_nil))) (pw_and1 (pt_val (pe_call (E := E0) GI (hr.mono (by omega)) (by rfl) (g_is_blank T) kI bI .nil pass0 (pa_cons (pe_slice sl_str (pe_fld (pe_fld (pv 0) rfl) rfl) (po_some pe_int) (po_some pe_int)) pa_nil))))).pt) (pss_one (ps_expr (pe_meth (E := E0) (pe_fld (pv 0) rfl) (cls_Scanner T) (m_Scanner_read_up_to T) GR (hr.mono (by decide)) bR .nil pass0 (pa_cons (pe_str) pa_nil)))) pss_nil))), ?_⟩
    have hlen : d.z.length = (tl d.z).length := len_tl d.z
    refine ⟨_, rfl, d.r, CRd K, d.dxr, _, _, rfl, h.rd, cls_Reader T, na_Reader_scan T, rd_scan, d.sc, CSc K, d.dxs, _, _, rfl, h.sca, cls_Scanner T, na_Scanner_text T, sc_text, rfl, d.z, Str.ofString "<?xml", rfl, rfl, ?_⟩
    rw [starts0, lit (s := "<?xml") (l := [60, 63, 120, 109, 108]), tl_mkS]
    refine ⟨_, rfl, ?_⟩
    show if decide ((tl d.z).take 5 = [60, 63, 120, 109, 108]) = true then _ else _
    unfold deO at hg
    by_cases h5 : (tl d.z).take 5 = [60, 63, 120, 109, 108]
    · refine iteT ?_ (decide_eq_true h5)
      refine ⟨_, rfl, d.r, CRd K, d.dxr, _, _, rfl, h.rd, cls_Reader T, na_Reader_scan T, rd_scan, d.sc, CSc K, d.dxs, _, _, rfl, h.sca, cls_Scanner T, na_Scanner_text T, sc_text, _, rfl, _, rfl, d.z, rfl, h.gd.line, ?_⟩
      have ec : cutS d.z (some (5 : Int)) (some (6 : Int)) = sg ((tl d.z).drop 5) := cut_one d.z 5
      rw [ec]
      refine ⟨_, rfl, fun H2 s2 => ⟨_, rfl, ?_⟩⟩
      have h2 := h.more s2
      rw [hB_hP]
      cases h6 : hP isBl ((tl d.z).drop 5) with
      | true =>
        rw [if_pos ⟨h5, h6⟩] at hg
        refine iteT ?_
        obtain ⟨j, e1, e2⟩ := Option.map_eq_some_iff.mp hg
        subst e2
        have up : upO [63, 62] ((tl d.z).drop 0) = some (j + 2, .str (mkS (((tl d.z).drop 0).take j))) := by
          unfold upO
          rw [List.drop_zero, e1]
          rfl
        refine ⟨_, rfl, d.r, CRd K, d.dxr, _, _, rfl, h2.rd, cls_Reader T, na_Reader_scan T, rd_scan, d.sc, d.dxs, _, rfl, h2.sca, sc_no (by decide +kernel) (by decide +kernel) (by decide +kernel), [63, 62], by decide, by decide, d.sc, d.dxs, d.z, 0, _, _, rfl, h2.sca, h2.gd, h2.il, up, fun H3 m3 hj3 => ?_⟩
        have h3 := h2.scan m3 (Nat.le_add_right _ _) hj3
        exact k _ (h3.on (by omega))
      | false =>
        rw [if_neg (fun e => by rw [h6] at e; cases e.2)] at hg
        have e := Option.some.inj hg
        subst e
        refine iteF ?_
        exact k _ h2
    · refine iteF ?_ (decide_eq_false h5)
      rw [if_neg fun e => h5 e.1] at hg
      have e := Option.some.inj hg
      subst e
      exact k _ h
end
end PX
/-! DXv -/
namespace PX
open PySem PySem.Spec PyProof.Rows L2 TL
/-- nodes that wait, and all that is below them -/
inductive Wk (K : PySem.W.Frag) (F : Hp) : List Addr → List Addr → Prop
  | nil : Wk K F [] []
  | cons {a dx : Addr} {r : NR} {as cs ws ls : List Addr} (h1 : NdA K F a dx r) (h2 : F r.A = some (.lst (refs as))) (h3 : F r.C = some (.lst (refs cs))) (h4 : Wk K F (cs ++ ws) ls) : Wk K F (a :: ws) (a :: (as ++ ls))
mutual
theorem NodeAt.wk {K : PySem.W.Frag} {o : Og} {F : Hp} {par a : Addr} {i : Nat} : ∀ {d : DN} {l ws ls : List Addr}, NodeAt K o F par i a d l → Wk K F ws ls → Wk K F (a :: ws) (l ++ ls)
  | .lf k nm t, l, ws, ls, h, w => by
    rw [NodeAt] at h
    obtain ⟨rfl, dx, A, C, h1, h2, h3⟩ := h
    exact .cons (as := []) (cs := []) h1 h2 h3 w
  | .el nm at_ ks, l, ws, ls, h, w => by
    rw [NodeAt] at h
    obtain ⟨dx, A, C, as, cs, l2, rfl, h1, h2, h3, _, h5⟩ := h
    show Wk K F (a :: ws) (a :: (as ++ l2 ++ ls))
    rw [List.append_assoc]
    exact .cons h1 h2 h3 (KidsAt.wk h5 w)
theorem KidsAt.wk {K : PySem.W.Frag} {o : Og} {F : Hp} {par : Addr} {i : Nat} : ∀ {cs : List Addr} {ds : List DN} {l ws ls : List Addr}, KidsAt K o F par i cs ds l → Wk K F ws ls → Wk K F (cs ++ ws) (l ++ ls)
  | cs, [], l, ws, ls, h, w => by
    rw [KidsAt] at h
    obtain ⟨rfl, rfl⟩ := h
    exact w
  | cs, d :: ds, l, ws, ls, h, w => by
    rw [KidsAt] at h
    obtain ⟨c, cs', l1, l2, rfl, rfl, h3, h4⟩ := h
    show Wk K F (c :: (cs' ++ ws)) (l1 ++ l2 ++ ls)
    rw [List.append_assoc]
    exact NodeAt.wk h3 (KidsAt.wk h4 w)
end
theorem Wk.len {K : PySem.W.Frag} {F : Hp} {ws ls : List Addr} (h : Wk K F ws ls) : ws.length ≤ ls.length := by
  induction h with
  | nil => exact Nat.le_refl _
  | cons h1 h2 h3 h4 ih =>
    rw [List.length_append] at ih
    simp only [List.length_cons, List.length_append]
    omega
section
variable {P : Program} {w : World} {K : PySem.W.Frag} {mg : Str → Option Value} {base : Heap}
def spNi (K : PySem.W.Frag) : Sp := fun vs H Q _ => ∃ (F : Hp) (a : Addr) (l : List Addr), vs = [.ref a] ∧ Same F H ∧ Wk K F [a] l ∧ l.length ≤ 1000000 ∧ ∀ H' p, Same H H' → H p = none → H' p = some (.lst (refs l)) → Q (.ref p) H'
theorem ok_nodes_in (T : Tx w K mg) : Ok P w K mg base CX0 1 (He.fAd K d_nodes_in.at_) p_nodes_in (spNi K) := by
  obtain ⟨fd, F⟩ := f_nodes_in T
  refine ⟨fd, ?_, b_nodes_in F, F.kp⟩
  refine F.ok sc_nodes_in (fun vs H Q E h => ?_) (fun cdv A outer s H vs Q E hr h => ?_)
  · obtain ⟨F, a, l, rfl, _⟩ := h
    rfl
  · obtain ⟨F, a, l, rfl, sF, hw, hl, kk⟩ := h
    have nd := sc_nodes_in.nd
    refine ⟨_, PSs.nox (pss_cons (ps_set (i := 1) nd rfl (.inl rfl) (pe_lst pa_nil)) (pss_cons (ps_set (i := 2) nd rfl (.inl rfl) (pe_lst (pa_cons (pv 0) pa_nil))) (pss_cons (ps_while PassesOwn.never (pt_truth (pv 2) (by intro _; rfl)) (pss_cons (ps_set (i := 3) nd rfl (.inl rfl) (pe_bm0 PySem.F.plainAttrs_list PySem.F.slot_list_pop PySem.F.type_list_pop mt_pop (pv 2))) (pss_cons (ps_expr (pe_bm PySem.F.plainAttrs_list PySem.F.slot_list_append PySem.F.type_list_append mt_append (pv 1) (pa_cons (pv 3) pa_nil))) (Evl.pss_cut ((ps_if ((pt_truth (SlX.pe_sl (pv 3)) (by intro _; rfl))) (pss_one (ps_expr (pe_bm PySem.F.plainAttrs_list PySem.F.slot_list_extend PySem.F.type_list_extend mt_extend (pv 1) (pa_cons (SlX.pe_sl (pv 3)) pa_nil)))) pss_nil)) (pss_one ((ps_if ((pt_truth (SlX.pe_sl (pv 3)) (by intro _; rfl))) (pss_one (ps_expr (pe_bm PySem.F.plainAttrs_list PySem.F.slot_list_extend PySem.F.type_list_extend mt_extend (pv 2) (pa_cons (pe_revL (SlX.pe_sl (pv 3))) pa_nil)))) pss_nil))))))) (pss_one ((ps_ret (pv 1))))))), ?_⟩
    refine ⟨Nat.zero_le _, fun F1 hF => ?_⟩
    refine ⟨_, rfl, (by show 1 ≤ sizeLine; decide), fun W1 hW => ?_⟩
    have hFW : F1 ≠ W1 := ne_of_none (H := upd H F1 (.lst [])) upd_same hW
    have hW0 : H W1 = none := by
      rw [upd_ne hFW.symm] at hW
      exact hW
    dsimp only [gName, tSeq]
    refine while_x (H := upd (upd H F1 (.lst [])) W1 (.lst [V.ref a])) (fun m σ H1 => ∃ (ws ls dn : List Addr) (v : Option V), m = ls.length ∧ σ = [some (V.ref a), some (.ref F1), some (.ref W1), v] ∧ Same H H1 ∧ H1 F1 = some (.lst (refs dn)) ∧ H1 W1 = some (.lst (refs ws.reverse)) ∧ dn ++ ls = l ∧ Wk K F ws ls)
      (fun σ H1 => ∃ (v : Option V), σ = [some (V.ref a), some (.ref F1), some (.ref W1), v] ∧ Same H H1 ∧ H1 F1 = some (.lst (refs l)))
      ⟨_, [a], l, [], none, rfl, rfl, (same_new hF).trans (same_new hW), by rw [upd_ne hFW, upd_same]; rfl, upd_same, rfl, hw⟩ ?_ ?_
    · rintro σ H1 ⟨v, rfl, s1, h1⟩
      exact ⟨_, rfl, kk _ F1 s1 hF h1⟩
    · rintro - m σ H1 R ⟨ws, ls, dn, v, rfl, rfl, s1, h1, h2, e3, h4⟩ hfin hbody
      refine ⟨_, rfl, !(refs ws.reverse).isEmpty, .inl ⟨_, SqL.of h2, rfl⟩, ?_⟩
      cases h4 with
      | nil =>
        rw [List.append_nil] at e3
        rw [e3] at h1
        exact hfin _ ⟨v, rfl, s1, h1⟩
      | @cons b dx r as cs ws ls c1 c2 c3 c4 =>
        have hne : (!(refs (b :: ws).reverse).isEmpty) = true := by
          rw [List.reverse_cons, refs_app]
          simp [refs]
        rw [hne]
        refine hbody _ ?_
        have ln := c4.len
        rw [List.length_append] at ln
        have ltot := congrArg List.length e3
        simp only [List.length_append, List.length_cons] at ltot
        rw [List.reverse_cons, refs_app] at h2
        have g1 := c1.keep sF
        have g2 := sF _ _ c2
        have g3 := sF _ _ c3
        have nF : ∀ {x : Addr} {o : HO}, H x = some o → x ≠ F1 ∧ x ≠ W1 := fun hx => ⟨ne_of_none hx hF, ne_of_none hx hW0⟩
        -- node = waiting.pop()
        refine ⟨_, rfl, .inl ⟨rfl, _, SqL.of h2⟩, W1, _, .ref b, rfl, rfl, h2, by simp [refs], ?_⟩
        rw [show refs [b] = [V.ref b] from rfl, List.dropLast_concat]
        -- found.append(node)
        refine ⟨_, rfl, .inl ⟨rfl, refs dn, SqL.of (by rw [upd_ne hFW]; exact h1)⟩, _, rfl, F1, refs dn, .ref b, rfl, rfl, (by rw [upd_ne hFW]; exact h1), by rw [refs_len, sizeLine_eq]; omega, ?_⟩
        have k1 : ∀ {x : Addr} {o : HO}, H x = some o → upd (upd H1 W1 (.lst (refs ws.reverse))) F1 (.lst (refs dn ++ [V.ref b])) x = some o := fun hx => by
          rw [upd_ne (nF hx).1, upd_ne (nF hx).2]
          exact s1 _ _ hx
        have n2 : NdA K (upd (upd H1 W1 (.lst (refs ws.reverse))) F1 (.lst (refs dn ++ [V.ref b]))) b dx r := ⟨k1 g1.1, k1 g1.2⟩
        refine ⟨fun σ H5 => σ = [some (V.ref a), some (.ref F1), some (.ref W1), some (.ref b)] ∧ Same H H5 ∧ H5 F1 = some (.lst (refs (dn ++ b :: as))) ∧ H5 W1 = some (.lst (refs ws.reverse)), ?_, ?_⟩
        · refine ⟨_, rfl, b, CNd K, dx, _, _, 0, _, rfl, n2.slt, scl_N T, slt_attributes T, rfl, !(refs as).isEmpty, .inl ⟨_, SqL.of (k1 g2), rfl⟩, ?_⟩
          cases as with
          | nil =>
            refine iteF ?_
            exact ⟨rfl, fun x o hx => k1 hx, by rw [upd_same, refs_app]; rfl, by rw [upd_ne hFW.symm, upd_same]⟩
          | cons q as =>
            refine iteT ?_
            refine ⟨_, rfl, .inl ⟨rfl, _, SqL.of upd_same⟩, _, rfl, b, CNd K, dx, _, _, 0, _, rfl, n2.slt, scl_N T, slt_attributes T, rfl, F1, r.A, _, refs (q :: as), rfl, rfl, upd_same, k1 g2, ?_, ?_⟩
            · rw [List.length_append, refs_len, refs_len, sizeLine_eq]
              simp only [List.length_cons, List.length_nil] at ltot ⊢
              omega
            · refine ⟨rfl, fun x o hx => ?_, ?_, ?_⟩
              · rw [upd_ne (nF hx).1]
                exact k1 hx
              · rw [upd_same, show dn ++ b :: q :: as = dn ++ ([b] ++ (q :: as)) from rfl, refs_app, refs_app, ← List.append_assoc]
                rfl
              · rw [upd_ne hFW.symm, upd_ne hFW.symm, upd_same]
        · rintro σ H5 ⟨rfl, s5, f5, w5⟩
          have n5 := g1.keep s5
          refine ⟨_, rfl, b, CNd K, dx, _, _, 1, _, rfl, n5.slt, scl_N T, slt_children T, rfl, !(refs cs).isEmpty, .inl ⟨_, SqL.of (s5 _ _ g3), rfl⟩, ?_⟩
          have e4 : dn ++ b :: as ++ ls = l := by rw [← e3, List.append_assoc]; rfl
          cases cs with
          | nil =>
            refine iteF ?_
            exact ⟨ls.length, by simp only [List.length_cons, List.length_append]; omega, ws, ls, dn ++ b :: as, _, rfl, rfl, s5, f5, w5, e4, c4⟩
          | cons q cs =>
            refine iteT ?_
            refine ⟨_, rfl, .inl ⟨rfl, _, SqL.of w5⟩, _, rfl, b, CNd K, dx, _, _, 1, _, rfl, n5.slt, scl_N T, slt_children T, rfl, r.C, _, rfl, SqL.of (s5 _ _ g3), fun D hD => ?_⟩
            have hDW : D ≠ W1 := (ne_of_none w5 hD).symm
            refine ⟨W1, D, _, _, rfl, rfl, (by rw [upd_ne hDW.symm]; exact w5), upd_same, ?_, ?_⟩
            · rw [List.length_reverse, refs_len, refs_len, List.length_reverse, sizeLine_eq]
              omega
            · refine ⟨ls.length, by simp only [List.length_cons, List.length_append]; omega, (q :: cs) ++ ws, ls, dn ++ b :: as, _, rfl, rfl, fun x o hx => ?_, ?_, ?_, e4, c4⟩
              · rw [upd_ne (nF hx).2, upd_ne (ne_of_none (s5 _ _ hx) hD)]
                exact s5 _ _ hx
              · rw [upd_ne hFW, upd_ne (ne_of_none f5 hD)]
                exact f5
              · rw [upd_same, List.reverse_append, refs_app]
                congr 3
                unfold refs
                rw [List.map_reverse]
end
end PX
/-! DXw -/
namespace PX
open PySem PySem.Spec PyProof.Rows L2 TL
/-! ### orders and ends, plain -/
mutual
def szN : DN → Nat
  | .lf _ _ _ => 1
  | .el _ at_ ks => 1 + at_.length + szK ks
def szK : List DN → Nat
  | [] => 0
  | d :: ds => szN d + szK ds
end
mutual
def laN (p : Nat) : DN → Nat → Nat
  | .lf _ _ _, _ => p
  | .el _ at_ ks, j => if j = p then p + at_.length + szK ks else if j < p + 1 + at_.length then j else laK (p + 1 + at_.length) ks j
def laK (p : Nat) : List DN → Nat → Nat
  | [], j => j
  | d :: ds, j => if j < p + szN d then laN p d j else laK (p + szN d) ds j
end
mutual
def paN (p q : Nat) : DN → Nat → Nat
  | .lf _ _ _, _ => q
  | .el _ at_ ks, j => if j = p then q else if j < p + 1 + at_.length then p else paK (p + 1 + at_.length) p ks j
def paK (p q : Nat) : List DN → Nat → Nat
  | [], _ => q
  | d :: ds, j => if j < p + szN d then paN p q d j else paK (p + szN d) q ds j
end
theorem szN_pos : ∀ d : DN, 1 ≤ szN d
  | .lf _ _ _ => by rw [szN]; exact Nat.le_refl _
  | .el _ at_ ks => by rw [szN]; omega
def stE (pa : Nat → Nat) (k : Nat) (en : Nat → Nat) (j : Nat) : Nat := if j = pa k then max (en j) (en k) else en j
def runD (pa : Nat → Nat) (lo : Nat) : Nat → (Nat → Nat) → Nat → Nat
  | 0, en => en
  | c + 1, en => runD pa lo c (stE pa (lo + c) en)
theorem runD_add (pa : Nat → Nat) (lo a : Nat) : ∀ (b : Nat) (en : Nat → Nat), runD pa lo (a + b) en = runD pa lo a (runD pa (lo + a) b en)
  | 0, en => rfl
  | b + 1, en => by
    show runD pa lo (a + b) (stE pa (lo + (a + b)) en) = runD pa lo a (runD pa (lo + a) b (stE pa (lo + a + b) en))
    rw [runD_add pa lo a b, Nat.add_assoc]
theorem runD_congr {pa pb : Nat → Nat} {lo : Nat} : ∀ {c : Nat} {en : Nat → Nat}, (∀ j, lo ≤ j → j < lo + c → pa j = pb j) → runD pa lo c en = runD pb lo c en
  | 0, _, _ => rfl
  | c + 1, en, h => by
    show runD pa lo c (stE pa (lo + c) en) = runD pb lo c (stE pb (lo + c) en)
    have : stE pa (lo + c) en = stE pb (lo + c) en := by
      funext j
      unfold stE
      rw [h (lo + c) (by omega) (by omega)]
    rw [this]
    exact runD_congr fun j h1 h2 => h j h1 (by omega)
theorem run_A (p : Nat) : ∀ (m : Nat) (en : Nat → Nat), (∀ j, p < j → j ≤ p + m → en j = j) → ∀ j, runD (fun _ => p) (p + 1) m en j = if j = p then (if m = 0 then en p else max (en p) (p + m)) else en j
  | 0, en, _, j => by
    show en j = _
    by_cases h : j = p
    · rw [if_pos h, if_pos rfl, h]
    · rw [if_neg h]
  | m + 1, en, he, j => by
    show runD (fun _ => p) (p + 1) m (stE (fun _ => p) (p + 1 + m) en) j = _
    rw [run_A p m _ (fun j h1 h2 => by
      unfold stE
      dsimp only
      rw [if_neg (by omega)]
      exact he j h1 (by omega))]
    have e1 := he (p + 1 + m) (by omega) (by omega)
    unfold stE
    dsimp only
    rw [e1]
    by_cases h : j = p
    · subst h
      repeat' split
      all_goals omega
    · repeat' split
      all_goals omega
mutual
theorem run_N (p q : Nat) : ∀ (d : DN) (en : Nat → Nat), q < p → (∀ j, p ≤ j → j < p + szN d → en j = j) → ∀ j, runD (paN p q d) p (szN d) en j = if p ≤ j ∧ j < p + szN d then laN p d j else if j = q then max (en q) (p + szN d - 1) else en j
  | .lf k nm t, en, hq, he, j => by
    rw [szN]
    show stE (paN p q (.lf k nm t)) (p + 0) en j = _
    unfold stE
    rw [paN, laN]
    have e := he p (Nat.le_refl _) (by rw [szN]; omega)
    rw [Nat.add_zero, e]
    by_cases h : j = q
    · subst h
      repeat' split
      all_goals omega
    · by_cases h2 : j = p
      · subst h2
        repeat' split
        all_goals omega
      · repeat' split
        all_goals omega
  | .el nm at_ ks, en, hq, he, j => by
    have hsz : szN (.el nm at_ ks) = 1 + (at_.length + szK ks) := by rw [szN]; omega
    rw [hsz] at he ⊢
    rw [runD_add, runD_add]
    have c3 : runD (paN p q (.el nm at_ ks)) (p + 1 + at_.length) (szK ks) en = runD (paK (p + 1 + at_.length) p ks) (p + 1 + at_.length) (szK ks) en := runD_congr fun i h1 h2 => by rw [paN, if_neg (by omega), if_neg (by omega)]
    have c2 : ∀ en, runD (paN p q (.el nm at_ ks)) (p + 1) at_.length en = runD (fun _ => p) (p + 1) at_.length en := fun en => runD_congr fun i h1 h2 => by rw [paN, if_neg (by omega), if_pos (by omega)]
    have c1 : ∀ en, runD (paN p q (.el nm at_ ks)) p 1 en j = stE (fun _ => q) p en j := fun en => by
      show stE _ (p + 0) en j = _
      unfold stE
      rw [Nat.add_zero, paN, if_pos rfl]
    rw [c3, c2, c1]
    have r3 := run_K (p + 1 + at_.length) p ks en (by omega) (fun j h1 h2 => he j (by omega) (by omega))
    have r2 := run_A p at_.length (runD (paK (p + 1 + at_.length) p ks) (p + 1 + at_.length) (szK ks) en) (fun j h1 h2 => by
      rw [r3, if_neg (by omega), if_neg (by omega)]
      exact he j (by omega) (by omega))
    have hp := he p (Nat.le_refl _) (by omega)
    unfold stE
    dsimp only
    rw [r2, r2, r3, r3, laN]
    rw [hp]
    have hj := he j
    by_cases h1 : j = q
    · subst h1
      repeat' split
      all_goals omega
    · by_cases h2 : j = p
      · subst h2
        repeat' split
        all_goals omega
      · repeat' split
        all_goals omega
theorem run_K (p q : Nat) : ∀ (ds : List DN) (en : Nat → Nat), q < p → (∀ j, p ≤ j → j < p + szK ds → en j = j) → ∀ j, runD (paK p q ds) p (szK ds) en j = if p ≤ j ∧ j < p + szK ds then laK p ds j else if j = q then (if szK ds = 0 then en q else max (en q) (p + szK ds - 1)) else en j
  | [], en, hq, he, j => by
    rw [szK]
    show en j = _
    rw [if_neg (by omega)]
    by_cases h : j = q
    · rw [if_pos h, if_pos rfl, h]
    · rw [if_neg h]
  | d :: ds, en, hq, he, j => by
    rw [szK] at he ⊢
    have hpos := szN_pos d
    rw [runD_add]
    have c2 : runD (paK p q (d :: ds)) (p + szN d) (szK ds) en = runD (paK (p + szN d) q ds) (p + szN d) (szK ds) en := runD_congr fun i h1 h2 => by rw [paK, if_neg (by omega)]
    have c1 : ∀ en, runD (paK p q (d :: ds)) p (szN d) en = runD (paN p q d) p (szN d) en := fun en => runD_congr fun i h1 h2 => by rw [paK, if_pos (by omega)]
    rw [c2, c1]
    have r2 := run_K (p + szN d) q ds en (by omega) (fun j h1 h2 => he j (by omega) (by omega))
    rw [run_N p q d _ hq (fun j h1 h2 => by
      rw [r2, if_neg (by omega), if_neg (by omega)]
      exact he j h1 (by omega)), r2, r2, laK]
    have hj := he j
    by_cases h1 : j = q
    · subst h1
      repeat' split
      all_goals omega
    · repeat' split
      all_goals omega
end
end PX
/-! DXx -/
namespace PX
open PySem PySem.Spec PyProof.Rows L2 TL
/-! ### xs[:0:-1] -/
theorem range_rev (n : Nat) : (List.range n).map (fun k => n - 1 - k) = (List.range n).reverse := by
  refine List.ext_getElem (by simp) fun i h1 h2 => ?_
  simp [List.getElem_reverse]
theorem pick_revT (its : List Value) : slicePick its.toArray none (some 0) (some (-1)) = its.tail.reverse.toArray := by
  cases its with
  | nil => rfl
  | cons x xs =>
    unfold slicePick
    have e1 : sliceBounds none (some 0) (some (-1)) (x :: xs).toArray.size = ((xs.length : Int), 0, -1) := by
      simp [sliceBounds]
      omega
    rw [e1]
    dsimp only
    have e2 : sliceRange (xs.length : Int) 0 (-1) = (List.range xs.length).map fun k => xs.length - k := by
      unfold sliceRange
      have hc : (if (-1 : Int) > 0 then (if (xs.length : Int) < 0 then (0 - (xs.length : Int) + -1 - 1) / -1 else 0)
          else (if (xs.length : Int) > 0 then ((xs.length : Int) - 0 - -1 - 1) / (- -1) else 0)).toNat = xs.length := by
        have h0 : ¬ ((-1 : Int) > 0) := by decide
        simp only [h0, if_false]
        by_cases hn : (xs.length : Int) > 0
        · rw [if_pos hn]
          have : ((xs.length : Int) - 0 - -1 - 1) / (- -1) = xs.length := by
            have e : (- -1 : Int) = 1 := by decide
            rw [e, Int.ediv_one]; omega
          rw [this]; simp
        · rw [if_neg hn]; omega
      simp only [] at hc ⊢
      rw [hc]
      apply List.map_congr_left
      intro k hk
      have hk' : k < xs.length := List.mem_range.mp hk
      omega
    have e3 : ((List.range xs.length).map fun k => xs.length - k) = (((List.range xs.length).map (1 + ·)).reverse) := by
      rw [← List.map_reverse, ← range_rev, List.map_map]
      apply List.map_congr_left
      intro k hk
      have hk' : k < xs.length := List.mem_range.mp hk
      show xs.length - k = 1 + (xs.length - 1 - k)
      omega
    rw [e2, e3, List.filterMap_reverse]
    have e4 := pick_run (x :: xs).toArray 1 xs.length
    rw [e4]
    simp
def tRevT (K : PySem.W.Frag) (te : TE) (th ts : TO) : TE := fun σ H Q => te σ H fun x H1 => th σ H1 fun k0 H2 => k0 = some 0 ∧ ts σ H2 fun k H2 => k = some (-1) ∧ ∃ a xs, x = .ref a ∧ SqL K H2 a xs ∧ ∀ p, H2 p = none → Q (.ref p) (upd H2 p (.lst xs.tail.reverse))
theorem pe_revT {X : Cx} {e hi st : Expr} {te : TE} {th ts : TO} {pos p2 : Pos} (he : PE X e te) (hh : PO X (some hi) th) (hs : PO X (some st) ts) : PE X (.Subscript e (.Slice none (some hi) (some st) p2) pos) (tRevT X.K te th ts) := by
  refine ⟨fun pins s σ H Q I h => ?_⟩
  refine Subscript_ (thn (he.run pins s σ H _ I h) fun v s1 ⟨x, H1, I1, r1, q1⟩ => ?_)
  refine wpAny_Slice ?_
  rw [evalPart_none]
  refine wpAny_pure ?_
  refine thn (hh.run pins s1 σ H1 _ I1 q1) fun v0 s2 ⟨u0, H2, I2, p0, e0, q2⟩ => ?_
  refine thn (hs.run pins s2 σ H2 _ I2 q2) fun vu s3 ⟨u, H3, I3, pu, eu, a, xs, ex, hx, q3⟩ => ?_
  subst eu ex e0
  obtain rfl : v = Value.ref a := r1
  have I4 : Inv X pins σ H3 { s3 with heap := s3.heap.push { cls := .type "slice", data := .fields #[.none, v0, vu] } } := I3.kept (t' := s3.toks) fun b ob q => Heap.get?_push_of_some _ q
  obtain ⟨its, r, ht, hz⟩ := I4.list hx
  have hlen := r.length
  have go : wpAny (model X.prog X.w) X.A (getItem (.ref a) (.ref s3.heap.objs.size)) (EP X pins σ Q) X.xe { s3 with heap := s3.heap.push { cls := .type "slice", data := .fields #[.none, v0, vu] } } := by
    refine wpAny_getItem_list_slice ht.isList (Heap.IsSliceOf.new ..) .none p0 pu (by decide) ?_ (by rw [List.size_toArray]; omega)
    rw [pick_revT]
    refine ⟨.ref _, _, I4.laid (t' := s3.toks) (o := .lst xs.tail.reverse) (fun b ob q => Heap.get?_push_of_some _ q) (Nat.le_refl _) ?_, rfl, q3 _ (I4.hok.fresh (Nat.le_refl _))⟩
    refine ⟨by rw [List.length_reverse, List.length_tail]; omega, _, 0, Vals.reverse (?_ : Vals xs.tail its.tail), Heap.get?_push_size _ rfl⟩
    cases r with
    | nil => exact .nil
    | cons _ r => exact r
  exact tail_any (ops := [.ref a, .ref s3.heap.objs.size]) ht.isList.typeIs slot_list_getitem.lookup go (by with_unfolding_all rfl)
end PX
/-! DXy -/
namespace PX
open PySem PySem.Spec PyProof.Rows L2 TL
mutual
theorem NodeAt.sz {K : PySem.W.Frag} {o : Og} {F : Hp} {par a : Addr} {i : Nat} : ∀ {d : DN} {l : List Addr}, NodeAt K o F par i a d l → l.length = szN d
  | .lf k nm t, l, h => by
    rw [NodeAt] at h
    rw [h.1, szN]
    rfl
  | .el nm at_ ks, l, h => by
    rw [NodeAt] at h
    obtain ⟨dx, A, C, as, cs, ls, rfl, h1, h2, h3, h4, h5⟩ := h
    rw [szN, List.length_cons, List.length_append, h4.len, KidsAt.sz h5]
    omega
theorem KidsAt.sz {K : PySem.W.Frag} {o : Og} {F : Hp} {par : Addr} {i : Nat} : ∀ {cs : List Addr} {ds : List DN} {ls : List Addr}, KidsAt K o F par i cs ds ls → ls.length = szK ds
  | cs, [], ls, h => by
    rw [KidsAt] at h
    rw [h.2, szK]
    rfl
  | cs, d :: ds, ls, h => by
    rw [KidsAt] at h
    obtain ⟨c, cs', l, ls', h1, rfl, h3, h4⟩ := h
    rw [szK, List.length_append, NodeAt.sz h3, KidsAt.sz h4]
end
abbrev Zr : Type := List (Addr × Addr × NR)
def Ro (o : Og) (b : Addr) (r : NR) : NR := { r with ord := (o b).1, en := (o b).2.1, tr := (o b).2.2 }
def LstS (F F' : Hp) : Prop := ∀ (b : Addr) (xs : List V), F b = some (HO.lst xs) → F' b = some (HO.lst xs)
def AllZ (K : PySem.W.Frag) (F' : Hp) (o : Og) (Z : Zr) : Prop := ∀ z ∈ Z, NdA K F' z.1 z.2.1 (Ro o z.1 z.2.2)
section
variable {K : PySem.W.Frag} {F : Hp}
theorem ats_rec {par : Addr} : ∀ {as : List Addr} {qs : List (List Nat × List Nat)}, AtsAt K o0 F par as qs → ∃ Z : Zr, Z.map (·.1) = as ∧ (∀ z ∈ Z, NdA K F z.1 z.2.1 z.2.2) ∧ (∀ z ∈ Z, z.2.2.par = .ref par) ∧ (∀ (F' : Hp) (o : Og), AllZ K F' o Z → LstS F F' → AtsAt K o F' par as qs)
  | [], [], _ => ⟨[], rfl, fun z hz => (by cases hz), fun z hz => (by cases hz), fun _ _ _ _ => trivial⟩
  | a :: as, q :: qs, h => by
    obtain ⟨Z, e1, e2, e3, e4⟩ := ats_rec h.2
    obtain ⟨dx, A, C, h1, h2, h3⟩ := h.1
    refine ⟨(a, dx, mkR o0 a A C (.str "attribute") (.str (mkS q.1)) (.ref par) (.str (mkS (64 :: q.1))) (.str (mkS q.2))) :: Z, by rw [List.map_cons, e1], fun z hz => ?_, fun z hz => ?_, fun F' o hn hl => ?_⟩
    · rcases List.mem_cons.mp hz with rfl | hz
      · exact h1
      · exact e2 z hz
    · rcases List.mem_cons.mp hz with rfl | hz
      · rfl
      · exact e3 z hz
    · exact ⟨⟨dx, A, C, hn _ List.mem_cons_self, hl _ _ h2, hl _ _ h3⟩, e4 F' o (fun z hz => hn z (List.mem_cons_of_mem _ hz)) hl⟩
  | [], _ :: _, h => h.elim
  | _ :: _, [], h => h.elim
theorem map_len {Z : Zr} {l : List Addr} (h : Z.map (·.1) = l) : Z.length = l.length := by rw [← h, List.length_map]
mutual
theorem nd_rec {par a : Addr} {i : Nat} : ∀ {d : DN} {l : List Addr}, NodeAt K o0 F par i a d l → ∃ Z : Zr, Z.map (·.1) = l ∧ (∀ z ∈ Z, NdA K F z.1 z.2.1 z.2.2) ∧
    (∀ (L : List Addr) (p q : Nat), (∀ k b, l[k]? = some b → L[p + k]? = some b) → L[q]? = some par → ∀ k z, Z[k]? = some z → ∃ pb, z.2.2.par = .ref pb ∧ L[paN p q d (p + k)]? = some pb) ∧ (∀ (F' : Hp) (o : Og), AllZ K F' o Z → LstS F F' → NodeAt K o F' par i a d l)
  | .lf kk nm t, l, h => by
    rw [NodeAt] at h
    obtain ⟨rfl, dx, A, C, h1, h2, h3⟩ := h
    refine ⟨[(a, dx, mkR o0 a A C (.str (kS kk)) (nmV nm) (.ref par) (.int (i : Int)) (.str (mkS t)))], rfl, fun z hz => ?_, fun L p q hL hq k z hz => ?_, fun F' o hn hl => ?_⟩
    · rw [List.mem_singleton] at hz
      subst hz
      exact h1
    · cases k with
      | zero =>
        have := Option.some.inj hz
        subst this
        exact ⟨par, rfl, by rw [paN]; exact hq⟩
      | succ k => cases hz
    · rw [NodeAt]
      exact ⟨rfl, dx, A, C, hn _ List.mem_cons_self, hl _ _ h2, hl _ _ h3⟩
  | .el nm at_ ks, l, h => by
    rw [NodeAt] at h
    obtain ⟨dx, A, C, as, cs, ls, rfl, h1, h2, h3, h4, h5⟩ := h
    obtain ⟨Za, a1, a2, a3, a4⟩ := ats_rec h4
    obtain ⟨Zk, k1, k2, k3, k4⟩ := kd_rec h5
    have hla := map_len a1
    have hlen := h4.len
    refine ⟨(a, dx, mkR o0 a A C (.str "element") (.str (mkS nm)) (.ref par) (.int (i : Int)) (.str (mkS []))) :: (Za ++ Zk), by rw [List.map_cons, List.map_append, a1, k1], fun z hz => ?_, fun L p q hL hq k z hz => ?_, fun F' o hn hl => ?_⟩
    · rcases List.mem_cons.mp hz with rfl | hz
      · exact h1
      · rcases List.mem_append.mp hz with hz | hz
        · exact a2 z hz
        · exact k2 z hz
    · have hp : L[p]? = some a := hL 0 a rfl
      cases k with
      | zero =>
        have := Option.some.inj hz
        subst this
        exact ⟨par, rfl, by rw [paN, if_pos (Nat.add_zero p)]; exact hq⟩
      | succ k =>
        have hz' : (Za ++ Zk)[k]? = some z := hz
        rw [List.getElem?_append] at hz'
        by_cases hk : k < Za.length
        · rw [if_pos hk] at hz'
          exact ⟨a, a3 z (List.mem_of_getElem? hz'), by rw [paN, if_neg (by omega), if_pos (by omega)]; exact hp⟩
        · rw [if_neg hk] at hz'
          obtain ⟨pb, e2, e3⟩ := k3 L (p + 1 + at_.length) p (fun k2 b2 hb2 => by
            have := hL (1 + (as.length + k2)) b2 (by
              rw [Nat.add_comm 1]
              show (as ++ ls)[as.length + k2]? = some b2
              rw [List.getElem?_append_right (by omega), Nat.add_sub_cancel_left]
              exact hb2)
            rw [show p + 1 + at_.length + k2 = p + (1 + (as.length + k2)) by omega]
            exact this) hp (k - Za.length) z hz'
          refine ⟨pb, e2, ?_⟩
          rw [paN, if_neg (by omega), if_neg (by omega), show p + (k + 1) = p + 1 + at_.length + (k - Za.length) by omega]
          exact e3
    · rw [NodeAt]
      exact ⟨dx, A, C, as, cs, ls, rfl, hn _ List.mem_cons_self, hl _ _ h2, hl _ _ h3, a4 F' o (fun z hz => hn z (List.mem_cons_of_mem _ (List.mem_append_left _ hz))) hl, k4 F' o (fun z hz => hn z (List.mem_cons_of_mem _ (List.mem_append_right _ hz))) hl⟩
theorem kd_rec {par : Addr} {i : Nat} : ∀ {cs : List Addr} {ds : List DN} {l : List Addr}, KidsAt K o0 F par i cs ds l → ∃ Z : Zr, Z.map (·.1) = l ∧ (∀ z ∈ Z, NdA K F z.1 z.2.1 z.2.2) ∧
    (∀ (L : List Addr) (p q : Nat), (∀ k b, l[k]? = some b → L[p + k]? = some b) → L[q]? = some par → ∀ k z, Z[k]? = some z → ∃ pb, z.2.2.par = .ref pb ∧ L[paK p q ds (p + k)]? = some pb) ∧ (∀ (F' : Hp) (o : Og), AllZ K F' o Z → LstS F F' → KidsAt K o F' par i cs ds l)
  | cs, [], l, h => by
    rw [KidsAt] at h
    obtain ⟨rfl, rfl⟩ := h
    refine ⟨[], rfl, fun z hz => (by cases hz), fun L p q hL hq k z hz => (by cases hz), fun F' o hn hl => ?_⟩
    rw [KidsAt]
    exact ⟨rfl, rfl⟩
  | cs, d :: ds, l, h => by
    rw [KidsAt] at h
    obtain ⟨c, cs', l, ls', rfl, rfl, h3, h4⟩ := h
    obtain ⟨Za, a1, a2, a3, a4⟩ := nd_rec h3
    obtain ⟨Zk, k1, k2, k3, k4⟩ := kd_rec h4
    have hla := map_len a1
    have hs := h3.sz
    refine ⟨Za ++ Zk, by rw [List.map_append, a1, k1], fun z hz => ?_, fun L p q hL hq k z hz => ?_, fun F' o hn hl => ?_⟩
    · rcases List.mem_append.mp hz with hz | hz
      · exact a2 z hz
      · exact k2 z hz
    · rw [List.getElem?_append] at hz
      by_cases hk : k < Za.length
      · rw [if_pos hk] at hz
        obtain ⟨pb, e2, e3⟩ := a3 L p q (fun k2 b2 hb2 => hL k2 b2 (by
          rw [List.getElem?_append_left]
          · exact hb2
          · exact (List.getElem?_eq_some_iff.mp hb2).1)) hq k z hz
        exact ⟨pb, e2, by rw [paK, if_pos (by omega)]; exact e3⟩
      · rw [if_neg hk] at hz
        obtain ⟨pb, e2, e3⟩ := k3 L (p + szN d) q (fun k2 b2 hb2 => by
          have := hL (l.length + k2) b2 (by
            rw [List.getElem?_append_right (by omega), Nat.add_sub_cancel_left]
            exact hb2)
          rw [show p + szN d + k2 = p + (l.length + k2) by omega]
          exact this) hq (k - Za.length) z hz
        refine ⟨pb, e2, ?_⟩
        rw [paK, if_neg (by omega), show p + k = p + szN d + (k - Za.length) by omega]
        exact e3
    · rw [KidsAt]
      exact ⟨c, cs', l, ls', rfl, rfl, a4 F' o (fun z hz => hn z (List.mem_append_left _ hz)) hl, k4 F' o (fun z hz => hn z (List.mem_append_right _ hz)) hl⟩
end
end
end PX
/-! DXz -/
namespace PX
open PySem PySem.Spec PyProof.Rows L2 TL
abbrev CTr (K : PySem.W.Frag) : Addr := He.ga K "Tree"
def trF (rt p : Addr) : List (Str × V) := [("root", .ref rt), ("number", .int 0), ("nodes", .ref p)]
theorem tr_root {rt p : Addr} : (trF rt p).lookup ("root" : Str) = some (.ref rt) := lk_hit
theorem tr_nodes {rt p : Addr} : (trF rt p).lookup ("nodes" : Str) = some (.ref p) := (lk_skip (by decide +kernel)).trans ((lk_skip (by decide +kernel)).trans lk_hit)
def RtAt (K : PySem.W.Frag) (o : Og) (F : Hp) (a rdx rA rC : Addr) (cs : List Addr) (ks : List DN) (ls : List Addr) : Prop :=
  NdA K F a rdx (mkR o a rA rC (.str "root") .non .non .non (.str (mkS []))) ∧ F rA = some (.lst []) ∧ F rC = some (.lst (refs cs)) ∧ KidsAt K o F a 0 cs ks ls
section
variable {K : PySem.W.Frag} {F H : Hp}
theorem rt_rec {a rdx rA rC : Addr} {cs : List Addr} {ks : List DN} {ls : List Addr} (h : RtAt K o0 F a rdx rA rC cs ks ls) : ∃ Z : Zr, Z.map (·.1) = a :: ls ∧ (∀ z ∈ Z, NdA K F z.1 z.2.1 z.2.2) ∧
    (∀ k z, Z[k]? = some z → 1 ≤ k → ∃ pb, z.2.2.par = .ref pb ∧ (a :: ls)[paK 1 0 ks k]? = some pb) ∧ (∀ (F' : Hp) (o : Og), AllZ K F' o Z → LstS F F' → RtAt K o F' a rdx rA rC cs ks ls) := by
  obtain ⟨h1, h2, h3, h4⟩ := h
  obtain ⟨Z, e1, e2, e3, e4⟩ := kd_rec h4
  refine ⟨(a, rdx, mkR o0 a rA rC (.str "root") .non .non .non (.str (mkS []))) :: Z, by rw [List.map_cons, e1], fun z hz => ?_, fun k z hz hk => ?_, fun F' o hn hl => ?_⟩
  · rcases List.mem_cons.mp hz with rfl | hz
    · exact h1
    · exact e2 z hz
  · cases k with
    | zero => omega
    | succ k =>
      have := e3 (a :: ls) 1 0 (fun k b hb => by rw [Nat.add_comm]; exact hb) rfl k z hz
      rw [Nat.add_comm] at this
      exact this
  · exact ⟨hn _ List.mem_cons_self, hl _ _ h2, hl _ _ h3, e4 F' o (fun z hz => hn z (List.mem_cons_of_mem _ hz)) hl⟩
def NZ (K : PySem.W.Frag) (H : Hp) (Z : Zr) (g : Nat → NR → NR) : Prop := ∀ k z, Z[k]? = some z → NdA K H z.1 z.2.1 (g k z.2.2)
theorem NZ.keep {Z : Zr} {g : Nat → NR → NR} {H' : Hp} (h : NZ K H Z g) (s : Same H H') : NZ K H' Z g := fun k z hz => (h k z hz).keep s
theorem NZ.up {Z : Zr} {g g' : Nat → NR → NR} {k : Nat} {z : Addr × Addr × NR} (h : NZ K H Z g) (nd : (Z.map (·.1)).Nodup) (hz : Z[k]? = some z) (hg : ∀ j r, j ≠ k → g' j r = g j r) :
    NZ K (upd H z.1 (SlX.SlO z.1 (CNd K) z.2.1 (g' k z.2.2).vs)) Z g' := by
  intro j y hy
  by_cases e : j = k
  · subst e
    have : z = y := Option.some.inj (hz.symm.trans hy)
    subst this
    exact (h j z hz).up
  · rw [hg j y.2.2 e]
    refine (h j y hy).off (fun e2 => e ?_) ((h j y hy).dn (h k z hz))
    have h1 : (Z.map (·.1))[j]? = some y.1 := by rw [List.getElem?_map, hy]; rfl
    have h2 : (Z.map (·.1))[k]? = some y.1 := by rw [List.getElem?_map, hz, ← e2]; rfl
    obtain ⟨b1, b2⟩ := List.getElem?_eq_some_iff.mp h1
    obtain ⟨b3, b4⟩ := List.getElem?_eq_some_iff.mp h2
    exact (List.getElem_inj nd).mp (b2.trans b4.symm)
end
def laR (ks : List DN) (k : Nat) : Nat := if k = 0 then szK ks else laK 1 ks k
section
variable {P : Program} {w : World} {K : PySem.W.Frag} {mg : Str → Option Value} {base : Heap}
def spTI (K : PySem.W.Frag) : Sp := fun vs H Q _ => ∃ (F : Hp) (t dx a rdx rA rC : Addr) (cs : List Addr) (ks : List DN) (ls : List Addr), vs = [.ref t, .ref a] ∧ RtAt K o0 F a rdx rA rC cs ks ls ∧ Same F H ∧ H t = some (.ins (CTr K) dx []) ∧ F t = none ∧ (a :: ls).Nodup ∧ (a :: ls).length ≤ 1000000 ∧
  ∀ H' p o, SameX (t :: a :: ls) H H' → H' t = some (.ins (CTr K) dx (trF a p)) → H p = none → H' p = some (.lst (refs (a :: ls))) → RtAt K o H' a rdx rA rC cs ks ls → (∀ (k : Nat) b, (a :: ls)[k]? = some b → o b = (.int (k : Int), .int (laR ks k : Int), .ref t)) → Q .non H'
theorem ok_Tree_init (T : Tx w K mg) : Ok P w K mg base CX0 2 (He.fAd K d_Tree_init.at_) p_Tree_init (spTI K) := by
  obtain ⟨fd, F⟩ := f_Tree_init T
  obtain ⟨fN, GN, bN, kN⟩ := ok_nodes_in (P := P) (base := base) T
  refine ⟨fd, ?_, b_Tree_init F, F.kp⟩
  refine F.ok sc_Tree_init (fun vs H Q E h => ?_) (fun cdv A outer s H vs Q E hr h => ?_)
  · obtain ⟨F, t, dx, a, rdx, rA, rC, cs, ks, ls, rfl, _⟩ := h
    rfl
  · obtain ⟨F, t, dx, a, rdx, rA, rC, cs, ks, ls, rfl, hrt, sF, ht, ft, hnd, hlen, kk⟩ := h
    have nd := sc_Tree_init.nd
    refine ⟨_, PSs.nox (pss_cons (ps_fld (pv 0) (pv 1) rfl) (pss_cons (ps_fld (pv 0) pe_int rfl) (pss_cons (ps_fld (pv 0) (pe_call (E := E0) GN (hr.mono (by omega)) (by rfl) (g_nodes_in T) kN bN .nil pass0 (pa_cons (pv 1) pa_nil)) rfl) (pss_cons ((ps_for PassesOwn.never rfl (pi_enum (by rfl) (n_enumerate T) (pa_cons (pe_fld (pv 0) rfl) pa_nil)) ((pg_tup (by rfl) (pgs_cons (pg_name (i := 2) nd rfl (.inl rfl)) (pgs_cons (pg_name (i := 3) nd rfl (.inl rfl)) pgs_nil)))) (pss_cons (SlX.ps_sl (pv 3) (pv 2)) (pss_cons (SlX.ps_sl (pv 3) (pv 2)) (pss_one (SlX.ps_sl (pv 3) (pv 0))))))) (pss_one ((ps_for PassesOwn.never rfl (pi_list (pe_revT (pe_fld (pv 0) rfl) (po_some pe_int) (po_some (pe_un un_neg pe_int)))) ((pg_name (i := 3) nd rfl (.inl rfl))) (pss_cons (ps_set (i := 4) nd rfl (.inl rfl) (SlX.pe_sl (pv 3))) (pss_one ((ps_if ((pt_cmpR op_lt (SlX.pe_sl (pv 4)) (SlX.pe_sl (pv 3)) (nomark _))) (pss_one (SlX.ps_sl (pv 4) (SlX.pe_sl (pv 3)))) pss_nil))))))))))), ?_⟩
    have hwk : Wk K F [a] (a :: ls) := by
      have h1 := KidsAt.wk hrt.2.2.2 Wk.nil
      rw [List.append_nil ls] at h1
      exact .cons (as := []) hrt.1 hrt.2.1 hrt.2.2.1 h1
    obtain ⟨Z, z1, z2, z3, z4⟩ := rt_rec hrt
    have hZl : Z.length = (a :: ls).length := map_len z1
    have hnz : (Z.map (·.1)).Nodup := by rw [z1]; exact hnd
    have e1 : putF "root" (V.ref a) [] = [(("root" : Str), V.ref a)] := put_new
    have e2 : putF "number" (V.int 0) [(("root" : Str), V.ref a)] = ([(("root" : Str), V.ref a), (("number" : Str), V.int 0)] : List (Str × V)) := by
      rw [put_skip (by decide +kernel), put_new]
    refine ⟨_, rfl, _, rfl, t, CTr K, dx, _, rfl, ht, cls_Tree T, na_Tree_root T, by decide, ?_⟩
    rw [e1]
    refine ⟨_, rfl, t, CTr K, dx, _, rfl, upd_same, cls_Tree T, na_Tree_number T, (by show 1 < 1000; decide), ?_⟩
    rw [e2, upd_upd2]
    have s1 : Same F (upd H t (.ins (CTr K) dx [(("root" : Str), V.ref a), (("number" : Str), V.int 0)])) := same_upd0 sF ft
    refine ⟨_, rfl, F, a, a :: ls, rfl, s1, hwk, hlen, fun H2 p s2 hp0 hp => ?_⟩
    have ht2 := s2 _ _ upd_same
    have hpt : p ≠ t := (ne_of_none upd_same hp0).symm
    have hp0' : H p = none := by rw [upd_ne hpt] at hp0; exact hp0
    refine ⟨_, rfl, t, CTr K, dx, _, rfl, ht2, cls_Tree T, na_Tree_nodes T, (by show 2 < 1000; decide), ?_⟩
    have e3 : putF "nodes" (V.ref p) [(("root" : Str), V.ref a), (("number" : Str), V.int 0)] = trF a p := by
      unfold trF
      rw [put_skip (by decide +kernel), put_skip (by decide +kernel), put_new]
    rw [e3]
    have sx3 : SameX (t :: a :: ls) H (upd H2 t (.ins (CTr K) dx (trF a p))) := fun b o hb ho => by
      have hbt : b ≠ t := fun e => hb (e ▸ List.mem_cons_self)
      rw [upd_ne hbt]
      exact s2 _ _ (by rw [upd_ne hbt]; exact ho)
    have s3 : Same F (upd H2 t (.ins (CTr K) dx (trF a p))) := same_upd0 (s1.trans s2) ft
    have hp3 : upd H2 t (.ins (CTr K) dx (trF a p)) p = some (.lst (refs (a :: ls))) := by rw [upd_ne hpt]; exact hp
    have ht3 : upd H2 t (.ins (CTr K) dx (trF a p)) t = some (.ins (CTr K) dx (trF a p)) := upd_same
    generalize upd H2 t (.ins (CTr K) dx (trF a p)) = H3 at sx3 s3 hp3 ht3 ⊢
    have nz3 : NZ K H3 Z fun _ r => r := fun k z hz => (z2 z (List.mem_of_getElem? hz)).keep s3
    have hin : ∀ {k : Nat} {z : Addr × Addr × NR}, Z[k]? = some z → (a :: ls)[k]? = some z.1 := fun {k z} hz => by rw [← z1, List.getElem?_map, hz]; rfl
    have hzm : ∀ {k : Nat} {z : Addr × Addr × NR}, Z[k]? = some z → z.1 ∈ a :: ls := fun hz => List.mem_of_getElem? (hin hz)
    have pL : p ∉ a :: ls := fun hm => by
      rw [← z1] at hm
      obtain ⟨z, hz, e⟩ := List.mem_map.mp hm
      have := ((z2 z hz).keep s3).1
      rw [e, hp3] at this
      unfold SlX.SlO at this
      cases this
    have tL : t ∉ a :: ls := fun hm => by
      rw [← z1] at hm
      obtain ⟨z, hz, e⟩ := List.mem_map.mp hm
      have := ((z2 z hz).keep s3).1
      rw [e, ht3] at this
      unfold SlX.SlO at this
      cases this
    refine ⟨_, rfl, t, CTr K, dx, _, .ref p, rfl, ht3, cls_Tree T, na_Tree_nodes T, tr_nodes, p, refs (a :: ls), rfl, SqL.of hp3, ?_⟩
    refine for_it walk_enum (fun i σ H4 => (∃ u v, σ = [some (V.ref t), some (.ref a), u, v, none]) ∧ SameX (a :: ls) H3 H4 ∧ NZ K H4 Z fun k r => if k < i then { r with ord := .int (k : Int), en := .int (k : Int), tr := .ref t } else r)
      ⟨⟨none, none, rfl⟩, fun b o _ ho => ho, nz3⟩ (fun i σ H4 _ h => SqL.of (h.2.1 _ _ pL hp3)) ?_ ?_
    · rintro i x σ H4 H5 hi ⟨⟨u, v, rfl⟩, sx4, nz4⟩ ⟨T1, x1, y1, rfl, hT1, rfl, q2, q3⟩
      have hx1 : V.int (i : Int) = x1 := Option.some.inj q2
      subst hx1
      have s5 := same_new hT1 (o := .tup [.int (i : Int), y1])
      have nz5 := nz4.keep s5
      have hk : ∃ z, Z[i]? = some z := by
        rw [refs_len] at hi
        exact ⟨Z[i]'(by omega), List.getElem?_eq_getElem (by omega)⟩
      obtain ⟨z, hz⟩ := hk
      have hy1 : y1 = .ref z.1 := by
        have h1 : (refs (a :: ls))[i]? = some y1 := q3
        unfold refs at h1
        rw [List.getElem?_map, hin hz] at h1
        exact (Option.some.inj h1).symm
      subst hy1
      have sx5 : SameX (a :: ls) H3 (upd H4 T1 (.tup [.int (i : Int), .ref z.1])) := sx4.trans (SameX.same s5)
      refine ⟨T1, _, rfl, SqT.of upd_same, rfl, _, _, rfl, _, _, rfl, rfl, ?_⟩
      generalize upd H4 T1 (.tup [.int (i : Int), .ref z.1]) = H5 at nz5 sx5 ⊢
      have n5 : NdA K H5 z.1 z.2.1 z.2.2 := by
        have := nz5 i z hz
        dsimp only at this
        rw [if_neg (Nat.lt_irrefl i)] at this
        exact this
      refine ⟨_, rfl, _, rfl, z.1, CNd K, z.2.1, _, _, 5, rfl, n5.slt, scl_N T, slt_order T, ?_⟩
      rw [n5.store, show SlX.putS 5 (.int (i : Int)) z.2.2.vs = ({ z.2.2 with ord := .int (i : Int) } : NR).vs from rfl]
      have n6 := n5.up (r' := { z.2.2 with ord := .int (i : Int) })
      refine ⟨_, rfl, _, rfl, z.1, CNd K, z.2.1, _, _, 2, rfl, n6.slt, scl_N T, slt_end T, ?_⟩
      rw [n6.store, show SlX.putS 2 (.int (i : Int)) ({ z.2.2 with ord := .int (i : Int) } : NR).vs = ({ z.2.2 with ord := .int (i : Int), en := .int (i : Int) } : NR).vs from rfl, upd_upd2]
      have n7 := n5.up (r' := { z.2.2 with ord := .int (i : Int), en := .int (i : Int) })
      refine ⟨_, rfl, _, rfl, z.1, CNd K, z.2.1, _, _, 9, rfl, n7.slt, scl_N T, slt_tree T, ?_⟩
      rw [n7.store, show SlX.putS 9 (.ref t) ({ z.2.2 with ord := .int (i : Int), en := .int (i : Int) } : NR).vs = ({ z.2.2 with ord := .int (i : Int), en := .int (i : Int), tr := .ref t } : NR).vs from rfl, upd_upd2]
      refine ⟨⟨_, _, rfl⟩, fun b o hb ho => ?_, ?_⟩
      · rw [upd_ne fun e => hb (by rw [e]; exact hzm hz)]
        exact sx5 b o hb ho
      · have := nz5.up (g' := fun k r => if k < i + 1 then { r with ord := .int (k : Int), en := .int (k : Int), tr := .ref t } else r) hnz hz (fun j r hj => by
          by_cases h1 : j < i
          · rw [if_pos h1, if_pos (by omega)]
          · rw [if_neg h1, if_neg (by omega)])
        rw [if_pos (Nat.lt_succ_self i)] at this
        exact this
    · rintro σ H4 ⟨⟨u, v, rfl⟩, sx4, nz4⟩
      rw [refs_len] at nz4
      have hp4 := sx4 _ _ pL hp3
      have ht4 := sx4 _ _ tL ht3
      refine ⟨_, rfl, t, CTr K, dx, _, .ref p, rfl, ht4, cls_Tree T, na_Tree_nodes T, tr_nodes, _, rfl, rfl, ?_⟩
      refine ⟨_, rfl, _, rfl, rfl, p, refs (a :: ls), rfl, SqL.of hp4, fun q hq => ⟨q, rfl, ⟨_, SqL.of upd_same⟩, ?_⟩⟩
      have hlk : ls.length = szK ks := hrt.2.2.2.sz
      have hys : (refs (a :: ls)).tail.reverse.length = szK ks := by
        rw [List.length_reverse, List.length_tail, refs_len, List.length_cons]
        omega
      have hqL : q ∉ a :: ls := fun hm => by
        rw [← z1] at hm
        obtain ⟨z, hz, e⟩ := List.mem_map.mp hm
        obtain ⟨k, hk⟩ := List.mem_iff_getElem?.mp hz
        have := (nz4 k z hk).1
        rw [e, hq] at this
        cases this
      have nz5 : NZ K (upd H4 q (.lst (refs (a :: ls)).tail.reverse)) Z fun k r => { r with ord := .int (k : Int), en := .int (k : Int), tr := .ref t } := fun k z hz => by
        have := (nz4 k z hz).keep (same_new hq (o := .lst (refs (a :: ls)).tail.reverse))
        dsimp only at this
        rw [if_pos (by have := (List.getElem?_eq_some_iff.mp hz).1; omega)] at this
        exact this
      refine for_it (walk_list (K := K) (a := q) (xs := (refs (a :: ls)).tail.reverse)) (fun i σ H5 => (∃ u v x, σ = [some (V.ref t), some (.ref a), u, v, x]) ∧ SameX (a :: ls) H3 H5 ∧ H5 q = some (.lst (refs (a :: ls)).tail.reverse) ∧ NZ K H5 Z fun k r => { r with ord := .int (k : Int), en := .int (runD (paK 1 0 ks) (1 + (szK ks - i)) i id k : Int), tr := .ref t })
        ⟨⟨_, _, _, rfl⟩, sx4.trans (SameX.same (same_new hq)), upd_same, nz5⟩ (fun i σ H5 _ h => SqL.of h.2.2.1) ?_ ?_
      · rintro i x σ H5' H5 hi ⟨⟨u, v, w5, rfl⟩, sx5, hq5, nz6⟩ ⟨rfl, hx⟩
        rw [hys] at hi
        have hk1 : szK ks - i < Z.length := by rw [hZl, List.length_cons]; omega
        have hz : Z[szK ks - i]? = some Z[szK ks - i] := List.getElem?_eq_getElem hk1
        generalize Z[szK ks - i] = z at hz
        have hx2 : x = .ref z.1 := by
          have h1 : (refs (a :: ls)).tail.reverse[i]? = some x := hx
          have h2 : (refs (a :: ls)).tail = refs ls := rfl
          rw [h2] at h1
          rw [List.getElem?_reverse (by rw [refs_len]; omega), refs_len] at h1
          have h3 := hin hz
          rw [show szK ks - i = (ls.length - 1 - i) + 1 by omega, List.getElem?_cons_succ] at h3
          unfold refs at h1
          rw [List.getElem?_map, h3] at h1
          exact (Option.some.inj h1).symm
        subst hx2
        have n5 := nz6 _ z hz
        obtain ⟨pb, hpar, hpb⟩ := z3 _ z hz (by omega)
        have hk2 : ∃ y, Z[paK 1 0 ks (szK ks - i)]? = some y ∧ y.1 = pb := by
          rw [← z1, List.getElem?_map] at hpb
          cases hy : Z[paK 1 0 ks (szK ks - i)]? with
          | none => rw [hy] at hpb; cases hpb
          | some y => rw [hy] at hpb; exact ⟨y, rfl, Option.some.inj hpb⟩
        obtain ⟨y, hy, rfl⟩ := hk2
        have n6 := nz6 _ y hy
        generalize hen : runD (paK 1 0 ks) (1 + (szK ks - i)) i id = en at nz6 n5 n6
        have hstep : runD (paK 1 0 ks) (1 + (szK ks - (i + 1))) (i + 1) id = stE (paK 1 0 ks) (szK ks - i) en := by
          rw [Nat.add_comm i 1, runD_add, show 1 + (szK ks - (1 + i)) = szK ks - i by omega, show szK ks - i + 1 = 1 + (szK ks - i) by omega, hen]
          show stE _ (szK ks - i + 0) en = _
          rw [Nat.add_zero]
        rw [hstep]
        refine ⟨_, rfl, z.1, CNd K, z.2.1, _, _, 6, z.2.2.par, rfl, n5.slt, scl_N T, slt_parent T, rfl, ?_⟩
        rw [hpar]
        have tow : ∀ {H6 : Hp}, SameX (a :: ls) H5 H6 → H6 q = some (.lst (refs (a :: ls)).tail.reverse) → (NZ K H6 Z fun k r => { r with ord := .int (k : Int), en := .int (stE (paK 1 0 ks) (szK ks - i) en k : Int), tr := .ref t }) →
            ∀ {w5 w6 w7 : Option V}, (∃ u v x, [some (V.ref t), some (.ref a), w5, w6, w7] = [some (V.ref t), some (.ref a), u, v, x]) ∧ SameX (a :: ls) H3 H6 ∧ H6 q = some (.lst (refs (a :: ls)).tail.reverse) ∧ NZ K H6 Z fun k r => { r with ord := .int (k : Int), en := .int (stE (paK 1 0 ks) (szK ks - i) en k : Int), tr := .ref t } :=
          fun x1 x2 x3 => ⟨⟨_, _, _, rfl⟩, sx5.trans x1, x2, x3⟩
        refine ⟨_, rfl, y.1, CNd K, y.2.1, _, _, 2, _, rfl, n6.slt, scl_N T, slt_end T, rfl, _, rfl, z.1, CNd K, z.2.1, _, _, 2, _, rfl, n5.slt, scl_N T, slt_end T, rfl, _, _, rfl, rfl, _, rfl, ?_⟩
        show if decide ((en (paK 1 0 ks (szK ks - i)) : Int) < (en (szK ks - i) : Int)) = true then _ else _
        by_cases hlt : en (paK 1 0 ks (szK ks - i)) < en (szK ks - i)
        · refine iteT ?_ (decide_eq_true (by omega))
          refine ⟨_, rfl, z.1, CNd K, z.2.1, _, _, 2, _, rfl, n5.slt, scl_N T, slt_end T, rfl, _, rfl, y.1, CNd K, y.2.1, _, _, 2, rfl, n6.slt, scl_N T, slt_end T, ?_⟩
          rw [n6.store]
          refine tow (fun b o hb ho => ?_) ?_ ?_
          · rw [upd_ne fun e => hb (by rw [e]; exact hzm hy)]
            exact ho
          · rw [upd_ne fun e => hqL (by rw [e]; exact hzm hy)]
            exact hq5
          · have h9 := nz6.up (g' := fun k r => { r with ord := .int (k : Int), en := .int (stE (paK 1 0 ks) (szK ks - i) en k : Int), tr := .ref t }) hnz hy (fun j r hj => by
              unfold stE
              rw [if_neg hj])
            have e9 : stE (paK 1 0 ks) (szK ks - i) en (paK 1 0 ks (szK ks - i)) = en (szK ks - i) := by
              unfold stE
              rw [if_pos rfl]
              omega
            rw [e9] at h9
            exact h9
        · refine iteF ?_ (decide_eq_false (by omega))
          refine tow (fun b o _ ho => ho) hq5 ?_
          have e9 : stE (paK 1 0 ks) (szK ks - i) en = en := by
            funext j
            unfold stE
            by_cases hj : j = paK 1 0 ks (szK ks - i)
            · rw [if_pos hj, hj]
              omega
            · rw [if_neg hj]
          rw [e9]
          exact nz6
      · rintro σ H5 ⟨⟨u, v, w5, rfl⟩, sx5, hq5, nz6⟩
        rw [hys, Nat.sub_self] at nz6
        have hidx : ∀ (k : Nat) b, (a :: ls)[k]? = some b → (a :: ls).idxOf b = k := fun k b hb => by
          obtain ⟨h1, h2⟩ := List.getElem?_eq_some_iff.mp hb
          rw [← h2]
          exact hnd.idxOf_getElem k h1
        have hend : ∀ k, k < (a :: ls).length → runD (paK 1 0 ks) (1 + 0) (szK ks) id k = laR ks k := fun k hk => by
          rw [List.length_cons] at hk
          have := run_K 1 0 ks id (by omega) (fun j _ _ => rfl) k
          rw [Nat.add_zero, this]
          unfold laR
          show (if 1 ≤ k ∧ k < 1 + szK ks then laK 1 ks k else if k = 0 then (if szK ks = 0 then 0 else max 0 (1 + szK ks - 1)) else k) = _
          by_cases h0 : k = 0
          · subst h0
            rw [if_neg (by omega), if_pos rfl, if_pos rfl]
            split <;> omega
          · rw [if_pos (by omega), if_neg h0]
        have hq0 := hqL
        refine kk H5 p (fun b => (.int ((a :: ls).idxOf b : Int), .int (laR ks ((a :: ls).idxOf b) : Int), .ref t)) (fun b o hb ho => ?_) (sx5 _ _ tL ht3) hp0' (sx5 _ _ pL hp3) (z4 _ _ (fun z hz => ?_) fun b xs hb => ?_) fun k b hb => ?_
        · exact sx5 b o (fun e => hb (List.mem_cons_of_mem _ e)) (sx3 b o hb ho)
        · obtain ⟨k, hk⟩ := List.mem_iff_getElem?.mp hz
          have h9 := nz6 k z hk
          have hk2 := (List.getElem?_eq_some_iff.mp hk).1
          dsimp only at h9
          rw [hend k (by omega)] at h9
          unfold Ro
          dsimp only
          rw [hidx k z.1 (hin hk)]
          exact h9
        · refine sx5 b _ (fun hm => ?_) (s3 _ _ hb)
          rw [← z1] at hm
          obtain ⟨z, hz, e⟩ := List.mem_map.mp hm
          have := (z2 z hz).1
          rw [e, hb] at this
          unfold SlX.SlO at this
          cases this
        · show (V.int ((a :: ls).idxOf b : Int), V.int (laR ks ((a :: ls).idxOf b) : Int), V.ref t) = _
          rw [hidx k b hb]
end
end PX
/-! EXa -/
namespace PX
open PySem PySem.Spec PyProof.Rows L2 TL
section
variable {P : Program} {w : World} {K : PySem.W.Frag} {mg : Str → Option Value} {base : Heap}
/-- a reading begins -/
def spRI (K : PySem.W.Frag) : Sp := fun vs H Q _ => ∃ (F0 : Hp) (r dxr : Addr) (z : Str), vs = [.ref r, .str z] ∧ Gd z ∧ H r = some (.ins (CRd K) dxr []) ∧ Same F0 H ∧ F0 r = none ∧
  ∀ H' d F' P f, d.r = r → d.z = z → d.F0 = F0 → Same F0 F' → f.pl = (([], [], []) : PF) → RdSt K d F' H' P [] 0 false [f] [] [] → Q .non H'
theorem ok_Reader_init (T : Tx w K mg) : Ok P w K mg base CX0 4 (He.fAd K d_Reader_init.at_) p_Reader_init (spRI K) := by
  obtain ⟨fd, F⟩ := f_Reader_init T
  obtain ⟨fS, GS, bS, kS⟩ := ok_Scanner_init (P := P) (base := base) T
  obtain ⟨fN, GN, bN, kN⟩ := ok_Node_init (P := P) (base := base) T
  refine ⟨fd, ?_, b_Reader_init F, F.kp⟩
  refine F.ok sc_Reader_init (fun vs H Q E h => ?_) (fun cdv A outer s H vs Q E hr h => ?_)
  · obtain ⟨F0, r, dxr, z, rfl, _⟩ := h
    rfl
  · obtain ⟨F0, r, dxr, z, rfl, hg, hr0, s0, fr, kk⟩ := h
    have nd := sc_Reader_init.nd
    refine ⟨_, PSs.nox (pss_cons (ps_fld (pv 0) (pe_make (E := E0) (mk_Scanner T) GS (hr.mono (by decide)) rfl (g_Scanner T) bS .nil pass0 (pa_cons (pv 1) pa_nil)) rfl) (pss_cons (ps_fld (pv 0) (pe_make (E := E0) (mk_Node T) GN (hr.mono (by decide)) rfl (g_Node T) bN .nil pass0 (pa_cons (pe_str) (pa_cons (pe_non) (pa_cons (pe_str) pa_nil)))) rfl) (pss_cons (ps_fld (pv 0) (pe_fld (pv 0) rfl) rfl) (pss_cons (ps_fld (pv 0) pe_bl rfl) (pss_one (ps_fld (pv 0) (pe_lst pa_nil) rfl)))))), ?_⟩
    refine ⟨_, rfl, ?_⟩
    intro p dxs hp hdx hne
    refine ⟨p, dxs, z, rfl, hg, upd_same, fun H1 sb1 sc1 => ⟨rfl, ?_⟩⟩
    have k1 : ∀ {b : Addr} {o : HO}, H b = some o → H1 b = some o := fun hb => sb1 _ _ (ne_of_none hb hp) (by rw [upd_ne (ne_of_none hb hp), upd_ne (ne_of_none hb hdx)]; exact hb)
    have hr1 := k1 hr0
    refine ⟨_, rfl, r, CRd K, dxr, _, rfl, hr1, cls_Reader T, na_Reader_scan T, by decide, ?_⟩
    have e1 : putF "scan" (V.ref p) [] = [(("scan" : Str), V.ref p)] := put_new
    rw [e1]
    have npr : p ≠ r := (ne_of_none hr0 hp).symm
    have k2 : ∀ {b : Addr} {o : HO}, b ≠ r → H b = some o → upd H1 r (.ins (CRd K) dxr [(("scan" : Str), V.ref p)]) b = some o := fun hb ho => by rw [upd_ne hb]; exact k1 ho
    have sc2 : ScA K (upd H1 r (.ins (CRd K) dxr [(("scan" : Str), V.ref p)])) p dxs z 0 := by
      show _ = _
      rw [upd_ne npr]
      exact sc1
    have hr2 : upd H1 r (.ins (CRd K) dxr [(("scan" : Str), V.ref p)]) r = some (.ins (CRd K) dxr [(("scan" : Str), V.ref p)]) := upd_same
    generalize upd H1 r (.ins (CRd K) dxr [(("scan" : Str), V.ref p)]) = H2 at k2 sc2 hr2 ⊢
    intro a da ha hda hnea
    refine mkNode ha hda hnea fun H3 A C s3 hA hC hAC hn3 hA3 hC3 => ⟨rfl, ?_⟩
    have hr3 := s3 _ _ hr2
    have e2 : putF "root" (V.ref a) [(("scan" : Str), V.ref p)] = ([(("scan" : Str), V.ref p), (("root" : Str), V.ref a)] : List (Str × V)) := by
      rw [put_skip (by decide +kernel), put_new]
    refine ⟨_, rfl, r, CRd K, dxr, _, rfl, hr3, cls_Reader T, na_Reader_root T, (by show 1 < 1000; decide), ?_⟩
    rw [e2]
    have e3 : putF "here" (V.ref a) ([(("scan" : Str), V.ref p), (("root" : Str), V.ref a)] : List (Str × V)) = ([(("scan" : Str), V.ref p), (("root" : Str), V.ref a), (("here" : Str), V.ref a)] : List (Str × V)) := by
      rw [put_skip (by decide +kernel), put_skip (by decide +kernel), put_new]
    have e4 : putF "has_outermost" (V.bl false) ([(("scan" : Str), V.ref p), (("root" : Str), V.ref a), (("here" : Str), V.ref a)] : List (Str × V)) = ([(("scan" : Str), V.ref p), (("root" : Str), V.ref a), (("here" : Str), V.ref a), (("has_outermost" : Str), V.bl false)] : List (Str × V)) := by
      rw [put_skip (by decide +kernel), put_skip (by decide +kernel), put_skip (by decide +kernel), put_new]
    refine ⟨_, rfl, r, CRd K, dxr, _, _, rfl, upd_same, cls_Reader T, na_Reader_root T, (lk_skip (by decide +kernel)).trans lk_hit, _, rfl, r, CRd K, dxr, _, rfl, upd_same, cls_Reader T, na_Reader_here T, (by show 2 < 1000; decide), ?_⟩
    rw [e3, upd_upd2]
    refine ⟨_, rfl, r, CRd K, dxr, _, rfl, upd_same, cls_Reader T, na_Reader_has_outermost T, (by show 3 < 1000; decide), ?_⟩
    rw [e4, upd_upd2]
    refine ⟨by decide, fun L hL => ?_⟩
    have hLr : L ≠ r := (ne_of_none upd_same hL).symm
    have hL3 : H3 L = none := by rw [upd_ne hLr] at hL; exact hL
    refine ⟨_, rfl, r, CRd K, dxr, _, rfl, by rw [upd_ne hLr.symm]; exact upd_same, cls_Reader T, na_Reader_pieces T, (by show 4 < 1000; decide), ?_⟩
    have e5 : putF "pieces" (V.ref L) ([(("scan" : Str), V.ref p), (("root" : Str), V.ref a), (("here" : Str), V.ref a), (("has_outermost" : Str), V.bl false)] : List (Str × V)) = rdF p a a L false := by
      unfold rdF
      rw [put_skip (by decide +kernel), put_skip (by decide +kernel), put_skip (by decide +kernel), put_skip (by decide +kernel), put_new]
    rw [e5]
    have hfin : ∀ {b : Addr} {o : HO}, b ≠ r → H3 b = some o → upd (upd (upd H3 r (.ins (CRd K) dxr ([(("scan" : Str), V.ref p), (("root" : Str), V.ref a), (("here" : Str), V.ref a), (("has_outermost" : Str), V.bl false)] : List (Str × V)))) L (.lst [])) r (.ins (CRd K) dxr (rdF p a a L false)) b = some o := fun hb ho => by
      rw [upd_ne hb, upd_ne (ne_of_none ho hL3), upd_ne hb]
      exact ho
    have hrf : upd (upd (upd H3 r (.ins (CRd K) dxr ([(("scan" : Str), V.ref p), (("root" : Str), V.ref a), (("here" : Str), V.ref a), (("has_outermost" : Str), V.bl false)] : List (Str × V)))) L (.lst [])) r (.ins (CRd K) dxr (rdF p a a L false)) r = some (.ins (CRd K) dxr (rdF p a a L false)) := upd_same
    have hLf : upd (upd (upd H3 r (.ins (CRd K) dxr ([(("scan" : Str), V.ref p), (("root" : Str), V.ref a), (("here" : Str), V.ref a), (("has_outermost" : Str), V.bl false)] : List (Str × V)))) L (.lst [])) r (.ins (CRd K) dxr (rdF p a a L false)) L = some (.lst []) := by
      rw [upd_ne hLr, upd_same]
    generalize upd (upd (upd H3 r (.ins (CRd K) dxr ([(("scan" : Str), V.ref p), (("root" : Str), V.ref a), (("here" : Str), V.ref a), (("has_outermost" : Str), V.bl false)] : List (Str × V)))) L (.lst [])) r (.ins (CRd K) dxr (rdF p a a L false)) = H4 at hfin hrf hLf ⊢
    have nr : ∀ {b : Addr} {o : HO}, F0 b = some o → b ≠ r := fun hb e => by rw [e, fr] at hb; cases hb
    have s04 : Same F0 H4 := fun b o hb => hfin (nr hb) (s3 _ _ (k2 (nr hb) (s0 _ _ hb)))
    have fresh : ∀ {b : Addr}, H b = none → F0 b = none := fun hb => f0n s0 hb
    have fresh2 : ∀ {b : Addr}, H2 b = none → F0 b = none := fun {b} hb => by
      cases e : F0 b with
      | none => rfl
      | some o =>
        rw [k2 (nr e) (s0 _ _ e)] at hb
        cases hb
    have fresh3 : ∀ {b : Addr}, H3 b = none → F0 b = none := fun {b} hb => by
      cases e : F0 b with
      | none => rfl
      | some o =>
        rw [s3 _ _ (k2 (nr e) (s0 _ _ e))] at hb
        cases hb
    have fp := fresh hp
    have fa := fresh2 ha
    have fda := fresh2 hda
    have fA := fresh2 hA
    have fC := fresh2 hC
    have fL := fresh3 hL3
    have ins_r : ∀ {b : Addr} {o : HO}, H3 b = some o → (∀ fs, o ≠ .ins (CRd K) dxr fs) → b ≠ r := fun hb ho e => by
      rw [e, hr3] at hb
      exact ho _ (Option.some.inj hb).symm
    have hn4 : NdA K H4 a da (newR A C (.str (Str.ofString "root")) .non (.str (Str.ofString ""))) := ⟨hfin (ins_r hn3.1 fun fs e => by unfold SlX.SlO at e; cases e) hn3.1, hfin (ins_r hn3.2 fun fs e => by cases e) hn3.2⟩
    have hA4 := hfin (ins_r hA3 fun fs e => by cases e) hA3
    have hC4 := hfin (ins_r hC3 fun fs e => by cases e) hC3
    have sc4 : H4 p = some (.ins (CSc K) dxs (scF z 0)) := hfin npr (s3 _ _ sc2)
    have hS : ∀ b ∈ [a, da, A], F0 b = none := by
      intro b hb
      simp only [List.mem_cons, List.not_mem_nil, or_false] at hb
      rcases hb with rfl | rfl | rfl <;> assumption
    have hne4 : ∀ {b : Addr} {o : HO}, H2 b = some o → b ∉ [a, da, A] := fun hb hm => by
      simp only [List.mem_cons, List.not_mem_nil, or_false] at hm
      rcases hm with rfl | rfl | rfl
      · rw [ha] at hb; cases hb
      · rw [hda] at hb; cases hb
      · rw [hA] at hb; cases hb
    have hLS : L ∉ [a, da, A] := fun hm => by
      simp only [List.mem_cons, List.not_mem_nil, or_false] at hm
      rcases hm with rfl | rfl | rfl
      · rw [hn3.1] at hL3; cases hL3
      · rw [hn3.2] at hL3; cases hL3
      · rw [hA3] at hL3; cases hL3
    have hCS : C ∉ [a, da, A] := fun hm => by
      simp only [List.mem_cons, List.not_mem_nil, or_false] at hm
      rcases hm with e | e | e
      · exact (hn3.nl hC3).1 e
      · exact (hn3.nl hC3).2 e
      · exact hAC e.symm
    refine kk H4 ⟨r, dxr, p, dxs, z, F0⟩ (addF F0 H4 [a, da, A]) L ⟨a, da, A, C, [], [], [], [], [], []⟩ rfl rfl rfl (addF_same hS) rfl ?_
    refine ⟨addF_le s04, hrf, by rw [addF_out (hne4 hr2)]; exact fr, sc4, by rw [addF_out (hne4 sc2)]; exact fp, hLf, by rw [addF_out hLS]; exact fL, ⟨⟨⟨?_, ?_⟩, ?_, trivial, ?_⟩, rfl, rfl⟩, ⟨hC4, trivial⟩, fun f hf => ?_, fun m hm => (by cases hm), ?_, ?_, hg, Nat.zero_le _, Nat.le_refl 1, Nat.le_refl 0, fun b hb => ?_, addF_same hS⟩
    · rw [addF_in (by simp)]
      exact hn4.1
    · rw [addF_in (by simp)]
      exact hn4.2
    · rw [addF_in (by simp)]
      exact hA4
    · rw [KidsAt]
      exact ⟨rfl, rfl⟩
    · rw [List.mem_singleton] at hf
      rw [hf]
      show addF F0 H4 [a, da, A] C = none
      rw [addF_out hCS]
      exact fC
    · show [L, C].Nodup
      rw [List.nodup_cons]
      refine ⟨fun e => ?_, by simp⟩
      rw [List.mem_singleton] at e
      rw [e, hC3] at hL3
      cases hL3
    · show [a].Nodup
      simp
    · have hb' : b ∈ [a] := hb
      rw [List.mem_singleton] at hb'
      rw [hb']
      exact fa
end
end PX
/-! EXb -/
namespace PX
open PySem PySem.Spec PyProof.Rows L2 TL
/-- documents, plain -/
def dlO : Nat → Bool → List PF → List (List Nat) → List Nat → Option (List DN)
  | 0, _, _, _, _ => none
  | f + 1, has, ss, pc, r => if r = [] then (match ss with
      | [g] => if has then some g.2.2 else none
      | _ => none)
    else match ss with
      | [] => none
      | [g] => match arG has r g [] pc with
        | none => none
        | some (n, has', ss', pc') => dlO f has' ss' pc' (r.drop n)
      | g :: h :: rest => match cnG r g (h :: rest) pc with
        | none => none
        | some (n, ss', pc') => dlO f has ss' pc' (r.drop n)
def docF (f : Nat) (l : List Nat) : Option (List DN) := match deO l with
  | none => none
  | some n => dlO f false [([], [], [])] [] (l.drop n)
/-- a tree that has been read -/
def TrAt (K : PySem.W.Frag) (H : Hp) (t : Addr) (ks : List DN) : Prop := ∃ (dx p : Addr) (o : Og) (a rdx rA rC : Addr) (cs ls : List Addr), H t = some (.ins (CTr K) dx (trF a p)) ∧ H p = some (.lst (refs (a :: ls))) ∧ RtAt K o H a rdx rA rC cs ks ls ∧
  (∀ (k : Nat) b, (a :: ls)[k]? = some b → o b = (.int (k : Int), .int (laR ks k : Int), .ref t)) ∧ (a :: ls).Nodup ∧ (a :: ls).length ≤ 1000000
theorem RtAt.keep {K : PySem.W.Frag} {o : Og} {F F' : Hp} (s : Same F F') {a rdx rA rC : Addr} {cs : List Addr} {ks : List DN} {ls : List Addr} (h : RtAt K o F a rdx rA rC cs ks ls) : RtAt K o F' a rdx rA rC cs ks ls := ⟨h.1.keep s, s _ _ h.2.1, s _ _ h.2.2.1, KidsAt.keep s h.2.2.2⟩
theorem TrAt.keep {K : PySem.W.Frag} {H H' : Hp} {t : Addr} {ks : List DN} (h : TrAt K H t ks) (s : Same H H') : TrAt K H' t ks := by
  obtain ⟨dx, p, o, a, rdx, rA, rC, cs, ls, h1, h2, h3, h4⟩ := h
  exact ⟨dx, p, o, a, rdx, rA, rC, cs, ls, s _ _ h1, s _ _ h2, h3.keep s, h4⟩
section
variable {P : Program} {w : World} {K : PySem.W.Frag} {mg : Str → Option Value} {base : Heap}
def spDoc (K : PySem.W.Frag) : Sp := fun vs H Q _ => ∃ (d : Rd) (F : Hp) (Pl : Addr) (f : Fr) (fu : Nat) (ks : List DN), vs = [.ref d.r] ∧ RdSt K d F H Pl [] 0 false [f] [] [] ∧ f.pl = (([], [], []) : PF) ∧ docF fu (tl d.z) = some ks ∧ ∀ H' t, Same d.F0 H' → d.F0 t = none → TrAt K H' t ks → Q (.ref t) H'
theorem ok_read_document (T : Tx w K mg) : Ok P w K mg base CX0 11 (He.fAd K d_Reader_read_document.at_) p_Reader_read_document (spDoc K) := by
  obtain ⟨fd, F⟩ := f_Reader_read_document T
  obtain ⟨fD, GD, bD, kD⟩ := ok_read_declaration (P := P) (base := base) T
  obtain ⟨fA, GA, bA, kA⟩ := ok_read_part_around (P := P) (base := base) T
  obtain ⟨fC, GC, bC, kC⟩ := ok_read_part_of_content (P := P) (base := base) T
  obtain ⟨fI, GI, bI, kI⟩ := ok_Tree_init (P := P) (base := base) T
  refine ⟨fd, ?_, b_Reader_read_document F, F.kp⟩
  refine F.ok sc_Reader_read_document (fun vs H Q E h => ?_) (fun cdv A outer s H vs Q E hr h => ?_)
  · obtain ⟨d, F, Pl, f, fu, ks, rfl, _⟩ := h
    rfl
  · obtain ⟨d, F, Pl, f, fu, ks, rfl, h, hpl, hdoc, k⟩ := h
    have nd := sc_Reader_read_document.nd
    refine ⟨_, PSs.nox (pss_cons (ps_expr (pe_meth0 (E := E0) (pv 0) (cls_Reader T) (m_Reader_read_declaration T) GD (hr.mono (by decide)) bD .nil pass0)) (pss_cons (ps_set (i := 1) nd rfl (.inl rfl) (pe_fld (pv 0) rfl)) (pss_cons (ps_while PassesOwn.never (pt_cmpR op_lt (pe_fld (pv 1) rfl) (pe_callB call_len (by rfl) (n_len T) PySem.boot_len (pa_cons (pe_fld (pv 1) rfl) pa_nil)) (nomark _)) (pss_one ((ps_if ((pt_cmpR op_eq (SlX.pe_sl (pe_fld (pv 0) rfl)) (pe_str) (nomark _))) (pss_one (ps_expr (pe_meth0 (E := E0) (pv 0) (cls_Reader T) (m_Reader_read_part_around T) GA (hr.mono (by decide)) bA .nil pass0))) (pss_one (ps_expr (pe_meth0 (E := E0) (pv 0) (cls_Reader T) (m_Reader_read_part_of_content T) GC (hr.mono (by decide)) bC .nil pass0))))))) (pss_cons ((ps_if ((pw_or (pt_cmpR op_ne (SlX.pe_sl (pe_fld (pv 0) rfl)) (pe_str) (nomark _)) (pw_or1 (pt_not (pt_val (pe_fld (pv 0) rfl))))).pt) pss_no pss_nil)) (pss_one ((ps_ret (pe_make (E := E0) (mk_Tree T) GI (hr.mono (by decide)) rfl (g_Tree T) bI .nil pass0 (pa_cons (pe_fld (pv 0) rfl) pa_nil))))))))), ?_⟩
    have hlen : d.z.length = (tl d.z).length := len_tl d.z
    have hgl := h.gd.len
    unfold docF at hdoc
    cases hde : deO (tl d.z) with
    | none => rw [hde] at hdoc; cases hdoc
    | some n =>
    rw [hde] at hdoc
    dsimp only at hdoc
    refine ⟨_, rfl, d.r, d.dxr, _, rfl, h.rd, rd_no (by decide +kernel), d, F, Pl, [], false, [f], [], n, rfl, h, hde, fun H1 h1 => ?_⟩
    refine ⟨_, rfl, d.r, CRd K, d.dxr, _, _, rfl, h1.rd, cls_Reader T, na_Reader_scan T, rd_scan, ?_⟩
    refine while_x (fun mm σ H5 => ∃ (F5 : Hp) (P5 : Addr) (i : Nat) (has : Bool) (stk : List Fr) (pc : List (List Nat)), σ = [some (.ref d.r), some (.ref d.sc)] ∧ Same F F5 ∧ RdSt K d F5 H5 P5 [] i has stk [] pc ∧ dlO mm has (stk.map Fr.pl) pc ((tl d.z).drop i) = some ks)
      (fun σ H5 => ∃ (F5 : Hp) (P5 : Addr) (i : Nat) (g : Fr) (pc : List (List Nat)), σ = [some (.ref d.r), some (.ref d.sc)] ∧ Same F F5 ∧ RdSt K d F5 H5 P5 [] i true [g] [] pc ∧ g.ks = ks)
      ⟨fu, F, Pl, n, false, [f], [], rfl, Same.refl _, h1, by rw [List.map_singleton, hpl]; exact hdoc⟩ ?_ ?_
    · rintro σ H5 ⟨F5, P5, i, g, pc, rfl, sF, h5, rfl⟩
      have hst := h5.st
      have nf := hst.1.1.keep h5.sm
      refine ⟨_, rfl, d.r, CRd K, d.dxr, _, _, rfl, h5.rd, cls_Reader T, na_Reader_here T, rd_here, g.a, CNd K, g.dx, _, _, 3, _, rfl, nf.slt, scl_N T, slt_kind T, rfl, rfl, _, rfl, ?_⟩
      show if (!decide (V.str (Str.ofString "root") = V.str (Str.ofString "root"))) = true then _ else _
      refine iteF ?_ (by decide)
      refine ⟨_, rfl, d.r, CRd K, d.dxr, _, _, rfl, h5.rd, cls_Reader T, na_Reader_has_outermost T, rd_has_outermost, _, rfl, ?_⟩
      show if (!true) = true then _ else _
      refine iteF ?_ (by decide)
      refine ⟨_, rfl, d.r, CRd K, d.dxr, _, _, rfl, h5.rd, cls_Reader T, na_Reader_root T, rd_root, ?_⟩
      intro t dxt ht hdt hnet
      have hS : ∀ b ∈ [g.C], F5 b = none := fun b hb => by
        rw [List.mem_singleton] at hb
        rw [hb]
        exact h5.cf g List.mem_cons_self
      have sF2 := addF_same (H := H5) hS
      have sF3 := addF_le (S := [g.C]) h5.sm
      have fE := hst.1.keep sF2
      have hC5 := h5.cs.1
      rw [List.append_nil] at hC5
      have has := hst.2.1
      have hnl : (g.a :: g.ls).Nodup := by
        have h1 : (g.a :: (g.as ++ g.ls)).Nodup := h5.nl
        rw [has] at h1
        exact h1
      have hll : (g.a :: g.ls).length ≤ 1000000 := by
        have h1 : (g.a :: (g.as ++ g.ls)).length + 0 + pc.length ≤ i + 1 := h5.bd
        rw [has] at h1
        have h2 := h5.il
        simp only [List.nil_append, List.length_cons] at h1 ⊢
        omega
      have k6 : ∀ {b : Addr} {o : HO}, H5 b = some o → upd (upd H5 dxt (.own t)) t (.ins (CTr K) dxt []) b = some o := fun hb => by
        rw [upd_ne (ne_of_none hb ht), upd_ne (ne_of_none hb hdt)]
        exact hb
      have ft : addF F5 H5 [g.C] t = none := by
        rw [addF_out fun e => by rw [List.mem_singleton] at e; rw [e, hC5] at ht; cases ht]
        exact (h5.fresh ht).1
      refine ⟨addF F5 H5 [g.C], t, dxt, g.a, g.dx, g.A, g.C, g.cs, g.ks, g.ls, rfl, ⟨fE.1, ?_, ?_, fE.2.2.2⟩, fun b o hb => k6 (sF3 _ _ hb), upd_same, ft, hnl, hll, fun H7 p o sx ht7 hp0 hp7 hrt7 ho7 => ⟨rfl, ?_⟩⟩
      · have := fE.2.1
        rw [has] at this
        exact this
      · rw [addF_in (by simp)]
        exact hC5
      · refine k H7 t (fun b o hb => ?_) (f0n h5.f0 (h5.fresh ht).1) ⟨dxt, p, o, g.a, g.dx, g.A, g.C, g.cs, g.ls, ht7, hp7, hrt7, ho7, hnl, hll⟩
        have h1 := h5.sm _ _ (h5.f0 _ _ hb)
        refine sx b o (fun hm => ?_) (k6 h1)
        rcases List.mem_cons.mp hm with e | hm
        · rw [e, ht] at h1
          cases h1
        · have : b ∈ allL [g] := by
            show b ∈ [] ++ (g.a :: (g.as ++ g.ls))
            rw [has]
            exact hm
          rw [h5.nf b this] at hb
          cases hb
    · rintro - mm σ H5 R ⟨F5, P5, i, has, stk, pc, rfl, sF, h5, hdl⟩ hfin hbody
      refine ⟨_, rfl, d.sc, CSc K, d.dxs, _, _, rfl, h5.sca, cls_Scanner T, na_Scanner_at T, sc_at, _, rfl, d.sc, CSc K, d.dxs, _, _, rfl, h5.sca, cls_Scanner T, na_Scanner_text T, sc_text, _, _, rfl, ⟨h5.gd.line, rfl⟩, _, _, rfl, rfl, _, rfl, ?_⟩
      show R (decide ((i : Int) < (d.z.length : Int))) H5
      cases stk with
      | nil => exact h5.st.elim
      | cons f stk =>
        cases mm with
        | zero => cases hdl
        | succ mm =>
          have hil := h5.il
          have edl : dlO (mm + 1) has ((f :: stk).map Fr.pl) pc ((tl d.z).drop i) = if (tl d.z).drop i = [] then (match (f :: stk).map Fr.pl with
              | [g] => if has then some g.2.2 else none
              | _ => none)
            else match (f :: stk).map Fr.pl with
              | [] => none
              | [g] => match arG has ((tl d.z).drop i) g [] pc with
                | none => none
                | some (n, has', ss', pc') => dlO mm has' ss' pc' (((tl d.z).drop i).drop n)
              | g :: h :: rest => match cnG ((tl d.z).drop i) g (h :: rest) pc with
                | none => none
                | some (n, ss', pc') => dlO mm has ss' pc' (((tl d.z).drop i).drop n) := rfl
          rw [edl] at hdl
          by_cases hlt : i < d.z.length
          · have hne : ¬ (tl d.z).drop i = [] := fun e => by
              have := congrArg List.length e
              rw [List.length_drop, List.length_nil] at this
              omega
            rw [if_neg hne] at hdl
            rw [decide_eq_true (by omega)]
            refine hbody _ ?_
            cases stk with
            | nil =>
              have nf := h5.st.1.1.keep h5.sm
              refine ⟨_, rfl, d.r, CRd K, d.dxr, _, _, rfl, h5.rd, cls_Reader T, na_Reader_here T, rd_here, f.a, CNd K, f.dx, _, _, 3, _, rfl, nf.slt, scl_N T, slt_kind T, rfl, rfl, _, rfl, ?_⟩
              show if decide (V.str (Str.ofString "root") = V.str (Str.ofString "root")) = true then _ else _
              refine iteT ?_ (by decide)
              have hdl2 : (match arG has ((tl d.z).drop i) f.pl [] pc with
                | none => none
                | some (n, has', ss', pc') => dlO mm has' ss' pc' (((tl d.z).drop i).drop n)) = some ks := hdl
              cases har : arG has ((tl d.z).drop i) f.pl [] pc with
              | none => rw [har] at hdl2; cases hdl2
              | some u =>
                obtain ⟨n', has', ss', pc'⟩ := u
                rw [har] at hdl2
                dsimp only at hdl2
                refine ⟨_, rfl, d.r, d.dxr, _, rfl, h5.rd, rd_no (by decide +kernel), d, F5, P5, [], i, has, f, [], pc, n', has', ss', pc', rfl, h5, har, fun F6 H6 P6 stk6 sF6 e6 h6 => ?_⟩
                subst e6
                exact ⟨mm, Nat.lt_succ_self _, F6, P6, i + n', has', stk6, pc', rfl, sF.trans sF6, h6, by rw [drop_add]; exact hdl2⟩
            | cons g stk =>
              have nf := h5.st.1.1.keep h5.sm
              refine ⟨_, rfl, d.r, CRd K, d.dxr, _, _, rfl, h5.rd, cls_Reader T, na_Reader_here T, rd_here, f.a, CNd K, f.dx, _, _, 3, _, rfl, nf.slt, scl_N T, slt_kind T, rfl, rfl, _, rfl, ?_⟩
              show if decide (V.str (Str.ofString "element") = V.str (Str.ofString "root")) = true then _ else _
              refine iteF ?_ (by decide)
              have hdl2 : (match cnG ((tl d.z).drop i) f.pl ((g :: stk).map Fr.pl) pc with
                | none => none
                | some (n, ss', pc') => dlO mm has ss' pc' (((tl d.z).drop i).drop n)) = some ks := hdl
              cases hcn : cnG ((tl d.z).drop i) f.pl ((g :: stk).map Fr.pl) pc with
              | none => rw [hcn] at hdl2; cases hdl2
              | some u =>
                obtain ⟨n', ss', pc'⟩ := u
                rw [hcn] at hdl2
                dsimp only at hdl2
                refine ⟨_, rfl, d.r, d.dxr, _, rfl, h5.rd, rd_no (by decide +kernel), d, F5, P5, [], i, has, f, g :: stk, pc, n', ss', pc', rfl, h5, hcn, fun F6 H6 P6 stk6 sF6 e6 h6 => ?_⟩
                subst e6
                exact ⟨mm, Nat.lt_succ_self _, F6, P6, i + n', has, stk6, pc', rfl, sF.trans sF6, h6, by rw [drop_add]; exact hdl2⟩
          · have hnil : (tl d.z).drop i = [] := by
              apply List.eq_nil_of_length_eq_zero
              rw [List.length_drop]
              omega
            rw [if_pos hnil] at hdl
            rw [decide_eq_false (by omega)]
            cases stk with
            | nil =>
              have hdl2 : (if has = true then some f.ks else none) = some ks := hdl
              cases has with
              | false => rw [if_neg Bool.false_ne_true] at hdl2; cases hdl2
              | true =>
                rw [if_pos rfl] at hdl2
                exact hfin _ ⟨F5, P5, i, f, pc, rfl, sF, h5, Option.some.inj hdl2⟩
            | cons g stk => cases hdl
end
end PX
/-! EXc -/
namespace PX
open PySem PySem.Spec PyProof.Rows L2 TL
section
variable {P : Program} {w : World} {K : PySem.W.Frag} {mg : Str → Option Value} {base : Heap}
theorem cut_all (z : Str) : cutS z none (some (z.length : Int)) = z := by
  have h := cut_nat z 0 z.length
  have e : cutS z none (some (z.length : Int)) = cutS z (some ((0 : Nat) : Int)) (some (z.length : Int)) := by
    unfold cutS
    simp [HT.sIx]
  rw [e, h]
  refine ext_tl ?_
  rw [tl_mkS, List.drop_zero, Nat.sub_zero, len_tl, List.take_length]
def spRead (K : PySem.W.Frag) : Sp := fun vs H Q _ => ∃ (z : Str) (fu : Nat) (ks : List DN), vs = [.str z] ∧ Gd z ∧ docF fu (tl z) = some ks ∧ ∀ H' t, Same H H' → H t = none → TrAt K H' t ks → Q (.ref t) H'
theorem ok_read (T : Tx w K mg) : Ok P w K mg base CX0 12 (He.fAd K d_read.at_) p_read (spRead K) := by
  obtain ⟨fd, F⟩ := f_read T
  obtain ⟨fI, GI, bI, kI⟩ := ok_Reader_init (P := P) (base := base) T
  obtain ⟨fD, GD, bD, kD⟩ := ok_read_document (P := P) (base := base) T
  obtain ⟨fE, GE, bE, kE⟩ := ok_end_of_signs (P := P) (base := base) T
  refine ⟨fd, ?_, b_read F, F.kp⟩
  refine F.ok sc_read (fun vs H Q E h => ?_) (fun cdv A outer s H vs Q E hr h => ?_)
  · obtain ⟨z, fu, ks, rfl, _⟩ := h
    rfl
  · obtain ⟨z, fu, ks, rfl, hg, hdoc, k⟩ := h
    have nd := sc_read.nd
    refine ⟨_, PSs.nox (pss_cons ((ps_if ((pt_not (pt_val (pe_callB call_isi (by rfl) (n_isinstance T) boot_isinstance (pa_cons (pv 0) (pa_cons (pe_bltn (v := .ty "str") (by rfl) (n_str T) boot_str rfl) pa_nil)))))) pss_no pss_nil)) (pss_cons (ps_set (i := 1) nd rfl (.inl rfl) (pe_call (E := E0) GE (hr.mono (by omega)) (by rfl) (g_end_of_signs T) kE bE .nil pass0 (pa_cons (pv 0) pa_nil))) (pss_cons (ps_set (i := 2) nd rfl (.inl rfl) (pe_meth0 (E := E0) (pe_make (E := E0) (mk_Reader T) GI (hr.mono (by decide)) rfl (g_Reader T) bI .nil pass0 (pa_cons (pe_slice sl_str (pv 0) po_none (po_some (pv 1))) pa_nil)) (cls_Reader T) (m_Reader_read_document T) GD (hr.mono (by decide)) bD .nil pass0)) (pss_cons ((ps_if ((pt_cmpR op_lt (pv 1) (pe_callB call_len (by rfl) (n_len T) PySem.boot_len (pa_cons (pv 0) pa_nil)) (nomark _))) pss_no pss_nil)) (pss_one ((ps_ret (pv 2)))))))), ?_⟩
    refine ⟨_, rfl, _, _, _, _, true, rfl, .ty "str", .base (.str z), kit_ty (by decide), _, rfl, ?_⟩
    refine iteF ?_
    refine ⟨_, rfl, z, rfl, hg, fun H1 s1 => ?_⟩
    refine ⟨_, rfl, _, rfl, _, rfl, z, rfl, hg.line, ?_⟩
    rw [cut_all]
    intro r dxr hr0 hd0 hne
    have s2 : Same H (upd (upd H1 dxr (.own r)) r (.ins (CRd K) dxr [])) := s1.trans (same_upd0 (same_new hd0) hr0)
    refine ⟨H, r, dxr, z, rfl, hg, upd_same, s2, f0n s1 hr0, fun H3 d F P f e1 e2 e3 s3 hpl h3 => ⟨rfl, ?_⟩⟩
    subst e1
    refine ⟨d.r, d.dxr, _, rfl, h3.rd, rd_no (by decide +kernel), d, F, P, f, fu, ks, rfl, h3, hpl, by rw [e2]; exact hdoc, fun H4 t s4 ht h4 => ?_⟩
    rw [e3] at s4 ht
    refine ⟨_, rfl, _, rfl, _, _, rfl, ⟨hg.line, rfl⟩, _, _, rfl, rfl, _, rfl, ?_⟩
    refine iteF ?_ (decide_eq_false (by omega))
    exact ⟨_, rfl, k H4 t s4 ht h4⟩
end
end PX
/-! EXd -/
namespace PX
open PySem PySem.Spec PyProof.Rows L2 TL
/-! ### nodes of a tree that has been read -/
inductive PN where
  | rt (ks : List DN)
  | nd (d : DN)
  | at (q : List Nat × List Nat)
def AtP (K : PySem.W.Frag) (H : Hp) (o : Og) (L : List Addr) (la : Nat → Nat) (x : Addr) : PN → Prop
  | .rt ks => ∃ rdx rA rC cs ls, RtAt K o H x rdx rA rC cs ks ls ∧ L = x :: ls ∧ la = laR ks
  | .nd d => ∃ par i l pre post, NodeAt K o H par i x d l ∧ L = pre ++ (l ++ post) ∧ ∀ j, pre.length ≤ j → j < pre.length + szN d → la j = laN pre.length d j
  | .at q => ∃ par, AttAt K o H par x q
inductive PT where
  | s (t : List Nat)
  | i (n : Int)
def PT.v : PT → V
  | .s t => .str (mkS t)
  | .i n => .int n
def kidI (ks : List DN) (n : Int) : Option DN := if n < 0 then none else ks[n.toNat]?
def unP : PN → PT → Option PN
  | .rt ks, .i n => (kidI ks n).map .nd
  | .rt _, .s _ => none
  | .nd (.el _ _ ks), .i n => (kidI ks n).map .nd
  | .nd (.el _ at_ _), .s t => (at_.find? fun q => decide (64 :: q.1 = t)).map .at
  | .nd (.lf _ _ _), _ => none
  | .at _, _ => none
section
variable {K : PySem.W.Frag} {H : Hp} {o : Og} {L : List Addr} {la : Nat → Nat}
theorem kid_at {par : Addr} : ∀ {ks : List DN} {i : Nat} {cs ls : List Addr} {pre post : List Addr}, KidsAt K o H par i cs ks ls → L = pre ++ (ls ++ post) → (∀ j, pre.length ≤ j → j < pre.length + szK ks → la j = laK pre.length ks j) → ∀ {n : Nat} {d : DN}, ks[n]? = Option.some d → ∃ c, cs[n]? = Option.some c ∧ AtP K H o L la c (.nd d)
  | [], i, cs, ls, pre, post, h, hL, hla, n, d, hd => by cases hd
  | e :: ks, i, cs, ls, pre, post, h, hL, hla, n, d, hd => by
    rw [KidsAt] at h
    obtain ⟨c, cs', l, ls', rfl, rfl, h3, h4⟩ := h
    have hs := h3.sz
    cases n with
    | zero =>
      have : e = d := Option.some.inj hd
      subst this
      refine ⟨c, rfl, par, i, l, pre, ls' ++ post, h3, by rw [hL, List.append_assoc], fun j h1 h2 => ?_⟩
      rw [hla j h1 (by rw [szK]; omega), laK, if_pos h2]
    | succ n =>
      have := kid_at (pre := pre ++ l) (post := post) h4 (by rw [hL, List.append_assoc, List.append_assoc]) (fun j h1 h2 => by
        rw [List.length_append] at h1 h2 ⊢
        rw [hla j (by omega) (by rw [szK]; omega), laK, if_neg (by omega), hs]) (n := n) (d := d) hd
      exact this
theorem at_at {par : Addr} : ∀ {at_ : List (List Nat × List Nat)} {as : List Addr}, AtsAt K o H par as at_ → ∀ {n : Nat} {q : List Nat × List Nat}, at_[n]? = Option.some q → ∃ b, as[n]? = Option.some b ∧ AttAt K o H par b q
  | [], [], _, n, q, hq => by cases hq
  | p :: at_, a :: as, h, n, q, hq => by
    cases n with
    | zero =>
      have : p = q := Option.some.inj hq
      subst this
      exact ⟨a, rfl, h.1⟩
    | succ n => exact at_at h.2 (n := n) (q := q) hq
  | [], _ :: _, h, _, _, _ => h.elim
  | _ :: _, [], h, _, _, _ => h.elim
/-- what every node has -/
theorem AtP.node {x : Addr} : ∀ {p : PN}, AtP K H o L la x p → ∃ dx r as cs, NdA K H x dx r ∧ H r.A = Option.some (.lst (refs as)) ∧ H r.C = Option.some (.lst (refs cs)) ∧
    (∀ n : Int, 0 ≤ n → n < (cs.length : Int) → ∃ c p', cs[n.toNat]? = Option.some c ∧ unP p (.i n) = Option.some p' ∧ AtP K H o L la c p') ∧ (∀ n : Int, (n < 0 ∨ (cs.length : Int) ≤ n) → unP p (.i n) = none) ∧
    ∃ at_ par, AtsAt K o H par as at_ ∧ ∀ t, unP p (.s t) = (at_.find? fun q => decide (64 :: q.1 = t)).map .at
  | .rt ks, h => by
    obtain ⟨rdx, rA, rC, cs, ls, ⟨h1, h2, h3, h4⟩, hL, hla⟩ := h
    have hlen := KidsAt.len h4
    refine ⟨rdx, _, [], cs, h1, h2, h3, fun n hn hc => ?_, fun n hn => ?_, [], x, trivial, fun t => rfl⟩
    · have hk : ks[n.toNat]? = Option.some (ks[n.toNat]'(by omega)) := List.getElem?_eq_getElem _
      obtain ⟨c, e1, e2⟩ := kid_at (L := L) (pre := [x]) (post := []) (la := la) h4 (by rw [List.append_nil]; exact hL) (fun j h1 h2 => by
        have h1 : 1 ≤ j := h1
        rw [hla]
        unfold laR
        rw [if_neg (by omega)]
        rfl) hk
      refine ⟨c, .nd (ks[n.toNat]'(by omega)), e1, ?_, e2⟩
      show (kidI ks n).map PN.nd = _
      unfold kidI
      rw [if_neg (by omega), hk]
      rfl
    · show (kidI ks n).map PN.nd = _
      unfold kidI
      by_cases h0 : n < 0
      · rw [if_pos h0]
        rfl
      · rw [if_neg h0, List.getElem?_eq_none (by omega)]
        rfl
  | .nd (.el nm at_ ks), h => by
    obtain ⟨par, i, l, pre, post, hn, hL, hla⟩ := h
    rw [NodeAt] at hn
    obtain ⟨dx, A, C, as, cs, ls, rfl, h1, h2, h3, h4, h5⟩ := hn
    have hlen := KidsAt.len h5
    have hal := h4.len
    refine ⟨dx, _, as, cs, h1, h2, h3, fun n hn hc => ?_, fun n hn => ?_, at_, x, h4, fun t => rfl⟩
    · have hk : ks[n.toNat]? = Option.some (ks[n.toNat]'(by omega)) := List.getElem?_eq_getElem _
      obtain ⟨c, e1, e2⟩ := kid_at (L := L) (pre := pre ++ (x :: as)) (post := post) (la := la) h5 (by rw [hL]; simp) (fun j h1 h2 => by
        rw [List.length_append, List.length_cons] at h1 h2 ⊢
        rw [hla j (by omega) (by rw [szN]; omega), laN, if_neg (by omega), if_neg (by omega), ← hal]
        congr 1
        omega) hk
      refine ⟨c, .nd (ks[n.toNat]'(by omega)), e1, ?_, e2⟩
      show (kidI ks n).map PN.nd = _
      unfold kidI
      rw [if_neg (by omega), hk]
      rfl
    · show (kidI ks n).map PN.nd = _
      unfold kidI
      by_cases h0 : n < 0
      · rw [if_pos h0]
        rfl
      · rw [if_neg h0, List.getElem?_eq_none (by omega)]
        rfl
  | .nd (.lf k nm t), h => by
    obtain ⟨par, i, l, pre, post, hn, hL, hla⟩ := h
    rw [NodeAt] at hn
    obtain ⟨rfl, dx, A, C, h1, h2, h3⟩ := hn
    exact ⟨dx, _, [], [], h1, h2, h3, fun n hn hc => (by rw [List.length_nil] at hc; omega), fun n hn => rfl, [], x, trivial, fun t => rfl⟩
  | .at q, h => by
    obtain ⟨par, dx, A, C, h1, h2, h3⟩ := h
    exact ⟨dx, _, [], [], h1, h2, h3, fun n hn hc => (by rw [List.length_nil] at hc; omega), fun n hn => rfl, [], x, trivial, fun t => rfl⟩
end
end PX
/-! EXe -/
namespace PX
open PySem PySem.Spec PyProof.Rows L2 TL
theorem inst_all {K : PySem.W.Frag} {x : Str} (h : instB K x = true) : W.findIn K (.ref (He.ga K x)) "__class__" = some (some (.builtin "object.__class__")) ∧ W.specialIn K (.builtin "object.__class__") "__get__" = some (some (.builtin "getset_descriptor.__get__")) ∧ W.takesIn K (.builtin "object.__class__") = some true ∧ W.mroIn K (He.ga K x) (.type "object") = some true ∧ W.kitOne K (.ref (He.ga K x)) (.ref (He.ga K x)) = some true ∧ W.kitOne K (.ref (He.ga K x)) (.type "str") = some false := by
  unfold instB at h
  simp only [Bool.and_eq_true, decide_eq_true_eq] at h
  exact h
theorem find_at {α : Type} {f : α → Bool} : ∀ {l : List α} {i : Nat} {q : α}, (∀ j q', j < i → l[j]? = some q' → f q' = false) → l[i]? = some q → f q = true → l.find? f = some q
  | [], i, q, _, h, _ => by cases h
  | x :: l, 0, q, _, h, hf => by
    have : x = q := Option.some.inj h
    subst this
    rw [List.find?_cons, hf]
  | x :: l, i + 1, q, h0, h, hf => by
    rw [List.find?_cons, h0 0 x (by omega) rfl]
    exact find_at (fun j q' hj hq => h0 (j + 1) q' (by omega) hq) h hf
theorem find_no {α : Type} {f : α → Bool} : ∀ {l : List α}, (∀ (j : Nat) (q' : α), l[j]? = some q' → f q' = false) → l.find? f = none
  | [], _ => rfl
  | x :: l, h0 => by
    rw [List.find?_cons, h0 0 x rfl]
    exact find_no fun j q' hq => h0 (j + 1) q' hq
section
variable {P : Program} {w : World} {K : PySem.W.Frag} {mg : Str → Option Value} {base : Heap}
def spCT (K : PySem.W.Frag) : Sp := fun vs H Q _ => ∃ (t dx : Addr) (fs : List (Str × V)), vs = [.ref t] ∧ H t = some (.ins (CTr K) dx fs) ∧ Q .non H
theorem ok_check_tree (T : Tx w K mg) : Ok P w K mg base CX0 1 (He.fAd K d_check_tree.at_) p_check_tree (spCT K) := by
  obtain ⟨fd, F⟩ := f_check_tree T
  refine ⟨fd, ?_, b_check_tree F, F.kp⟩
  refine F.ok sc_check_tree (fun vs H Q E h => ?_) (fun cdv A outer s H vs Q E hr h => ?_)
  · obtain ⟨t, dx, fs, rfl, _⟩ := h
    rfl
  · obtain ⟨t, dx, fs, rfl, ht, k⟩ := h
    obtain ⟨i1, i2, i3, i4, i5, _⟩ := inst_all (x_in_Tree T)
    refine ⟨_, PSs.nox (pss_one ((ps_if ((pt_not (pt_val (pe_callB call_isi (by rfl) (n_isinstance T) boot_isinstance (pa_cons (pv 0) (pa_cons (pe_glob (v := .ref (He.ga K "Tree")) (by rfl) (g_Tree T) rfl) pa_nil)))))) pss_no pss_nil))), ?_⟩
    refine ⟨_, rfl, _, _, _, _, true, rfl, .own _, .base (.ins ht (cls_Tree T) i1 i2 i3 i4), i5, _, rfl, ?_⟩
    refine iteF ?_
    exact k
def spNU (K : PySem.W.Frag) : Sp := fun vs H Q _ => ∃ (o : Og) (L : List Addr) (la : Nat → Nat) (x : Addr) (p : PN) (t : PT), vs = [.ref x, t.v] ∧ AtP K H o L la x p ∧ ∀ H', Same H H' → (match unP p t with
  | none => Q .non H'
  | some p' => ∀ c, AtP K H' o L la c p' → Q (.ref c) H')
theorem ok_node_under (T : Tx w K mg) : Ok P w K mg base CX0 1 (He.fAd K d_node_under.at_) p_node_under (spNU K) := by
  obtain ⟨fd, F⟩ := f_node_under T
  refine ⟨fd, ?_, b_node_under F, F.kp⟩
  refine F.ok sc_node_under (fun vs H Q E h => ?_) (fun cdv A outer s H vs Q E hr h => ?_)
  · obtain ⟨o, L, la, x, p, t, rfl, _⟩ := h
    rfl
  · obtain ⟨o, L, la, x, p, t, rfl, hx, k⟩ := h
    have nd := sc_node_under.nd
    obtain ⟨dx, r, as, cs, hn, hA, hC, hk, hk0, at_, par, hat, hs⟩ := hx.node
    refine ⟨_, PSs.nox (pss_cons ((ps_if ((pt_val (pe_callB call_isi (by rfl) (n_isinstance T) boot_isinstance (pa_cons (pv 1) (pa_cons (pe_bltn (v := .ty "str") (by rfl) (n_str T) boot_str rfl) pa_nil))))) (pss_cons ((ps_for PassesOwn.never rfl (pi_list (SlX.pe_sl (pv 0))) ((pg_name (i := 2) nd rfl (.inl rfl))) (pss_one ((ps_if ((pt_cmpR op_eq (SlX.pe_sl (pv 2)) (pv 1) (nomark _))) (pss_one ((ps_ret (pv 2)))) pss_nil))))) (pss_one ((ps_ret (pe_non))))) pss_nil)) (pss_cons ((ps_if ((pw_or (pt_not (pt_val (pe_callB call_isi (by rfl) (n_isinstance T) boot_isinstance (pa_cons (pv 1) (pa_cons (pe_bltn (v := .ty "int") (by rfl) (n_int T) boot_int rfl) pa_nil))))) (pw_or1 (pt_val (pe_callB call_isi (by rfl) (n_isinstance T) boot_isinstance (pa_cons (pv 1) (pa_cons (pe_bltn (v := .ty "bool") (by rfl) (n_bool T) boot_bool rfl) pa_nil)))))).pt) (pss_one ((ps_ret (pe_non)))) pss_nil)) (pss_cons ((ps_if ((pw_or (pt_cmpR op_lt (pv 1) (pe_int) (nomark _)) (pw_or1 (pt_cmpR op_ge (pv 1) (pe_callB call_len (by rfl) (n_len T) PySem.boot_len (pa_cons (SlX.pe_sl (pv 0)) pa_nil)) (nomark _)))).pt) (pss_one ((ps_ret (pe_non)))) pss_nil)) (pss_one ((ps_ret (pe_ix ix_list (SlX.pe_sl (pv 0)) (pv 1) (fun _ _ => rfl)))))))), ?_⟩
    cases t with
    | s t =>
      refine ⟨_, rfl, _, _, _, _, true, rfl, .ty "str", .base (.str _), kit_ty (by decide), _, rfl, ?_⟩
      refine iteT ?_
      refine ⟨_, rfl, x, CNd K, dx, _, _, 0, _, rfl, hn.slt, scl_N T, slt_attributes T, rfl, r.A, rfl, ⟨_, SqL.of hA⟩, ?_⟩
      refine for_it (walk_list (K := K) (a := r.A) (xs := refs as)) (fun i σ H2 => H2 = H ∧ (∃ v, σ = [some (.ref x), some (.str (mkS t)), v]) ∧ ∀ j q, j < i → at_[j]? = some q → ¬ 64 :: q.1 = t) ⟨rfl, ⟨none, rfl⟩, fun j q hj => by omega⟩ (fun i σ H2 _ h => by rw [h.1]; exact SqL.of hA) ?_ ?_
      · rintro i v σ H2' H2 hi ⟨rfl, ⟨v2, rfl⟩, hno⟩ ⟨rfl, hx2⟩
        rw [refs_len] at hi
        have hlen := hat.len
        have hq : at_[i]? = some (at_[i]'(by omega)) := List.getElem?_eq_getElem _
        generalize at_[i]'(by omega) = q at hq
        obtain ⟨b, hb, hab⟩ := at_at hat hq
        have hv : v = .ref b := by
          have h1 : (refs as)[i]? = some v := hx2
          unfold refs at h1
          rw [List.getElem?_map, hb] at h1
          exact (Option.some.inj h1).symm
        subst hv
        obtain ⟨dxb, Ab, Cb, hnb, _⟩ := id hab
        refine ⟨_, rfl, b, CNd K, dxb, _, _, 7, _, rfl, hnb.slt, scl_N T, slt_part T, rfl, _, rfl, rfl, _, rfl, ?_⟩
        show if decide (V.str (mkS (64 :: q.1)) = V.str (mkS t)) = true then _ else _
        rw [dec_str, tl_mkS, tl_mkS]
        by_cases e : 64 :: q.1 = t
        · refine iteT ?_ (decide_eq_true e)
          have hfi := find_at (f := fun q : List Nat × List Nat => decide (64 :: q.1 = t)) (fun j q' hj hq' => decide_eq_false (hno j q' hj hq')) hq (decide_eq_true e)
          have kk := k H2 (Same.refl _)
          rw [hs, hfi] at kk
          exact ⟨_, rfl, kk b ⟨par, hab⟩⟩
        · refine iteF ?_ (decide_eq_false e)
          refine ⟨rfl, ⟨_, rfl⟩, fun j q' hj hq' => ?_⟩
          by_cases hji : j = i
          · subst hji
            rw [hq] at hq'
            rw [← Option.some.inj hq']
            exact e
          · exact hno j q' (by omega) hq'
      · rintro σ H2 ⟨rfl, ⟨v2, rfl⟩, hno⟩
        have hlen := hat.len
        have hfi := find_no (f := fun q : List Nat × List Nat => decide (64 :: q.1 = t)) (l := at_) (fun j q' hq' => decide_eq_false (hno j q' (by rw [refs_len, hlen]; exact (List.getElem?_eq_some_iff.mp hq').1) hq'))
        have kk := k H2 (Same.refl _)
        rw [hs, hfi] at kk
        exact kk
    | i n =>
      refine ⟨_, rfl, _, _, _, _, false, rfl, .ty "str", .base (.int _), kit_ty (by decide), _, rfl, ?_⟩
      refine iteF ?_
      refine ⟨_, rfl, _, _, _, _, true, rfl, .ty "int", .base (.int _), kit_ty (by decide), _, rfl, ?_⟩
      refine iteF ?_
      refine ⟨_, rfl, _, _, _, _, false, rfl, .ty "bool", .base (.int _), kit_ty (by decide), _, rfl, ?_⟩
      refine iteF ?_
      refine ⟨_, rfl, _, _, rfl, rfl, _, rfl, ?_⟩
      have kk := k H (Same.refl _)
      show if decide (n < 0) = true then _ else _
      by_cases h0 : n < 0
      · refine iteT ?_ (decide_eq_true h0)
        rw [hk0 n (.inl h0)] at kk
        exact kk
      · refine iteF ?_ (decide_eq_false h0)
        refine ⟨_, rfl, _, rfl, x, CNd K, dx, _, _, 1, _, rfl, hn.slt, scl_N T, slt_children T, rfl, _, _, rfl, .inl ⟨_, SqL.of hC, rfl⟩, _, _, rfl, rfl, _, rfl, ?_⟩
        rw [refs_len]
        show if decide ((cs.length : Int) ≤ n) = true then _ else _
        by_cases h1 : (cs.length : Int) ≤ n
        · refine iteT ?_ (decide_eq_true h1)
          rw [hk0 n (.inr h1)] at kk
          exact kk
        · refine iteF ?_ (decide_eq_false h1)
          obtain ⟨c, p', e1, e2, e3⟩ := hk n (by omega) (by omega)
          rw [e2] at kk
          refine ⟨_, rfl, x, CNd K, dx, _, _, 1, _, rfl, hn.slt, scl_N T, slt_children T, rfl, _, rfl, r.C, refs cs, n, _, rfl, rfl, SqL.of hC, ?_, kk c e3⟩
          have e4 := atI_nat (xs := refs cs) (j := n.toNat) (v := .ref c) (by unfold refs; rw [List.getElem?_map, e1]; rfl)
          rw [Int.toNat_of_nonneg (by omega)] at e4
          exact e4
end
end PX
/-! EXf -/
namespace PX
open PySem PySem.Spec PyProof.Rows L2 TL
def inP : PN → List PT → Option PN
  | p, [] => some p
  | p, t :: ts => match unP p t with
    | none => none
    | some q => inP q ts
theorem atP_keep {K : PySem.W.Frag} {H H' : Hp} {o : Og} {L : List Addr} {la : Nat → Nat} {x : Addr} (s : Same H H') : ∀ {p : PN}, AtP K H o L la x p → AtP K H' o L la x p
  | .rt ks, ⟨rdx, rA, rC, cs, ls, h, h2⟩ => ⟨rdx, rA, rC, cs, ls, h.keep s, h2⟩
  | .nd d, ⟨par, i, l, pre, post, h, h2⟩ => ⟨par, i, l, pre, post, NodeAt.keep s h, h2⟩
  | .at q, ⟨par, h⟩ => ⟨par, h.keep s⟩
section
variable {P : Program} {w : World} {K : PySem.W.Frag} {mg : Str → Option Value} {base : Heap}
def spNI (K : PySem.W.Frag) : Sp := fun vs H Q _ => ∃ (o : Og) (L : List Addr) (la : Nat → Nat) (t dx p x a : Addr) (ks : List DN) (ts : List PT), vs = [.ref t, .ref a] ∧ H t = some (.ins (CTr K) dx (trF x p)) ∧ AtP K H o L la x (.rt ks) ∧ H a = some (.tup (ts.map PT.v)) ∧ ∀ H', Same H H' → (match inP (.rt ks) ts with
  | none => Q .non H'
  | some p' => ∀ c, AtP K H' o L la c p' → Q (.ref c) H')
theorem ok_node_in (T : Tx w K mg) : Ok P w K mg base CX0 2 (He.fAd K d_node_in.at_) p_node_in (spNI K) := by
  obtain ⟨fd, F⟩ := f_node_in T
  obtain ⟨fU, GU, bU, kU⟩ := ok_node_under (P := P) (base := base) T
  refine ⟨fd, ?_, b_node_in F, F.kp⟩
  refine F.ok sc_node_in (fun vs H Q E h => ?_) (fun cdv A outer s H vs Q E hr h => ?_)
  · obtain ⟨o, L, la, t, dx, p, x, a, ks, ts, rfl, _⟩ := h
    rfl
  · obtain ⟨o, L, la, t, dx, p, x, a, ks, ts, rfl, ht, hx, ha, k⟩ := h
    have nd := sc_node_in.nd
    refine ⟨_, PSs.nox (pss_cons ((ps_if ((pt_not (pt_val (pe_callB call_isi (by rfl) (n_isinstance T) boot_isinstance (pa_cons (pv 1) (pa_cons (pe_bltn (v := .ty "tuple") (by rfl) (n_tuple T) boot_tuple rfl) pa_nil)))))) (pss_one ((ps_ret (pe_non)))) pss_nil)) (pss_cons (ps_set (i := 2) nd rfl (.inl rfl) (pe_fld (pv 0) rfl)) (pss_cons ((ps_for PassesOwn.never rfl (pi_tup (pv 1)) ((pg_name (i := 3) nd rfl (.inl rfl))) (pss_cons (ps_set (i := 2) nd rfl (.inl rfl) (pe_call (E := E0) GU (hr.mono (by omega)) (by rfl) (g_node_under T) kU bU .nil pass0 (pa_cons (pv 2) (pa_cons (pv 3) pa_nil)))) (pss_one ((ps_if ((pt_cmpR op_isN (pv 2) (pe_non) (nomark _))) (pss_one ((ps_ret (pe_non)))) pss_nil)))))) (pss_one ((ps_ret (pv 2))))))), ?_⟩
    refine ⟨_, rfl, _, _, _, _, true, rfl, .ty "tuple", .base (.tup ha), kit_ty (by decide), _, rfl, ?_⟩
    refine iteF ?_
    refine ⟨_, rfl, t, CTr K, dx, _, _, rfl, ht, cls_Tree T, na_Tree_root T, tr_root, ?_⟩
    refine ⟨_, rfl, a, rfl, ⟨_, SqT.of ha⟩, ?_⟩
    refine for_it (walk_tup (K := K) (a := a) (xs := ts.map PT.v)) (fun i σ H2 => Same H H2 ∧ ∃ (c : Addr) (q : PN) (v : Option V), σ = [some (.ref t), some (.ref a), some (.ref c), v] ∧ AtP K H2 o L la c q ∧ inP (.rt ks) ts = inP q (ts.drop i)) ⟨Same.refl _, x, .rt ks, none, rfl, hx, rfl⟩ (fun i σ H2 _ h => SqT.of (h.1 _ _ ha)) ?_ ?_
    · rintro i v σ H2' H2 hi ⟨s2, c, q, v2, rfl, hc, e⟩ ⟨rfl, hv⟩
      rw [List.length_map] at hi
      have hd : ts.drop i = ts[i] :: ts.drop (i + 1) := List.drop_eq_getElem_cons hi
      have hv2 : v = (ts[i]).v := by
        have h1 : (ts.map PT.v)[i]? = some v := hv
        rw [List.getElem?_map, List.getElem?_eq_getElem hi] at h1
        exact (Option.some.inj h1).symm
      subst hv2
      rw [hd] at e
      generalize ts[i] = pt at e
      refine ⟨_, rfl, _, rfl, o, L, la, c, q, pt, rfl, hc, fun H3 s3 => ?_⟩
      have e2 : inP q (pt :: ts.drop (i + 1)) = match unP q pt with
        | none => none
        | some q => inP q (ts.drop (i + 1)) := rfl
      rw [e2] at e
      cases hu : unP q pt with
      | none =>
        rw [hu] at e
        dsimp only at e
        have kk := k H3 (s2.trans s3)
        rw [e] at kk
        refine ⟨_, rfl, rfl, _, rfl, ?_⟩
        refine iteT ?_
        exact kk
      | some q' =>
        rw [hu] at e
        intro c' hc'
        refine ⟨_, rfl, rfl, _, rfl, ?_⟩
        refine iteF ?_
        exact ⟨s2.trans s3, c', q', _, rfl, hc', e⟩
    · rintro σ H2 ⟨s2, c, q, v2, rfl, hc, e⟩
      rw [List.length_map, List.drop_length] at e
      have kk := k H2 s2
      rw [e] at kk
      exact ⟨_, rfl, kk c hc⟩
def spNA (K : PySem.W.Frag) : Sp := fun vs H Q _ => ∃ (o : Og) (L : List Addr) (la : Nat → Nat) (t dx p x a : Addr) (ks : List DN) (ts : List PT) (q : PN), vs = [.ref t, .ref a] ∧ H t = some (.ins (CTr K) dx (trF x p)) ∧ AtP K H o L la x (.rt ks) ∧ H a = some (.tup (ts.map PT.v)) ∧ inP (.rt ks) ts = some q ∧ ∀ H' c, Same H H' → AtP K H' o L la c q → Q (.ref c) H'
theorem ok_node_at (T : Tx w K mg) : Ok P w K mg base CX0 3 (He.fAd K d_node_at.at_) p_node_at (spNA K) := by
  obtain ⟨fd, F⟩ := f_node_at T
  obtain ⟨fC, GC, bC, kC⟩ := ok_check_tree (P := P) (base := base) T
  obtain ⟨fN, GN, bN, kN⟩ := ok_node_in (P := P) (base := base) T
  refine ⟨fd, ?_, b_node_at F, F.kp⟩
  refine F.ok sc_node_at (fun vs H Q E h => ?_) (fun cdv A outer s H vs Q E hr h => ?_)
  · obtain ⟨o, L, la, t, dx, p, x, a, ks, ts, q, rfl, _⟩ := h
    rfl
  · obtain ⟨o, L, la, t, dx, p, x, a, ks, ts, q, rfl, ht, hx, ha, hq, k⟩ := h
    have nd := sc_node_at.nd
    refine ⟨_, PSs.nox (pss_cons (ps_expr (pe_call (E := E0) GC (hr.mono (by omega)) (by rfl) (g_check_tree T) kC bC .nil pass0 (pa_cons (pv 0) pa_nil))) (pss_cons (ps_set (i := 2) nd rfl (.inl rfl) (pe_call (E := E0) GN (hr.mono (by omega)) (by rfl) (g_node_in T) kN bN .nil pass0 (pa_cons (pv 0) (pa_cons (pv 1) pa_nil)))) (pss_cons ((ps_if ((pt_cmpR op_isN (pv 2) (pe_non) (nomark _))) pss_no pss_nil)) (pss_one ((ps_ret (pv 2))))))), ?_⟩
    refine ⟨_, rfl, t, dx, _, rfl, ht, ?_⟩
    refine ⟨_, rfl, _, rfl, o, L, la, t, dx, p, x, a, ks, ts, rfl, ht, hx, ha, fun H2 s2 => ?_⟩
    rw [hq]
    intro c hc
    refine ⟨_, rfl, rfl, _, rfl, ?_⟩
    refine iteF ?_
    exact ⟨_, rfl, k H2 c s2 hc⟩
end
end PX
/-! EXg -/
namespace PX
open PySem PySem.Spec PyProof.Rows L2 TL
/-! ### string values -/
mutual
def svN : DN → List Nat
  | .lf k _ t => if k = 0 then t else []
  | .el _ _ ks => svK ks
def svK : List DN → List Nat
  | [] => []
  | d :: ds => svN d ++ svK ds
end
def svP : PN → List Nat
  | .rt ks => svK ks
  | .nd (.el _ _ ks) => svK ks
  | .nd (.lf _ _ t) => t
  | .at q => q.2
def kdN : DN → Str
  | .el _ _ _ => "element"
  | .lf k _ _ => kS k
def txD : DN → List Nat
  | .el _ _ _ => []
  | .lf _ _ t => t
mutual
def ktN : DN → List (Bool × List Nat)
  | .lf k _ t => [(decide (V.str (kS k) = V.str (Str.ofString "text")), t)]
  | .el _ at_ ks => (false, []) :: (at_.map (fun q => (false, q.2)) ++ ktK ks)
def ktK : List DN → List (Bool × List Nat)
  | [] => []
  | d :: ds => ktN d ++ ktK ds
end
def flT (l : List (Bool × List Nat)) : List Nat := (l.filter (·.1)).flatMap (·.2)
theorem flT_app (a b : List (Bool × List Nat)) : flT (a ++ b) = flT a ++ flT b := by
  unfold flT
  rw [List.filter_append, List.flatMap_append]
theorem flT_at (at_ : List (List Nat × List Nat)) : flT (at_.map (fun q => (false, q.2))) = [] := by
  induction at_ with
  | nil => rfl
  | cons q at_ ih =>
    rw [List.map_cons]
    exact ih
theorem kS_text (k : Nat) : decide (V.str (kS k) = V.str (Str.ofString "text")) = decide (k = 0) := by
  match k with
  | 0 => decide
  | 1 => decide
  | k + 2 =>
    show decide (V.str "instruction" = V.str (Str.ofString "text")) = _
    rw [decide_eq_false (p := k + 2 = 0) (by omega)]
    decide
mutual
theorem flT_N : ∀ d : DN, flT (ktN d) = svN d
  | .lf k nm t => by
    rw [ktN, svN, kS_text]
    by_cases h : k = 0
    · rw [if_pos h, decide_eq_true h]
      show t ++ [] = t
      rw [List.append_nil]
    · rw [if_neg h, decide_eq_false h]
      rfl
  | .el nm at_ ks => by
    rw [ktN, svN]
    show flT (at_.map (fun q => (false, q.2)) ++ ktK ks) = _
    rw [flT_app, flT_at, flT_K ks]
    rfl
theorem flT_K : ∀ ds : List DN, flT (ktK ds) = svK ds
  | [] => by
    rw [ktK, svK]
    rfl
  | d :: ds => by
    rw [ktK, svK, flT_app, flT_N d, flT_K ds]
end
section
variable (K : PySem.W.Frag) (H : Hp)
def KtAt : List Addr → List (Bool × List Nat) → Prop
  | [], [] => True
  | a :: as, u :: us => (∃ dx r kd, NdA K H a dx r ∧ r.kind = .str kd ∧ decide (V.str kd = V.str (Str.ofString "text")) = u.1 ∧ r.tx = .str (mkS u.2)) ∧ KtAt as us
  | _, _ => False
end
section
variable {K : PySem.W.Frag} {H : Hp} {o : Og}
theorem KtAt.app : ∀ {a : List Addr} {u : List (Bool × List Nat)} {b : List Addr} {v : List (Bool × List Nat)}, KtAt K H a u → KtAt K H b v → KtAt K H (a ++ b) (u ++ v)
  | [], [], _, _, _, h2 => h2
  | a :: as, u :: us, _, _, h1, h2 => ⟨h1.1, KtAt.app h1.2 h2⟩
  | [], _ :: _, _, _, h, _ => h.elim
  | _ :: _, [], _, _, h, _ => h.elim
theorem KtAt.get : ∀ {a : List Addr} {u : List (Bool × List Nat)}, KtAt K H a u → ∀ (k : Nat) (b : Addr), a[k]? = Option.some b → ∃ w dx r kd, u[k]? = Option.some w ∧ NdA K H b dx r ∧ r.kind = .str kd ∧ decide (V.str kd = V.str (Str.ofString "text")) = w.1 ∧ r.tx = .str (mkS w.2)
  | [], [], _, k, b, hb => by cases hb
  | a :: as, u :: us, h, 0, b, hb => by
    have := Option.some.inj hb
    subst this
    obtain ⟨dx, r, kd, h1, h2, h3, h4⟩ := h.1
    exact ⟨u, dx, r, kd, rfl, h1, h2, h3, h4⟩
  | a :: as, u :: us, h, k + 1, b, hb => KtAt.get h.2 k b hb
  | [], _ :: _, h, _, _, _ => h.elim
  | _ :: _, [], h, _, _, _ => h.elim
theorem KtAt.len : ∀ {a : List Addr} {u : List (Bool × List Nat)}, KtAt K H a u → a.length = u.length
  | [], [], _ => rfl
  | a :: as, u :: us, h => congrArg (· + 1) (KtAt.len h.2)
  | [], _ :: _, h => h.elim
  | _ :: _, [], h => h.elim
theorem KtAt.keep {H' : Hp} (s : Same H H') : ∀ {a : List Addr} {u : List (Bool × List Nat)}, KtAt K H a u → KtAt K H' a u
  | [], [], _ => trivial
  | a :: as, u :: us, h => ⟨(by obtain ⟨dx, r, kd, h1, h2⟩ := h.1; exact ⟨dx, r, kd, h1.keep s, h2⟩), KtAt.keep s h.2⟩
  | [], _ :: _, h => h.elim
  | _ :: _, [], h => h.elim
theorem ats_kt {par : Addr} : ∀ {as : List Addr} {qs : List (List Nat × List Nat)}, AtsAt K o H par as qs → KtAt K H as (qs.map fun q => (false, q.2))
  | [], [], _ => trivial
  | a :: as, q :: qs, h => by
    obtain ⟨dx, A, C, h1, _⟩ := h.1
    exact ⟨⟨dx, _, _, h1, rfl, (show decide (V.str (Str.ofString "attribute") = V.str (Str.ofString "text")) = false by decide), rfl⟩, ats_kt h.2⟩
  | [], _ :: _, h => h.elim
  | _ :: _, [], h => h.elim
mutual
theorem nd_kt {par a : Addr} {i : Nat} : ∀ {d : DN} {l : List Addr}, NodeAt K o H par i a d l → KtAt K H l (ktN d)
  | .lf k nm t, l, h => by
    rw [NodeAt] at h
    obtain ⟨rfl, dx, A, C, h1, _⟩ := h
    rw [ktN]
    exact ⟨⟨dx, _, _, h1, rfl, rfl, rfl⟩, trivial⟩
  | .el nm at_ ks, l, h => by
    rw [NodeAt] at h
    obtain ⟨dx, A, C, as, cs, ls, rfl, h1, h2, h3, h4, h5⟩ := h
    rw [ktN]
    exact ⟨⟨dx, _, _, h1, rfl, by decide, rfl⟩, (ats_kt h4).app (kd_kt h5)⟩
theorem kd_kt {par : Addr} {i : Nat} : ∀ {cs : List Addr} {ds : List DN} {l : List Addr}, KidsAt K o H par i cs ds l → KtAt K H l (ktK ds)
  | cs, [], l, h => by
    rw [KidsAt] at h
    rw [h.2, ktK]
    trivial
  | cs, d :: ds, l, h => by
    rw [KidsAt] at h
    obtain ⟨c, cs', l1, l2, rfl, rfl, h3, h4⟩ := h
    rw [ktK]
    exact (nd_kt h3).app (kd_kt h4)
end
/-- the tree around -/
def TrF (K : PySem.W.Frag) (H : Hp) (o : Og) (L : List Addr) (la : Nat → Nat) (t : Addr) : Prop := ∃ dx x p, H t = some (.ins (CTr K) dx (trF x p)) ∧ H p = some (.lst (refs L)) ∧ (∀ (k : Nat) b, L[k]? = some b → o b = (.int (k : Int), .int (la k : Int), .ref t)) ∧ L.length ≤ 1000000
theorem TrF.keep {H' : Hp} {L : List Addr} {la : Nat → Nat} {t : Addr} (h : TrF K H o L la t) (s : Same H H') : TrF K H' o L la t := by
  obtain ⟨dx, x, p, h1, h2, h3⟩ := h
  exact ⟨dx, x, p, s _ _ h1, s _ _ h2, h3⟩
theorem kid0 {par : Addr} {cs : List Addr} {ks : List DN} {ls : List Addr} (h : KidsAt K o H par 0 cs ks ls) : ∀ c, cs[0]? = some c → ∃ d ds dx r, ks = d :: ds ∧ NdA K H c dx r ∧ r.kind = .str (kdN d) ∧ r.tx = .str (mkS (txD d)) := by
  intro c hc
  cases ks with
  | nil =>
    rw [KidsAt] at h
    rw [h.1] at hc
    cases hc
  | cons d ds =>
    rw [KidsAt] at h
    obtain ⟨c', cs', l1, l2, rfl, rfl, h3, h4⟩ := h
    have := Option.some.inj hc
    subst this
    cases d with
    | lf k nm t =>
      rw [NodeAt] at h3
      obtain ⟨_, dx, A, C, h5, _⟩ := h3
      exact ⟨_, ds, dx, _, rfl, h5, rfl, rfl⟩
    | el nm at_ ks =>
      rw [NodeAt] at h3
      obtain ⟨dx, A, C, as, cs, ls, _, h5, _⟩ := h3
      exact ⟨_, ds, dx, _, rfl, h5, rfl, rfl⟩
/-- what a root and an element have -/
def Big (K : PySem.W.Frag) (H : Hp) (L : List Addr) (t x : Addr) (ks : List DN) : Prop := ∃ dx r cs l us p0 kd, NdA K H x dx r ∧ r.kind = .str kd ∧ (kd = ("root" : Str) ∨ kd = ("element" : Str)) ∧ H r.C = some (.lst (refs cs)) ∧ cs.length = ks.length ∧ r.ord = .int ((p0 : Nat) : Int) ∧ r.en = .int ((p0 + l.length : Nat) - 1 : Int) ∧ r.tr = .ref t ∧
  (L.drop p0).take l.length = l ∧ p0 + l.length ≤ L.length ∧ 1 ≤ l.length ∧ KtAt K H l us ∧ flT us = svK ks ∧ ∀ c, cs[0]? = some c → ∃ d ds dx r, ks = d :: ds ∧ NdA K H c dx r ∧ r.kind = .str (kdN d) ∧ r.tx = .str (mkS (txD d))
theorem big_rt {L : List Addr} {la : Nat → Nat} {t x : Addr} {ks : List DN} (T : TrF K H o L la t) (h : AtP K H o L la x (.rt ks)) : Big K H L t x ks := by
  obtain ⟨dxt, x2, p, t1, t2, t3, t4⟩ := T
  obtain ⟨rdx, rA, rC, cs, ls, ⟨h1, h2, h3, h4⟩, rfl, rfl⟩ := h
  have ho := t3 0 x rfl
  have hs := h4.sz
  refine ⟨rdx, _, cs, x :: ls, (false, []) :: ktK ks, 0, "root", h1, rfl, .inl rfl, h3, KidsAt.len h4, ?_, ?_, ?_, by rw [List.drop_zero, List.take_length], by omega, Nat.succ_le_succ (Nat.zero_le _), ⟨⟨rdx, _, _, h1, rfl, by decide, rfl⟩, kd_kt h4⟩, ?_, kid0 h4⟩
  · show (o x).1 = _
    rw [ho]
  · show (o x).2.1 = _
    rw [ho]
    show V.int ((laR ks 0 : Nat) : Int) = _
    unfold laR
    rw [if_pos rfl, List.length_cons, hs]
    exact congrArg V.int (by omega)
  · show (o x).2.2 = _
    rw [ho]
  · exact flT_K ks
theorem big_el {L : List Addr} {la : Nat → Nat} {t x : Addr} {nm : List Nat} {at_ : List (List Nat × List Nat)} {ks : List DN} (T : TrF K H o L la t) (h : AtP K H o L la x (.nd (.el nm at_ ks))) : Big K H L t x ks := by
  obtain ⟨dxt, x2, p, t1, t2, t3, t4⟩ := T
  obtain ⟨par, i, l, pre, post, hn, hL, hla⟩ := h
  have hs := hn.sz
  have hkt := nd_kt hn
  have hfl : flT (ktN (.el nm at_ ks)) = svK ks := by rw [flT_N, svN]
  have hhead : L[pre.length]? = some x := by
    rw [NodeAt] at hn
    obtain ⟨_, _, _, as, _, ls, e, _⟩ := hn
    rw [hL, e]
    simp
  have ho := t3 _ _ hhead
  have hlp := hla pre.length (Nat.le_refl _) (by have := szN_pos (.el nm at_ ks); omega)
  rw [laN, if_pos rfl] at hlp
  have hsz : szN (.el nm at_ ks) = 1 + at_.length + szK ks := by rw [szN]
  rw [NodeAt] at hn
  obtain ⟨dx, A, C, as, cs, ls, e, h1, h2, h3, h4, h5⟩ := hn
  refine ⟨dx, _, cs, l, _, pre.length, "element", h1, rfl, .inr rfl, h3, KidsAt.len h5, ?_, ?_, ?_, ?_, ?_, by omega, hkt, hfl, kid0 h5⟩
  · show (o x).1 = _
    rw [ho]
  · show (o x).2.1 = _
    rw [ho, hlp]
    exact congrArg V.int (by omega)
  · show (o x).2.2 = _
    rw [ho]
  · rw [hL, List.drop_left', List.take_left']
    · rfl
    · rfl
  · rw [hL, List.length_append, List.length_append]
    omega
end
end PX
/-! EXh -/
namespace PX
open PySem PySem.Spec PyProof.Rows L2 TL
theorem cutV_nat (xs : List V) (i j : Nat) (h1 : i ≤ xs.length) (h2 : j ≤ xs.length) : cutV xs (some (i : Int)) (some (j : Int)) = (xs.drop i).take (j - i) := by
  unfold cutV
  have e : ∀ (k d : Nat), k ≤ xs.length → HT.sIx xs.length d (some (k : Int)) = k := fun k d hk => by
    unfold HT.sIx
    dsimp only
    rw [if_neg (by omega)]
    omega
  rw [e j _ h2, e i _ h1]
theorem kS_in (k : Nat) : inV (.str (kS k)) [.str (Str.ofString "root"), .str (Str.ofString "element")] = false := by
  match k with
  | 0 => decide
  | 1 => decide
  | k + 2 => show inV (.str "instruction") _ = false; decide
theorem sv_case {K : PySem.W.Frag} {H : Hp} {o : Og} {L : List Addr} {la : Nat → Nat} {t x : Addr} (hT : TrF K H o L la t) : ∀ {p : PN}, AtP K H o L la x p →
    (∃ ks, svP p = svK ks ∧ Big K H L t x ks) ∨ (∃ dx r kd, NdA K H x dx r ∧ r.kind = .str kd ∧ inV (.str kd) [.str (Str.ofString "root"), .str (Str.ofString "element")] = false ∧ r.tx = .str (mkS (svP p)))
  | .rt ks, hx => .inl ⟨ks, rfl, big_rt hT hx⟩
  | .nd (.el nm at_ ks), hx => .inl ⟨ks, rfl, big_el hT hx⟩
  | .nd (.lf k nm t), hx => by
    obtain ⟨par, i, l, pre, post, hn, _⟩ := hx
    rw [NodeAt] at hn
    obtain ⟨_, dx, A, C, h1, _⟩ := hn
    exact .inr ⟨dx, _, _, h1, rfl, kS_in k, rfl⟩
  | .at q, hx => by
    obtain ⟨par, dx, A, C, h1, _⟩ := hx
    exact .inr ⟨dx, _, _, h1, rfl, by decide, rfl⟩
theorem pe_slK {X : Cx} {K : PySem.W.Frag} {e : Expr} {f : Str} {pos : Pos} {ta : TE} (h : PE X e ta) (hK : X.K = K) (hb : attributeBase e f X.env (eval e X.env) = eval e X.env := by rfl) : PE X (.Attribute e f pos) (SlX.tSl K ta f) := by
  subst hK
  exact SlX.pe_sl h hb
section
variable {P : Program} {w : World} {K : PySem.W.Frag} {mg : Str → Option Value} {base : Heap}
def spSV (K : PySem.W.Frag) : Sp := fun vs H Q _ => ∃ (o : Og) (L : List Addr) (la : Nat → Nat) (t x : Addr) (p : PN), vs = [.ref x] ∧ TrF K H o L la t ∧ AtP K H o L la x p ∧ (svP p).length ≤ 1000000 ∧ ∀ H', Same H H' → Q (.str (mkS (svP p))) H'
theorem ok_string_value (T : Tx w K mg) : Ok P w K mg base CX0 1 (He.fAd K d_string_value.at_) p_string_value (spSV K) := by
  obtain ⟨fd, F⟩ := f_string_value T
  refine ⟨fd, ?_, b_string_value F, F.kp⟩
  refine F.ok sc_string_value (fun vs H Q E h => ?_) (fun cdv A outer s H vs Q E hr h => ?_)
  · obtain ⟨o, L, la, t, x, p, rfl, _⟩ := h
    rfl
  · obtain ⟨o, L, la, t, x, p, rfl, hT, hx, hlen, k⟩ := h
    have nd := sc_string_value.nd
    have hu0 := Nat.lt_of_le_of_lt (Nat.le_add_right _ 64) hr.units
    refine ⟨_, PSs.nox (pss_cons ((ps_if ((pt_cmpR op_notIn_seq (SlX.pe_sl (pv 0)) (pe_tup (pa_cons (pe_str) (pa_cons (pe_str) pa_nil))) (by rfl))) (pss_one ((ps_ret (SlX.pe_sl (pv 0))))) pss_nil)) (Evl.pss_cut ((ps_if ((pt_cmpR op_lt (pe_callB call_len (by rfl) (n_len T) PySem.boot_len (pa_cons (SlX.pe_sl (pv 0)) pa_nil)) (pe_int) (nomark _))) (pss_cons ((ps_if ((pt_cmpR (op_eqNil hu0) (SlX.pe_sl (pv 0)) (pe_lst pa_nil) (nomark _))) (pss_one ((ps_ret (pe_str)))) pss_nil)) (pss_one ((ps_if ((pt_cmpR op_eq (SlX.pe_sl (pe_ix ix_list (SlX.pe_sl (pv 0)) pe_int (fun _ _ => rfl))) (pe_str) (nomark _))) (pss_one ((ps_ret (SlX.pe_sl (pe_ix ix_list (SlX.pe_sl (pv 0)) pe_int (fun _ _ => rfl)))))) pss_nil)))) pss_nil)) (pss_cons (ps_set (i := 1) nd rfl (.inl rfl) (pe_slice sl_list (pe_fld (SlX.pe_sl (pv 0)) rfl) (po_some (SlX.pe_sl (pv 0))) (po_some (pe_op op_add (SlX.pe_sl (pv 0)) pe_int)))) (pss_one ((ps_ret (pe_join pe_str (pe_lc (own := [("part", 2)]) (g := gName 2) (by rfl) nd (pi_list (pv 1)) (blkOk_by (own := [("part", 2)]) (N := N_string_value) (sc := defScope s_string_value) (by decide +kernel)) (fun _ _ _ _ _ => pg_name (i := 2) nd rfl (Or.inl rfl)) (fun _ _ _ _ _ => pts_one (pt_cmpR op_eq (pe_slK (K := K) (pv 2) rfl) (pe_str) (nomark _))) (fun _ _ _ _ _ => pe_slK (K := K) (pv 2) rfl))))))))), ?_⟩
    have hcase := sv_case hT hx
    rcases hcase with ⟨ks, esv, dx, r, cs, l, us, p0, kd, hn, hkd, hkd2, hC, hcl, hord, hen, htr, hcut, hple, hl1, hkt, hfl, hk0⟩ | ⟨dx, r, kd, hn, hkd, hno, htx⟩
    · rw [esv] at k hlen
      refine ⟨_, rfl, x, CNd K, dx, _, _, 3, .str kd, rfl, hn.slt, scl_N T, slt_kind T, (by show some (some r.kind) = _; rw [hkd]), by decide, fun tq htq => ⟨tq, _, rfl, .inr (SqT.of upd_same), rfl, rfl, ?_⟩⟩
      rw [if_pos rfl]
      refine ⟨_, rfl, ?_⟩
      show if (!inV (.str kd) [.str (Str.ofString "root"), .str (Str.ofString "element")]) = true then _ else _
      have hin : inV (.str kd) [.str (Str.ofString "root"), .str (Str.ofString "element")] = true := by
        rcases hkd2 with rfl | rfl <;> decide
      rw [hin]
      refine iteF ?_
      have s1 : Same H (upd H tq (.tup [.str (Str.ofString "root"), .str (Str.ofString "element")])) := same_new htq
      generalize upd H tq (.tup [.str (Str.ofString "root"), .str (Str.ofString "element")]) = H1 at s1 ⊢
      have n1 := hn.keep s1
      have hC1 := s1 _ _ hC
      have kdt : ∀ {d : DN}, decide (V.str (kdN d) = V.str (Str.ofString "text")) = true → svN d = txD d := fun {d} e => by
        cases d with
        | el nm at_ ks => exact absurd e (by show ¬ decide (V.str "element" = V.str (Str.ofString "text")) = true; decide)
        | lf k nm t =>
          have e : decide (V.str (kS k) = V.str (Str.ofString "text")) = true := e
          rw [kS_text] at e
          rw [svN, if_pos (of_decide_eq_true e)]
          rfl
      refine ⟨fun σ H2 => σ = [some (.ref x), none, none] ∧ Same H H2, ?_, ?_⟩
      · refine ⟨_, rfl, x, CNd K, dx, _, _, 1, _, rfl, n1.slt, scl_N T, slt_children T, rfl, _, _, rfl, .inl ⟨_, SqL.of hC1, rfl⟩, _, _, rfl, rfl, _, rfl, ?_⟩
        rw [refs_len]
        show if decide ((cs.length : Int) < 2) = true then _ else _
        by_cases h2 : cs.length < 2
        · refine iteT ?_ (decide_eq_true (by omega))
          refine ⟨_, rfl, x, CNd K, dx, _, _, 1, _, rfl, n1.slt, scl_N T, slt_children T, rfl, by decide, fun q hq => ?_⟩
          have s2 := s1.trans (same_new hq (o := .lst []))
          have n2 := hn.keep s2
          have hC2 := s2 _ _ hC
          refine ⟨r.C, q, refs cs, rfl, rfl, SqL.of hC2, SqL.of upd_same, _, rfl, ?_⟩
          cases cs with
          | nil =>
            refine iteT ?_
            have : ks = [] := List.eq_nil_of_length_eq_zero hcl.symm
            subst this
            have kk := k _ s2
            rw [svK] at kk
            exact kk
          | cons c cs =>
            refine iteF ?_
            obtain ⟨d, ds, dxc, rc, ek, nc, ckd, ctx⟩ := hk0 c rfl
            have nc2 := nc.keep s2
            have e0 : atI (refs (c :: cs)) (0 : Int) = some (.ref c) := atI_nat (j := 0) rfl
            refine ⟨_, rfl, x, CNd K, dx, _, _, 1, _, rfl, n2.slt, scl_N T, slt_children T, rfl, r.C, refs (c :: cs), _, _, rfl, rfl, SqL.of hC2, e0, c, CNd K, dxc, _, _, 3, .str (kdN d), rfl, nc2.slt, scl_N T, slt_kind T, (by show some (some rc.kind) = _; rw [ckd]), rfl, _, rfl, ?_⟩
            show if decide (V.str (kdN d) = V.str (Str.ofString "text")) = true then _ else _
            cases he : decide (V.str (kdN d) = V.str (Str.ofString "text")) with
            | false =>
              refine iteF ?_
              exact ⟨rfl, s2⟩
            | true =>
              refine iteT ?_
              have hds : ds = [] := by
                rw [ek] at hcl
                simp only [List.length_cons] at hcl h2
                exact List.eq_nil_of_length_eq_zero (by omega)
              subst hds
              have kk := k _ s2
              rw [ek, svK, svK, List.append_nil, kdt he] at kk
              refine ⟨_, rfl, x, CNd K, dx, _, _, 1, _, rfl, n2.slt, scl_N T, slt_children T, rfl, r.C, refs (c :: cs), _, _, rfl, rfl, SqL.of hC2, e0, c, CNd K, dxc, _, _, 8, .str (mkS (txD d)), rfl, nc2.slt, scl_N T, slt_text T, (by show some (some rc.tx) = _; rw [ctx]), kk⟩
        · refine iteF ?_ (decide_eq_false (by omega))
          exact ⟨rfl, s1⟩
      · rintro σ H2 ⟨rfl, s2⟩
        have n2 := hn.keep s2
        obtain ⟨dxt, x2, p, t1, t2, t3, t4⟩ := hT.keep s2
        refine ⟨_, rfl, x, CNd K, dx, _, _, 9, .ref t, rfl, n2.slt, scl_N T, slt_tree T, (by show some (some r.tr) = _; rw [htr]), t, CTr K, dxt, _, _, rfl, t1, cls_Tree T, na_Tree_nodes T, tr_nodes, _, rfl, x, CNd K, dx, _, _, 5, .int (p0 : Int), rfl, n2.slt, scl_N T, slt_order T, (by show some (some r.ord) = _; rw [hord]), ?_⟩
        refine ⟨_, rfl, _, rfl, x, CNd K, dx, _, _, 2, .int ((p0 + l.length : Nat) - 1 : Int), rfl, n2.slt, scl_N T, slt_end T, (by show some (some r.en) = _; rw [hen]), _, _, rfl, rfl, _, rfl, p, refs L, rfl, SqL.of t2, fun q hq => ?_⟩
        have hcv : cutV (refs L) (some (p0 : Int)) (some (((p0 + l.length : Nat) : Int) - 1 + 1)) = refs l := by
          rw [show ((p0 + l.length : Nat) : Int) - 1 + 1 = ((p0 + l.length : Nat) : Int) by omega, cutV_nat _ _ _ (by rw [refs_len]; omega) (by rw [refs_len]; omega), Nat.add_sub_cancel_left]
          unfold refs
          rw [← List.map_drop, ← List.map_take, hcut]
        have hq3 : upd H2 q (.lst (cutV (refs L) (some (p0 : Int)) (some (((p0 + l.length : Nat) : Int) - 1 + 1)))) q = some (.lst (refs l)) := by rw [upd_same, hcv]
        have s3 : Same H (upd H2 q (.lst (cutV (refs L) (some (p0 : Int)) (some (((p0 + l.length : Nat) : Int) - 1 + 1))))) := s2.trans (same_new hq)
        generalize upd H2 q (.lst (cutV (refs L) (some (p0 : Int)) (some (((p0 + l.length : Nat) : Int) - 1 + 1)))) = H3 at hq3 s3 ⊢
        have hkt3 := hkt.keep s3
        have hlu := hkt.len
        have hL1 : l.length ≤ 1000000 := by omega
        refine ⟨⟨_, rfl⟩, _, rfl, q, rfl, ⟨_, SqL.of hq3⟩, fun D hD => ?_⟩
        refine lc_it (walk_list (K := K) (a := q) (xs := refs l)) (fun i H7 => Same H3 H7 ∧ H7 D = some (.lst (((us.take i).filter (·.1)).map fun u => V.str (mkS u.2)))) ⟨same_new hD, upd_same⟩ (fun i H7 _ h => SqL.of (h.1 _ _ hq3)) ?_ ?_
        · rintro i v H7 H8 hi ⟨s7, h7⟩ ⟨rfl, hv⟩
          rw [refs_len] at hi
          have hb : l[i]? = some l[i] := List.getElem?_eq_getElem hi
          generalize l[i] = b at hb
          have hv2 : v = .ref b := by
            have h1 : (refs l)[i]? = some v := hv
            unfold refs at h1
            rw [List.getElem?_map, hb] at h1
            exact (Option.some.inj h1).symm
          subst hv2
          obtain ⟨u, dxb, rb, kb, hu, nb, e1, e2, e3⟩ := hkt3.get i b hb
          have nb7 := nb.keep s7
          have htk : us.take (i + 1) = us.take i ++ [u] := by
            obtain ⟨hlt, hge⟩ := List.getElem?_eq_some_iff.mp hu
            rw [List.take_succ_eq_append_getElem hlt, hge]
          refine ⟨rfl, _, rfl, b, CNd K, dxb, _, _, 3, .str kb, rfl, nb7.slt, scl_N T, slt_kind T, (by show some (some rb.kind) = _; rw [e1]), rfl, _, rfl, ?_⟩
          show if decide (V.str kb = V.str (Str.ofString "text")) = true then _ else _
          rw [e2]
          cases hu1 : u.1 with
          | true =>
            refine iteT ?_
            refine ⟨_, rfl, b, CNd K, dxb, _, _, 8, .str (mkS u.2), rfl, nb7.slt, scl_N T, slt_text T, (by show some (some rb.tx) = _; rw [e3]), _, h7, ?_, ?_, ?_⟩
            · have := List.length_filter_le (·.1) (us.take i)
              rw [List.length_take] at this
              rw [List.length_map, sizeLine_eq]
              omega
            · exact same_upd0 s7 hD
            · rw [upd_same, htk, List.filter_append, List.map_append]
              simp [List.filter, hu1]
          | false =>
            refine iteF ?_
            refine ⟨s7, ?_⟩
            rw [htk, List.filter_append, List.map_append]
            simp only [List.filter, hu1, List.map_nil, List.append_nil]
            exact h7
        · rintro H7 ⟨s7, h7⟩
          rw [refs_len, hlu, List.take_length] at h7
          have efl : ((us.filter (·.1)).map (·.2)).flatten = svK ks := by
            rw [← hfl]
            unfold flT
            rw [List.flatMap_def]
          refine ⟨Str.ofString "", D, ((us.filter (·.1)).map (·.2)).map mkS, rfl, rfl, .inl (SqL.of (by rw [h7, List.map_map, List.map_map]; rfl)), ?_, ?_⟩
          · have e0 : (Str.ofString "").length = 0 := rfl
            have e1 : ((((us.filter (·.1)).map (·.2)).map mkS).map (·.length)).sum = (svK ks).length := by
              rw [← efl, List.length_flatten, List.map_map]
              exact congrArg List.sum (List.map_congr_left fun t _ => mkS_len t)
            rw [e0, e1]
            omega
          · rw [join_tx, efl]
            exact k _ (s3.trans s7)
    · refine ⟨_, rfl, x, CNd K, dx, _, _, 3, .str kd, rfl, hn.slt, scl_N T, slt_kind T, (by show some (some r.kind) = _; rw [hkd]), by decide, fun tq htq => ⟨tq, _, rfl, .inr (SqT.of upd_same), rfl, rfl, ?_⟩⟩
      rw [if_pos rfl]
      refine ⟨_, rfl, ?_⟩
      show if (!inV (.str kd) [.str (Str.ofString "root"), .str (Str.ofString "element")]) = true then _ else _
      rw [hno]
      refine iteT ?_
      have n1 := hn.keep (same_new htq (o := .tup [.str (Str.ofString "root"), .str (Str.ofString "element")]))
      refine ⟨_, rfl, x, CNd K, dx, _, _, 8, r.tx, rfl, n1.slt, scl_N T, slt_text T, rfl, ?_⟩
      rw [htx]
      exact k _ (same_new htq)
end
end PX
/-! EXi -/
namespace PX
open PySem PySem.Spec PyProof.Rows L2 TL
section
variable {P : Program} {w : World} {K : PySem.W.Frag} {mg : Str → Option Value} {base : Heap}
def spSA (K : PySem.W.Frag) : Sp := fun vs H Q _ => ∃ (t a : Addr) (ks : List DN) (ts : List PT) (q : PN), vs = [.ref t, .ref a] ∧ TrAt K H t ks ∧ H a = some (.tup (ts.map PT.v)) ∧ inP (.rt ks) ts = some q ∧ (svP q).length ≤ 1000000 ∧ ∀ H', Same H H' → Q (.str (mkS (svP q))) H'
theorem ok_string_at (T : Tx w K mg) : Ok P w K mg base CX0 4 (He.fAd K d_string_at.at_) p_string_at (spSA K) := by
  obtain ⟨fd, F⟩ := f_string_at T
  obtain ⟨fV, GV, bV, kV⟩ := ok_string_value (P := P) (base := base) T
  obtain ⟨fN, GN, bN, kN⟩ := ok_node_at (P := P) (base := base) T
  refine ⟨fd, ?_, b_string_at F, F.kp⟩
  refine F.ok sc_string_at (fun vs H Q E h => ?_) (fun cdv A outer s H vs Q E hr h => ?_)
  · obtain ⟨t, a, ks, ts, q, rfl, _⟩ := h
    rfl
  · obtain ⟨t, a, ks, ts, q, rfl, ht, ha, hq, hl, k⟩ := h
    have nd := sc_string_at.nd
    refine ⟨_, PSs.nox (pss_one ((ps_ret ((pe_call (E := E0) GV (hr.mono (by omega)) (by rfl) (g_string_value T) kV bV .nil pass0 (pa_cons ((pe_call (E := E0) GN (hr.mono (by omega)) (by rfl) (g_node_at T) kN bN .nil pass0 (pa_cons (pv 0) (pa_cons (pv 1) pa_nil)))) pa_nil)))))), ?_⟩
    obtain ⟨dx, p, o, x, rdx, rA, rC, cs, ls, h1, h2, h3, h4, h5, h6⟩ := ht
    have hx : AtP K H o (x :: ls) (laR ks) x (.rt ks) := ⟨rdx, rA, rC, cs, ls, h3, rfl, rfl⟩
    have hT : TrF K H o (x :: ls) (laR ks) t := ⟨dx, x, p, h1, h2, h4, h6⟩
    refine ⟨_, rfl, _, rfl, o, x :: ls, laR ks, t, dx, p, x, a, ks, ts, q, rfl, h1, hx, ha, hq, fun H2 c s2 hc => ?_⟩
    exact ⟨o, x :: ls, laR ks, t, c, q, rfl, hT.keep s2, hc, hl, fun H3 s3 => k H3 (s2.trans s3)⟩
end
end PX
/-! EXj -/
namespace PX
open PySem PySem.Spec PyProof.Rows L2 TL
/-! ### signs that are written otherwise -/
def amF (c : Nat) : List Nat := if c = 38 then [38, 97, 109, 112, 59] else if c = 60 then [38, 108, 116, 59] else if c = 34 then [38, 113, 117, 111, 116, 59] else if c = 9 then [38, 35, 57, 59] else if c = 10 then [38, 35, 49, 48, 59] else [c]
def txF (c : Nat) : List Nat := if c = 38 then [38, 97, 109, 112, 59] else if c = 60 then [38, 108, 116, 59] else if c = 62 then [38, 103, 116, 59] else [c]
def rp1 (k : Nat) (z : List Nat) (d : Nat) : List Nat := if d = k then z else [d]
theorem am_seq (l : List Nat) : ((((l.flatMap (rp1 38 [38, 97, 109, 112, 59])).flatMap (rp1 60 [38, 108, 116, 59])).flatMap (rp1 34 [38, 113, 117, 111, 116, 59])).flatMap (rp1 9 [38, 35, 57, 59])).flatMap (rp1 10 [38, 35, 49, 48, 59]) = l.flatMap amF := by
  rw [List.flatMap_assoc, List.flatMap_assoc, List.flatMap_assoc, List.flatMap_assoc]
  congr 1
  funext c
  unfold amF
  by_cases h1 : c = 38
  · subst h1; decide
  by_cases h2 : c = 60
  · subst h2; decide
  by_cases h3 : c = 34
  · subst h3; decide
  by_cases h4 : c = 9
  · subst h4; decide
  by_cases h5 : c = 10
  · subst h5; decide
  simp [rp1, h1, h2, h3, h4, h5]
theorem tx_seq (l : List Nat) : ((l.flatMap (rp1 38 [38, 97, 109, 112, 59])).flatMap (rp1 60 [38, 108, 116, 59])).flatMap (rp1 62 [38, 103, 116, 59]) = l.flatMap txF := by
  rw [List.flatMap_assoc, List.flatMap_assoc]
  congr 1
  funext c
  unfold txF
  by_cases h1 : c = 38
  · subst h1; decide
  by_cases h2 : c = 60
  · subst h2; decide
  by_cases h3 : c = 62
  · subst h3; decide
  simp [rp1, h1, h2, h3]
theorem rp_len (k : Nat) (z l : List Nat) (hz : 1 ≤ z.length) : (l.flatMap (rp1 k z)).length ≤ l.length * z.length := by
  induction l with
  | nil => simp
  | cons c l ih =>
    rw [List.flatMap_cons, List.length_append, List.length_cons, Nat.add_mul, Nat.one_mul]
    have : (rp1 k z c).length ≤ z.length := by
      unfold rp1
      split
      · exact Nat.le_refl _
      · exact hz
    omega
theorem pst_set {X : Cx} {pos : Pos} {i : Nat} {x : Str} {e : Expr} {te : TE} {pos' : Pos} (hN : X.N.Nodup) (hi : X.N[i]? = some x) (hx : L2.Loc X.env.scope x) (he : PET X e te)
    (hs : swapsWith e (some (.Name x pos')) pos.line X.env = pure false := by rfl) (hf : X.fn x = true ∨ X.env.scope.names.lookup x = some NameKind.local := by first | exact .inr rfl | exact .inl rfl) : PST X (.Assign [.Name x pos'] e pos) (tAsg te (gName i)) :=
  fun pins s σ H D ht I h => wpAny_Assign_Name (thn (he pins s σ H (fun x H1 => gName i x σ H1 D.nx) ht I h) fun v s1 ⟨y, H1, I1, r1, q1⟩ => store_ok I1 hN hi hx r1 (fun s2 I2 => ⟨σ.set i (some y), H1, I2, q1⟩) hf) hs
section
variable {P : Program} {w : World} {K : PySem.W.Frag} {mg : Str → Option Value} {base : Heap}
def spAM : Sp := fun vs H Q _ => ∃ t : List Nat, vs = [.str (mkS t)] ∧ t.length ≤ 2000 ∧ ∀ H', Same H H' → Q (.str (mkS (t.flatMap amF))) H'
theorem ok_attribute_markup (T : Tx w K mg) : Ok P w K mg base CX0 1 (He.fAd K d_attribute_markup.at_) p_attribute_markup spAM := by
  obtain ⟨fd, F⟩ := f_attribute_markup T
  refine ⟨fd, ?_, b_attribute_markup F, F.kp⟩
  refine okT F sc_attribute_markup (by decide +kernel) (by decide) (fun vs H Q E h => ?_) (fun cdv A outer s H vs Q E hr h => ?_)
  · obtain ⟨t, rfl, _⟩ := h
    rfl
  · obtain ⟨t, rfl, hl, k⟩ := h
    have nd := sc_attribute_markup.nd
    refine ⟨_, psst_nox (psst_cons (pst_set (i := 0) nd rfl (.inl rfl) (CwR.pet_replT (CwR.pet_replT (CwR.pet_replC (pv 0))))) (psst_cons (CwR.pst_ret (CwR.pet_replT (CwR.pet_replC (pv 0)))) (PSsT.of pss_nil))), ?_⟩
    have r38 : ∀ l : List Nat, Txt.replace (mkS l) (Str.ofString "&") (Str.ofString "&amp;") = mkS (l.flatMap (rp1 38 [38, 97, 109, 112, 59])) := fun l => repl_sg l 38 _
    have r60 : ∀ l : List Nat, Txt.replace (mkS l) (Str.ofString "<") (Str.ofString "&lt;") = mkS (l.flatMap (rp1 60 [38, 108, 116, 59])) := fun l => repl_sg l 60 _
    have r34 : ∀ l : List Nat, Txt.replace (mkS l) (Str.ofString "\"") (Str.ofString "&quot;") = mkS (l.flatMap (rp1 34 [38, 113, 117, 111, 116, 59])) := fun l => repl_sg l 34 _
    have r9 : ∀ l : List Nat, Txt.replace (mkS l) (Str.ofString "\t") (Str.ofString "&#9;") = mkS (l.flatMap (rp1 9 [38, 35, 57, 59])) := fun l => repl_sg l 9 _
    have r10 : ∀ l : List Nat, Txt.replace (mkS l) (Str.ofString "\n") (Str.ofString "&#10;") = mkS (l.flatMap (rp1 10 [38, 35, 49, 48, 59])) := fun l => repl_sg l 10 _
    have h38 := rp_len 38 [38, 97, 109, 112, 59] t (by decide)
    have h60 := rp_len 60 [38, 108, 116, 59] (t.flatMap (rp1 38 [38, 97, 109, 112, 59])) (by decide)
    have h34 := rp_len 34 [38, 113, 117, 111, 116, 59] ((t.flatMap (rp1 38 [38, 97, 109, 112, 59])).flatMap (rp1 60 [38, 108, 116, 59])) (by decide)
    have h9 := rp_len 9 [38, 35, 57, 59] (((t.flatMap (rp1 38 [38, 97, 109, 112, 59])).flatMap (rp1 60 [38, 108, 116, 59])).flatMap (rp1 34 [38, 113, 117, 111, 116, 59])) (by decide)
    simp only [List.length_cons, List.length_nil] at h38 h60 h34 h9
    have bd : ∀ (l : List Nat) (n : Nat) (y : Str), l.length ≤ 960000 → y.length ≤ 6 → (l.length ≤ 960000 → l.length + (l.length + 1) * y.length ≤ 16777216) → (mkS l).length + ((mkS l).length + 1) * y.length ≤ 16777216 := fun l n y h1 h2 h3 => by rw [mkS_len]; exact h3 h1
    refine ⟨_, rfl, _, rfl, (by rw [mkS_len]; show _ + _ * 5 ≤ _; omega), ?_⟩
    rw [r38]
    refine ⟨_, rfl, (by rw [mkS_len]; show _ + _ * 4 ≤ _; omega), ?_⟩
    rw [r60]
    refine ⟨_, rfl, (by rw [mkS_len]; show _ + _ * 6 ≤ _; omega), ?_⟩
    rw [r34]
    refine ⟨_, rfl, _, rfl, (by rw [mkS_len]; show _ + _ * 4 ≤ _; omega), ?_⟩
    rw [r9]
    refine ⟨_, rfl, (by rw [mkS_len]; show _ + _ * 5 ≤ _; omega), ?_⟩
    rw [r10, am_seq]
    exact k _ (Same.refl _)
end
end PX
/-! EXk -/
namespace PX
open PySem PySem.Spec PyProof.Rows L2 TL
/-! ### markup, plain -/
def atM (q : List Nat × List Nat) : List Nat := 32 :: (q.1 ++ ([61, 34] ++ (q.2.flatMap amF ++ [34])))
def tgM (nm : List Nat) (at_ : List (List Nat × List Nat)) (e : List Nat) : List Nat := 60 :: (nm ++ (at_.flatMap atM ++ e))
def inM (nm : Option (List Nat)) (t : List Nat) : List Nat := [60, 63] ++ (nm.getD [] ++ (if t = [] then [63, 62] else 32 :: (t ++ [63, 62])))
mutual
def mkN : DN → List Nat
  | .lf k nm t => if k = 0 then t.flatMap txF else if k = 1 then [60, 33, 45, 45] ++ (t ++ [45, 45, 62]) else inM nm t
  | .el nm at_ ks => if ks = [] then tgM nm at_ [47, 62] else tgM nm at_ [62] ++ (mkK ks ++ ([60, 47] ++ (nm ++ [62])))
def mkK : List DN → List Nat
  | [] => []
  | d :: ds => mkN d ++ mkK ds
end
mutual
def bdN : DN → Prop
  | .lf k nm t => t.length ≤ 2000 ∧ (nm.getD []).length ≤ 2000 ∧ (2 ≤ k → nm ≠ none)
  | .el nm at_ ks => nm.length ≤ 2000 ∧ (∀ q ∈ at_, q.1.length ≤ 2000 ∧ q.2.length ≤ 2000) ∧ at_.length ≤ 100 ∧ bdK ks
def bdK : List DN → Prop
  | [] => True
  | d :: ds => bdN d ∧ bdK ds
end
theorem cat_len (a b : Str) : (a ++ b).length = a.length + b.length := Array.size_append
theorem emp_cat (b : Str) : Str.empty ++ b = b := cat_mk [] (tl b)
section
variable {P : Program} {w : World} {K : PySem.W.Frag} {mg : Str → Option Value} {base : Heap}
/-- a node that may stand above a text -/
def ParOk (K : PySem.W.Frag) (H : Hp) (b : Addr) : Prop := ∃ dx r kd, NdA K H b dx r ∧ r.kind = .str kd ∧ (kd = ("element" : Str) → ∃ s, r.nm = .str s)
def spTM (K : PySem.W.Frag) : Sp := fun vs H Q _ => ∃ (x a b dx : Addr) (r : NR) (t : List Nat), vs = [.ref x, .ref a] ∧ NdA K H x dx r ∧ r.tx = .str (mkS t) ∧ r.par = .ref b ∧ ParOk K H b ∧ H a = some (.tup []) ∧ t.length ≤ 2000 ∧ ∀ H', Same H H' → Q (.str (mkS (t.flatMap txF))) H'
theorem ok_text_markup (T : Tx w K mg) : Ok P w K mg base CX0 1 (He.fAd K d_text_markup.at_) p_text_markup (spTM K) := by
  obtain ⟨fd, F⟩ := f_text_markup T
  refine ⟨fd, ?_, b_text_markup F, F.kp⟩
  refine okT F sc_text_markup (by decide +kernel) (by decide) (fun vs H Q E h => ?_) (fun cdv A outer s H vs Q E hr h => ?_)
  · obtain ⟨x, a, b, dx, r, t, rfl, _⟩ := h
    rfl
  · obtain ⟨x, a, b, dx, r, t, rfl, hn, htx, hpar, ⟨dxb, rb, kb, nb, ekb, enb⟩, ha, hl, k⟩ := h
    have nd := sc_text_markup.nd
    refine ⟨_, psst_nox (psst_cons (PST.of (ps_if ((pw_and (pt_cmpR op_eq (SlX.pe_sl (SlX.pe_sl (pv 0))) (pe_str) (nomark _)) (pw_and1 (pt_cmpR op_in_seq (SlX.pe_sl (SlX.pe_sl (pv 0))) (pv 1) (by rfl)))).pt) pss_no pss_nil)) (psst_cons (CwR.pst_ret (CwR.pet_replT (CwR.pet_replT (CwR.pet_replC (SlX.pe_sl (pv 0)))))) (PSsT.of pss_nil))), ?_⟩
    have r38 : ∀ l : List Nat, Txt.replace (mkS l) (Str.ofString "&") (Str.ofString "&amp;") = mkS (l.flatMap (rp1 38 [38, 97, 109, 112, 59])) := fun l => repl_sg l 38 _
    have r60 : ∀ l : List Nat, Txt.replace (mkS l) (Str.ofString "<") (Str.ofString "&lt;") = mkS (l.flatMap (rp1 60 [38, 108, 116, 59])) := fun l => repl_sg l 60 _
    have r62 : ∀ l : List Nat, Txt.replace (mkS l) (Str.ofString ">") (Str.ofString "&gt;") = mkS (l.flatMap (rp1 62 [38, 103, 116, 59])) := fun l => repl_sg l 62 _
    have h38 := rp_len 38 [38, 97, 109, 112, 59] t (by decide)
    have h60 := rp_len 60 [38, 108, 116, 59] (t.flatMap (rp1 38 [38, 97, 109, 112, 59])) (by decide)
    simp only [List.length_cons, List.length_nil] at h38 h60
    have tail : ∀ {Q2 : V → Hp → Prop}, (∀ H', Same H H' → Q2 (.str (mkS (t.flatMap txF))) H') → CwR.tReplC (CwR.tReplC (CwR.tReplC (SlX.tSl K (tVar 0) (Str.ofString "text")) (Str.ofString "&") (Str.ofString "&amp;")) (Str.ofString "<") (Str.ofString "&lt;")) (Str.ofString ">") (Str.ofString "&gt;") [some (.ref x), some (.ref a)] H Q2 := by
      intro Q2 kk
      refine ⟨_, rfl, x, CNd K, dx, _, _, 8, .str (mkS t), rfl, hn.slt, scl_N T, slt_text T, (by show some (some r.tx) = _; rw [htx]), ?_⟩
      refine ⟨_, rfl, (by rw [mkS_len]; show _ + _ * 5 ≤ _; omega), ?_⟩
      rw [r38]
      refine ⟨_, rfl, (by rw [mkS_len]; show _ + _ * 4 ≤ _; omega), ?_⟩
      rw [r60]
      refine ⟨_, rfl, (by rw [mkS_len]; show _ + _ * 4 ≤ _; omega), ?_⟩
      rw [r62, tx_seq]
      exact kk _ (Same.refl _)
    refine ⟨_, rfl, x, CNd K, dx, _, _, 6, .ref b, rfl, hn.slt, scl_N T, slt_parent T, (by show some (some r.par) = _; rw [hpar]), b, CNd K, dxb, _, _, 3, .str kb, rfl, nb.slt, scl_N T, slt_kind T, (by show some (some rb.kind) = _; rw [ekb]), rfl, _, rfl, ?_⟩
    show if decide (V.str kb = V.str (Str.ofString "element")) = true then _ else _
    cases hk : decide (V.str kb = V.str (Str.ofString "element")) with
    | false =>
      refine iteF ?_
      exact tail k
    | true =>
      refine iteT ?_
      obtain ⟨s0, hs0⟩ := enb (V.str.inj (of_decide_eq_true hk))
      refine ⟨_, rfl, x, CNd K, dx, _, _, 6, .ref b, rfl, hn.slt, scl_N T, slt_parent T, (by show some (some r.par) = _; rw [hpar]), b, CNd K, dxb, _, _, 4, .str s0, rfl, nb.slt, scl_N T, slt_name T, (by show some (some rb.nm) = _; rw [hs0]), _, rfl, a, _, rfl, .inr (SqT.of ha), rfl, rfl, ?_⟩
      rw [if_neg Bool.false_ne_true]
      refine ⟨_, rfl, ?_⟩
      refine iteF ?_
      exact tail k
def spIM (K : PySem.W.Frag) : Sp := fun vs H Q _ => ∃ (x dx : Addr) (r : NR) (nm t : List Nat), vs = [.ref x] ∧ NdA K H x dx r ∧ r.tx = .str (mkS t) ∧ r.nm = .str (mkS nm) ∧ nm.length ≤ 2000 ∧ t.length ≤ 2000 ∧ Q (.str (mkS (inM (some nm) t))) H
theorem ok_instruction_markup (T : Tx w K mg) : Ok P w K mg base CX0 1 (He.fAd K d_instruction_markup.at_) p_instruction_markup (spIM K) := by
  obtain ⟨fd, F⟩ := f_instruction_markup T
  refine ⟨fd, ?_, b_instruction_markup F, F.kp⟩
  refine F.ok sc_instruction_markup (fun vs H Q E h => ?_) (fun cdv A outer s H vs Q E hr h => ?_)
  · obtain ⟨x, dx, r, nm, t, rfl, _⟩ := h
    rfl
  · obtain ⟨x, dx, r, nm, t, rfl, hn, htx, hnm, l1, l2, k⟩ := h
    refine ⟨_, PSs.nox (pss_cons ((ps_if ((pt_cmpR op_eq (SlX.pe_sl (pv 0)) (pe_str) (nomark _))) (pss_one ((ps_ret (pe_joined (PJ.cons pe_str (PJ.cons (pe_fmt (SlX.pe_sl (pv 0))) (PJ.cons pe_str PJ.nil))))))) pss_nil)) (pss_one ((ps_ret (pe_joined (PJ.cons pe_str (PJ.cons (pe_fmt (SlX.pe_sl (pv 0))) (PJ.cons pe_str (PJ.cons (pe_fmt (SlX.pe_sl (pv 0))) (PJ.cons pe_str PJ.nil)))))))))), ?_⟩
    refine ⟨_, rfl, x, CNd K, dx, _, _, 8, .str (mkS t), rfl, hn.slt, scl_N T, slt_text T, (by show some (some r.tx) = _; rw [htx]), rfl, _, rfl, ?_⟩
    show if decide (V.str (mkS t) = V.str (Str.ofString "")) = true then _ else _
    rw [dec_str, tl_mkS]
    have k2 : ∀ {y : Str}, y = mkS (inM (some nm) t) → Q (.str y) H := fun e => by rw [e]; exact k
    have lt2 : (Str.ofString "<?").length = 2 := rfl
    have lg2 : (Str.ofString "?>").length = 2 := rfl
    have lsp : (Str.ofString " ").length = 1 := rfl
    have le0 : Str.empty.length = 0 := rfl
    show if decide (t = []) = true then _ else _
    by_cases h0 : t = []
    · refine iteT ?_ (decide_eq_true h0)
      refine ⟨_, rfl, (by rw [cat_len, sizeLine_eq, le0, lt2]; omega), _, rfl, x, CNd K, dx, _, _, 4, .str (mkS nm), rfl, hn.slt, scl_N T, slt_name T, (by show some (some r.nm) = _; rw [hnm]), .inl ⟨_, rfl, (by rw [mkS_len, sizeLine_eq]; omega), ?_⟩⟩
      refine ⟨_, rfl, (by rw [cat_len, cat_len, mkS_len, sizeLine_eq, le0, lt2]; omega), _, rfl, (by rw [cat_len, cat_len, cat_len, mkS_len, sizeLine_eq, le0, lt2, lg2]; omega), ?_⟩
      refine k2 ?_
      unfold inM
      rw [if_pos h0, emp_cat]
      show mkS [60, 63] ++ mkS nm ++ mkS [63, 62] = _
      rw [cat_mk, cat_mk, List.append_assoc]
      rfl
    · refine iteF ?_ (decide_eq_false h0)
      refine ⟨_, rfl, (by rw [cat_len, sizeLine_eq, le0, lt2]; omega), _, rfl, x, CNd K, dx, _, _, 4, .str (mkS nm), rfl, hn.slt, scl_N T, slt_name T, (by show some (some r.nm) = _; rw [hnm]), .inl ⟨_, rfl, (by rw [mkS_len, sizeLine_eq]; omega), ?_⟩⟩
      refine ⟨_, rfl, (by rw [cat_len, cat_len, mkS_len, sizeLine_eq, le0, lt2]; omega), _, rfl, (by rw [cat_len, cat_len, cat_len, mkS_len, sizeLine_eq, le0, lt2, lsp]; omega), ?_⟩
      refine ⟨_, rfl, x, CNd K, dx, _, _, 8, .str (mkS t), rfl, hn.slt, scl_N T, slt_text T, (by show some (some r.tx) = _; rw [htx]), .inl ⟨_, rfl, (by rw [mkS_len, sizeLine_eq]; omega), ?_⟩⟩
      refine ⟨_, rfl, (by rw [cat_len, cat_len, cat_len, cat_len, mkS_len, mkS_len, sizeLine_eq, le0, lt2, lsp]; omega), _, rfl, (by rw [cat_len, cat_len, cat_len, cat_len, cat_len, mkS_len, mkS_len, sizeLine_eq, le0, lt2, lsp, lg2]; omega), ?_⟩
      refine k2 ?_
      unfold inM
      rw [if_neg h0, emp_cat]
      show mkS [60, 63] ++ mkS nm ++ mkS [32] ++ mkS t ++ mkS [63, 62] = _
      rw [cat_mk, cat_mk, cat_mk, cat_mk]
      congr 1
      simp
end
end PX
/-! EXl -/
namespace PX
open PySem PySem.Spec PyProof.Rows L2 TL
theorem amF_len (c : Nat) : (amF c).length ≤ 6 := by
  unfold amF
  repeat' split
  all_goals simp
theorem am_len (l : List Nat) : (l.flatMap amF).length ≤ 6 * l.length := by
  induction l with
  | nil => simp
  | cons c l ih =>
    rw [List.flatMap_cons, List.length_append, List.length_cons]
    have := amF_len c
    omega
theorem atM_len {q : List Nat × List Nat} (h : q.1.length ≤ 2000 ∧ q.2.length ≤ 2000) : (atM q).length ≤ 14010 := by
  have := am_len q.2
  unfold atM
  simp only [List.length_cons, List.length_append, List.length_nil]
  omega
theorem ats_len {at_ : List (List Nat × List Nat)} (h : ∀ q ∈ at_, q.1.length ≤ 2000 ∧ q.2.length ≤ 2000) : ((at_.map atM).flatten).length ≤ at_.length * 14010 := by
  induction at_ with
  | nil => simp
  | cons q at_ ih =>
    rw [List.map_cons, List.flatten_cons, List.length_append, List.length_cons]
    have h1 := atM_len (h q List.mem_cons_self)
    have h2 := ih fun x hx => h x (List.mem_cons_of_mem _ hx)
    omega
section
variable {P : Program} {w : World} {K : PySem.W.Frag} {mg : Str → Option Value} {base : Heap}
def spTO (K : PySem.W.Frag) : Sp := fun vs H Q _ => ∃ (o : Og) (x dx par : Addr) (r : NR) (nm e : List Nat) (as : List Addr) (at_ : List (List Nat × List Nat)), vs = [.ref x, .str (mkS e)] ∧ NdA K H x dx r ∧ r.nm = .str (mkS nm) ∧ H r.A = some (.lst (refs as)) ∧ AtsAt K o H par as at_ ∧ nm.length ≤ 2000 ∧ e.length ≤ 2 ∧ (∀ q ∈ at_, q.1.length ≤ 2000 ∧ q.2.length ≤ 2000) ∧ at_.length ≤ 100 ∧
  ∀ H', Same H H' → Q (.str (mkS (tgM nm at_ e))) H'
theorem ok_tag_of (T : Tx w K mg) : Ok P w K mg base CX0 2 (He.fAd K d_tag_of.at_) p_tag_of (spTO K) := by
  obtain ⟨fd, F⟩ := f_tag_of T
  obtain ⟨fA, GA, bA, kA⟩ := ok_attribute_markup (P := P) (base := base) T
  refine ⟨fd, ?_, b_tag_of F, F.kp⟩
  refine F.ok sc_tag_of (fun vs H Q E h => ?_) (fun cdv A outer s H vs Q E hr h => ?_)
  · obtain ⟨o, x, dx, par, r, nm, e, as, at_, rfl, _⟩ := h
    rfl
  · obtain ⟨o, x, dx, par, r, nm, e, as, at_, rfl, hn, hnm, hA, hat, l1, l2, l3, l4, k⟩ := h
    have nd := sc_tag_of.nd
    have hu0 := Nat.lt_of_le_of_lt (Nat.le_add_right _ 64) hr.units
    refine ⟨_, PSs.nox (pss_cons ((ps_if ((pt_cmpR (op_eqNil hu0) (SlX.pe_sl (pv 0)) (pe_lst pa_nil) (nomark _))) (pss_one ((ps_ret (pe_op op_add_str (pe_op op_add_str pe_str (SlX.pe_sl (pv 0))) (pv 1))))) pss_nil)) (pss_cons ((ps_setLc (i := 2) (own := [("attribute", 3)]) (g := gName 3) (tt := tYes) (by rfl) nd rfl rfl (sw_true rfl rfl rfl (by decide +kernel)) (pi_list (SlX.pe_sl (pv 0))) (blkOk_by (own := [("attribute", 3)]) (N := N_tag_of) (sc := defScope s_tag_of) (by decide +kernel)) (fun _ _ _ _ _ => pg_name (i := 3) nd rfl (Or.inl rfl)) (fun _ _ _ _ _ => pts_nil) (fun _ _ _ _ _ => pe_joined (PJ.cons pe_str (PJ.cons (pe_fmt (pe_slK (K := K) (pv 3) rfl)) (PJ.cons pe_str (PJ.cons (pe_fmt (pe_call (E := E0) GA (hr.mono (by omega)) (by rfl) (g_attribute_markup T) kA bA .nil pass0 (pa_cons (pe_slK (K := K) (pv 3) rfl) pa_nil))) (PJ.cons pe_str PJ.nil)))))))) (pss_one ((ps_ret (pe_op op_add_str (pe_op op_add_str (pe_op op_add_str pe_str (SlX.pe_sl (pv 0))) (pe_join pe_str (pv 2))) (pv 1))))))), ?_⟩
    refine ⟨_, rfl, x, CNd K, dx, _, _, 0, _, rfl, hn.slt, scl_N T, slt_attributes T, rfl, by decide, fun q hq => ?_⟩
    have s1 := same_new hq (o := .lst [])
    have n1 := hn.keep s1
    have hlen := hat.len
    have lt1 : (Str.ofString "<").length = 1 := rfl
    refine ⟨r.A, q, refs as, rfl, rfl, SqL.of (s1 _ _ hA), SqL.of upd_same, _, rfl, ?_⟩
    generalize upd H q (.lst []) = H1 at s1 n1 ⊢
    cases as with
    | nil =>
      refine iteT ?_
      have hat0 : at_ = [] := List.eq_nil_of_length_eq_zero hlen.symm
      subst hat0
      refine ⟨_, rfl, x, CNd K, dx, _, _, 4, .str (mkS nm), rfl, n1.slt, scl_N T, slt_name T, (by show some (some r.nm) = _; rw [hnm]), _, _, rfl, rfl, (by rw [mkS_len, sizeLine_eq, lt1]; omega), _, rfl, _, _, rfl, rfl, (by rw [cat_len, mkS_len, mkS_len, sizeLine_eq, lt1]; omega), ?_⟩
      have kk := k _ s1
      have e9 : Str.ofString "<" ++ mkS nm ++ mkS e = mkS (tgM nm [] e) := by
        show mkS [60] ++ mkS nm ++ mkS e = _
        rw [cat_mk, cat_mk]
        unfold tgM
        first | rfl | (congr 1; simp)
      rw [e9]
      exact kk
    | cons c as =>
      refine iteF ?_
      have hA1 := s1 _ _ hA
      refine ⟨_, rfl, x, CNd K, dx, _, _, 0, _, rfl, n1.slt, scl_N T, slt_attributes T, rfl, r.A, rfl, ⟨_, SqL.of hA1⟩, fun D hD => ?_⟩
      refine lc_it (te := fun σ H Q => tJs [tC (V.str (Str.ofString " ")), tFmt (SlX.tSl K (tVar 3) (Str.ofString "name")), tC (V.str (Str.ofString "=\"")), tFmt (tCall spAM [] E0 (tCons (SlX.tSl K (tVar 3) (Str.ofString "text")) tNil)), tC (V.str (Str.ofString "\""))] Str.empty σ H fun out H1 => Q (V.str out) H1) (walk_list (K := K) (a := r.A) (xs := refs (c :: as))) (fun i H7 => Same H1 H7 ∧ H7 D = some (.lst ((at_.take i).map fun q => V.str (mkS (atM q))))) ⟨same_new hD, upd_same⟩ (fun i H7 _ h => SqL.of (h.1 _ _ hA1)) ?_ ?_
      · rintro i v H7 H8 hi ⟨s7, h7⟩ ⟨rfl, hv⟩
        rw [refs_len] at hi
        have hq2 : at_[i]? = some (at_[i]'(by omega)) := List.getElem?_eq_getElem _
        have htk : at_.take (i + 1) = at_.take i ++ [at_[i]'(by omega)] := by
          rw [List.take_succ_eq_append_getElem (by omega)]
        have hmem : (at_[i]'(by omega)) ∈ at_ := List.getElem_mem _
        generalize at_[i]'(by omega) = q2 at hq2 htk hmem
        obtain ⟨b, hb, hab⟩ := at_at hat hq2
        have hv2 : v = .ref b := by
          have h1 : (refs (c :: as))[i]? = some v := hv
          unfold refs at h1
          rw [List.getElem?_map, hb] at h1
          exact (Option.some.inj h1).symm
        subst hv2
        obtain ⟨dxb, Ab, Cb, nb, _⟩ := hab
        have nb7 := nb.keep (s1.trans s7)
        have lq := l3 q2 hmem
        have lam := am_len q2.2
        have l1' : (Str.ofString " ").length = 1 := rfl
        have l2' : (Str.ofString "=\"").length = 2 := rfl
        have l3' : (Str.ofString "\"").length = 1 := rfl
        have le0 : Str.empty.length = 0 := rfl
        refine ⟨rfl, _, rfl, (by rw [cat_len, sizeLine_eq, le0, l1']; omega), ?_⟩
        refine ⟨_, rfl, b, CNd K, dxb, _, _, 4, _, rfl, nb7.slt, scl_N T, slt_name T, rfl, .inl ⟨_, rfl, (by rw [mkS_len, sizeLine_eq]; omega), _, rfl, (by rw [cat_len, cat_len, mkS_len, sizeLine_eq, le0, l1']; omega), ?_⟩⟩
        refine ⟨_, rfl, (by rw [cat_len, cat_len, cat_len, mkS_len, sizeLine_eq, le0, l1', l2']; omega), ?_⟩
        refine ⟨_, rfl, b, CNd K, dxb, _, _, 8, _, rfl, nb7.slt, scl_N T, slt_text T, rfl, q2.2, rfl, lq.2, fun H8 s8 => ?_⟩
        refine .inl ⟨_, rfl, (by rw [mkS_len, sizeLine_eq]; omega), _, rfl, (by rw [cat_len, cat_len, cat_len, cat_len, mkS_len, mkS_len, sizeLine_eq, le0, l1', l2']; omega), ?_⟩
        refine ⟨_, rfl, (by rw [cat_len, cat_len, cat_len, cat_len, cat_len, mkS_len, mkS_len, sizeLine_eq, le0, l1', l2', l3']; omega), ?_⟩
        have e9 : Str.empty ++ Str.ofString " " ++ mkS q2.1 ++ Str.ofString "=\"" ++ mkS (q2.2.flatMap amF) ++ Str.ofString "\"" = mkS (atM q2) := by
          rw [emp_cat]
          show mkS [32] ++ mkS q2.1 ++ mkS [61, 34] ++ mkS (q2.2.flatMap amF) ++ mkS [34] = _
          rw [cat_mk, cat_mk, cat_mk, cat_mk]
          unfold atM
          congr 1
          simp
        refine ⟨_, s8 _ _ h7, ?_, same_upd0 (s7.trans s8) hD, ?_⟩
        · rw [List.length_map, List.length_take, sizeLine_eq]
          omega
        · rw [upd_same, htk, List.map_append, e9]
          rfl
      · rintro H7 ⟨s7, h7⟩
        rw [refs_len, hlen, List.take_length] at h7
        have n7 := n1.keep s7
        refine ⟨_, rfl, x, CNd K, dx, _, _, 4, .str (mkS nm), rfl, n7.slt, scl_N T, slt_name T, (by show some (some r.nm) = _; rw [hnm]), _, _, rfl, rfl, (by rw [mkS_len, sizeLine_eq, lt1]; omega), ?_⟩
        refine ⟨⟨_, rfl⟩, _, rfl, _, D, (at_.map atM).map mkS, rfl, rfl, .inl (SqL.of (by rw [h7, List.map_map, List.map_map]; rfl)), ?_, ?_⟩
        · have e0 : (Str.ofString "").length = 0 := rfl
          have e1 : (((at_.map atM).map mkS).map (·.length)).sum = ((at_.map atM).flatten).length := by
            rw [List.length_flatten, List.map_map]
            exact congrArg List.sum (List.map_congr_left fun t _ => mkS_len t)
          rw [e0, e1]
          have := ats_len l3
          omega
        · rw [join_tx]
          have hal := ats_len l3
          refine ⟨_, _, rfl, rfl, (by rw [cat_len, mkS_len, mkS_len, sizeLine_eq, lt1]; omega), _, rfl, _, _, rfl, rfl, (by rw [cat_len, cat_len, mkS_len, mkS_len, mkS_len, sizeLine_eq, lt1]; omega), ?_⟩
          have e9 : Str.ofString "<" ++ mkS nm ++ mkS (at_.map atM).flatten ++ mkS e = mkS (tgM nm at_ e) := by
            show mkS [60] ++ mkS nm ++ mkS (at_.map atM).flatten ++ mkS e = _
            rw [cat_mk, cat_mk, cat_mk]
            unfold tgM
            rw [List.flatMap_def]
            congr 1
            simp
          rw [e9]
          exact k _ (s1.trans s7)
end
end PX
/-! EXm -/
namespace PX
open PySem PySem.Spec PyProof.Rows L2 TL
theorem call_isi2 {X : Cx} (u : Value) : CallR X (.builtin "isinstance") (fun xs H Q => rIsi X.K xs H Q ∨ SlX.rIsiSl X.K u xs H Q) := fun pins s σ H xs us Q I v h => h.elim (fun h => call_isi pins s σ H xs us Q I v h) (fun h => SlX.call_isiSl u pins s σ H xs us Q I v h)
inductive WM (K : PySem.W.Frag) (H : Hp) : List V → List Nat → Nat → Prop
  | nil : WM K H [] [] 0
  | str {s : List Nat} {ws : List V} {out : List Nat} {n : Nat} (h1 : s.length ≤ 3000) (h2 : WM K H ws out n) : WM K H (.str (mkS s) :: ws) (s ++ out) (n + 1)
  | node {o : Og} {par : Addr} {i : Nat} {a : Addr} {d : DN} {l : List Addr} {ws : List V} {out : List Nat} {n : Nat} (h1 : NodeAt K o H par i a d l) (h2 : ParOk K H par) (h3 : bdN d) (h4 : WM K H ws out n) : WM K H (.ref a :: ws) (mkN d ++ out) (n + 2 * szN d)
section
variable {K : PySem.W.Frag} {H : Hp}
theorem WM.len {ws : List V} {out : List Nat} {n : Nat} (h : WM K H ws out n) : ws.length ≤ n := by
  induction h with
  | nil => exact Nat.le_refl _
  | str h1 h2 ih => simp only [List.length_cons]; omega
  | @node o par i a d l ws out n h1 h2 h3 h4 ih =>
    have := szN_pos d
    simp only [List.length_cons]
    omega
theorem ParOk.keep {H' : Hp} (s : Same H H') {b : Addr} (h : ParOk K H b) : ParOk K H' b := by
  obtain ⟨dx, r, kd, h1, h2⟩ := h
  exact ⟨dx, r, kd, h1.keep s, h2⟩
theorem kids_wm {o : Og} {par : Addr} (hp : ParOk K H par) : ∀ {ks : List DN} {i : Nat} {cs ls : List Addr} {ws : List V} {out : List Nat} {n : Nat}, KidsAt K o H par i cs ks ls → bdK ks → WM K H ws out n → WM K H (refs cs ++ ws) (mkK ks ++ out) (n + 2 * szK ks)
  | [], i, cs, ls, ws, out, n, h, _, w => by
    rw [KidsAt] at h
    rw [h.1, mkK, szK]
    exact w
  | d :: ks, i, cs, ls, ws, out, n, h, hb, w => by
    rw [KidsAt] at h
    obtain ⟨c, cs', l, ls', rfl, rfl, h3, h4⟩ := h
    rw [bdK] at hb
    have := kids_wm hp h4 hb.2 w
    rw [mkK, szK, List.append_assoc]
    have e : n + 2 * (szN d + szK ks) = (n + 2 * szK ks) + 2 * szN d := by omega
    rw [e]
    exact .node h3 hp hb.1 this
end
section
variable {P : Program} {w : World} {K : PySem.W.Frag} {mg : Str → Option Value} {base : Heap}
theorem sIsi_N (T : Tx w K mg) : SlX.SIsi K (CNd K) := by
  obtain ⟨i1, i2, i3, i4, _, _⟩ := inst_all (x_in_Node T)
  exact ⟨i1, i2, i3, i4⟩
def spMO (K : PySem.W.Frag) : Sp := fun vs H Q _ => ∃ (C a : Addr) (ws : List V) (out : List Nat) (n : Nat), vs = [.ref C, .ref a] ∧ H C = some (.lst ws) ∧ H a = some (.tup []) ∧ WM K H ws out n ∧ n ≤ 2000000 ∧ out.length ≤ 16000000 ∧ ∀ H', Same H H' → Q (.str (mkS out)) H'
theorem ok_markup_of (T : Tx w K mg) : Ok P w K mg base CX0 3 (He.fAd K d_markup_of.at_) p_markup_of (spMO K) := by
  obtain ⟨fd, F⟩ := f_markup_of T
  obtain ⟨fG, GG, bG, kG⟩ := ok_tag_of (P := P) (base := base) T
  obtain ⟨fX, GX, bX, kX⟩ := ok_text_markup (P := P) (base := base) T
  obtain ⟨fI, GI, bI, kI⟩ := ok_instruction_markup (P := P) (base := base) T
  refine ⟨fd, ?_, b_markup_of F, F.kp⟩
  refine F.ok sc_markup_of (fun vs H Q E h => ?_) (fun cdv A outer s H vs Q E hr h => ?_)
  · obtain ⟨C, a, ws, out, n, rfl, _⟩ := h
    rfl
  · obtain ⟨C, a, ws, out, n, rfl, hC, ha, hw, hn, hout, k⟩ := h
    have nd := sc_markup_of.nd
    have hu0 := Nat.lt_of_le_of_lt (Nat.le_add_right _ 64) hr.units
    refine ⟨_, PSs.nox (pss_cons (ps_set (i := 2) nd rfl (.inl rfl) (pe_lst pa_nil)) (pss_cons (ps_set (i := 3) nd rfl (.inl rfl) (pe_revL (pv 0))) (pss_cons (ps_while PassesOwn.never (pt_truth (pv 3) (by intro _; rfl)) (pss_cons (ps_set (i := 4) nd rfl (.inl rfl) (pe_bm0 PySem.F.plainAttrs_list PySem.F.slot_list_pop PySem.F.type_list_pop mt_pop (pv 3))) (pss_one ((ps_if ((pt_val (pe_callB (call_isi2 (.type "str")) (by rfl) (n_isinstance T) boot_isinstance (pa_cons (pv 4) (pa_cons (pe_bltn (v := .ty "str") (by rfl) (n_str T) boot_str rfl) pa_nil))))) (pss_one (ps_expr (pe_bm PySem.F.plainAttrs_list PySem.F.slot_list_append PySem.F.type_list_append mt_append (pv 2) (pa_cons (pv 4) pa_nil)))) (pss_one ((ps_if ((pt_cmpR op_eq (SlX.pe_sl (pv 4)) (pe_str) (nomark _))) (pss_one ((ps_if ((pt_cmpR (op_eqNil hu0) (SlX.pe_sl (pv 4)) (pe_lst pa_nil) (nomark _))) (pss_one (ps_expr (pe_bm PySem.F.plainAttrs_list PySem.F.slot_list_append PySem.F.type_list_append mt_append (pv 2) (pa_cons ((pe_call (E := E0) GG (hr.mono (by omega)) (by rfl) (g_tag_of T) kG bG .nil pass0 (pa_cons (pv 4) (pa_cons (pe_str) pa_nil)))) pa_nil)))) (pss_cons (ps_expr (pe_bm PySem.F.plainAttrs_list PySem.F.slot_list_append PySem.F.type_list_append mt_append (pv 2) (pa_cons ((pe_call (E := E0) GG (hr.mono (by omega)) (by rfl) (g_tag_of T) kG bG .nil pass0 (pa_cons (pv 4) (pa_cons (pe_str) pa_nil)))) pa_nil))) (pss_cons (ps_expr (pe_bm PySem.F.plainAttrs_list PySem.F.slot_list_append PySem.F.type_list_append mt_append (pv 3) (pa_cons (pe_joined (PJ.cons pe_str (PJ.cons (pe_fmt (SlX.pe_sl (pv 4))) (PJ.cons pe_str PJ.nil)))) pa_nil))) (pss_one (ps_expr (pe_bm PySem.F.plainAttrs_list PySem.F.slot_list_extend PySem.F.type_list_extend mt_extend (pv 3) (pa_cons (pe_revL (SlX.pe_sl (pv 4))) pa_nil))))))))) (pss_one ((ps_if ((pt_cmpR op_eq (SlX.pe_sl (pv 4)) (pe_str) (nomark _))) (pss_one (ps_expr (pe_bm PySem.F.plainAttrs_list PySem.F.slot_list_append PySem.F.type_list_append mt_append (pv 2) (pa_cons ((pe_call (E := E0) GX (hr.mono (by omega)) (by rfl) (g_text_markup T) kX bX .nil pass0 (pa_cons (pv 4) (pa_cons (pv 1) pa_nil)))) pa_nil)))) (pss_one ((ps_if ((pt_cmpR op_eq (SlX.pe_sl (pv 4)) (pe_str) (nomark _))) (pss_one (ps_expr (pe_bm PySem.F.plainAttrs_list PySem.F.slot_list_append PySem.F.type_list_append mt_append (pv 2) (pa_cons (pe_joined (PJ.cons pe_str (PJ.cons (pe_fmt (SlX.pe_sl (pv 4))) (PJ.cons pe_str PJ.nil)))) pa_nil)))) (pss_one (ps_expr (pe_bm PySem.F.plainAttrs_list PySem.F.slot_list_append PySem.F.type_list_append mt_append (pv 2) (pa_cons ((pe_call (E := E0) GI (hr.mono (by omega)) (by rfl) (g_instruction_markup T) kI bI .nil pass0 (pa_cons (pv 4) pa_nil))) pa_nil)))))))))))))))))) (pss_one ((ps_ret (pe_join pe_str (pv 2)))))))), ?_⟩
    refine ⟨by decide, fun F1 hF => ?_⟩
    refine ⟨_, rfl, C, ws, rfl, SqL.of (same_new hF _ _ hC), fun W1 hW => ?_⟩
    have hFW : F1 ≠ W1 := ne_of_none (H := upd H F1 (.lst [])) upd_same hW
    have hW0 : H W1 = none := by
      rw [upd_ne hFW.symm] at hW
      exact hW
    dsimp only [gName, tSeq]
    refine while_x (H := upd (upd H F1 (.lst [])) W1 (.lst ws.reverse)) (fun m σ H1 => ∃ (ws2 : List V) (out2 : List Nat) (pcs : List (List Nat)) (v : Option V), σ = [some (V.ref C), some (.ref a), some (.ref F1), some (.ref W1), v] ∧ Same H H1 ∧ H1 F1 = some (.lst (pcV pcs)) ∧ H1 W1 = some (.lst ws2.reverse) ∧ pcs.flatten ++ out2 = out ∧ WM K H ws2 out2 m ∧ pcs.length + m ≤ n)
      (fun σ H1 => ∃ (pcs : List (List Nat)) (v : Option V), σ = [some (V.ref C), some (.ref a), some (.ref F1), some (.ref W1), v] ∧ Same H H1 ∧ H1 F1 = some (.lst (pcV pcs)) ∧ pcs.flatten = out)
      ⟨n, ws, out, [], none, rfl, (same_new hF).trans (same_new hW), by rw [upd_ne hFW, upd_same]; rfl, upd_same, rfl, hw, by simp⟩ ?_ ?_
    · rintro σ H1 ⟨pcs, v, rfl, s1, h1, e1⟩
      refine ⟨⟨_, rfl⟩, _, rfl, _, F1, pcs.map mkS, rfl, rfl, .inl (SqL.of (by rw [h1]; unfold pcV; rw [List.map_map]; rfl)), ?_, ?_⟩
      · have e0 : (Str.ofString "").length = 0 := rfl
        have e2 : ((pcs.map mkS).map (·.length)).sum = out.length := by
          rw [← e1, List.length_flatten, List.map_map]
          exact congrArg List.sum (List.map_congr_left fun t _ => mkS_len t)
        rw [e0, e2]
        omega
      · rw [join_tx, e1]
        exact k _ s1
    · rintro - m σ H1 R ⟨ws2, out2, pcs, v, rfl, s1, h1, h2, e1, h4, h5⟩ hfin hbody
      refine ⟨_, rfl, !ws2.reverse.isEmpty, .inl ⟨_, SqL.of h2, rfl⟩, ?_⟩
      have nF : ∀ {x : Addr} {o : HO}, H x = some o → x ≠ F1 ∧ x ≠ W1 := fun hx => ⟨ne_of_none hx hF, ne_of_none hx hW0⟩
      cases h4 with
      | nil =>
        rw [List.append_nil] at e1
        exact hfin _ ⟨pcs, v, rfl, s1, h1, e1⟩
      | @str sx ws3 out3 n3 c1 c2 =>
        have hne : (!(V.str (mkS sx) :: ws3).reverse.isEmpty) = true := by simp
        rw [hne]
        refine hbody _ ?_
        rw [List.reverse_cons] at h2
        refine ⟨_, rfl, .inl ⟨rfl, _, SqL.of h2⟩, W1, _, .str (mkS sx), rfl, rfl, h2, by simp, ?_⟩
        rw [List.dropLast_concat]
        refine ⟨_, rfl, .inl ⟨_, _, _, _, true, rfl, .ty "str", .base (.str _), kit_ty (by decide), _, rfl, ?_⟩⟩
        refine iteT ?_
        have hf2 : upd H1 W1 (.lst ws3.reverse) F1 = some (.lst (pcV pcs)) := by rw [upd_ne hFW]; exact h1
        refine ⟨_, rfl, .inl ⟨rfl, _, SqL.of hf2⟩, _, rfl, F1, pcV pcs, _, rfl, rfl, hf2, (by unfold pcV; rw [List.length_map, sizeLine_eq]; omega), ?_⟩
        refine ⟨n3, by omega, ws3, out3, pcs ++ [sx], _, rfl, fun y o hy => ?_, ?_, ?_, ?_, c2, ?_⟩
        · rw [upd_ne (nF hy).1, upd_ne (nF hy).2]
          exact s1 _ _ hy
        · rw [upd_same]
          unfold pcV
          rw [List.map_append]
          rfl
        · rw [upd_ne hFW.symm, upd_same]
        · rw [← e1, List.flatten_append]
          simp
        · rw [List.length_append, List.length_singleton]
          omega
      | @node o par i b d l ws3 out3 n3 c1 c2 c3 c4 =>
        have hne : (!(V.ref b :: ws3).reverse.isEmpty) = true := by simp
        rw [hne]
        refine hbody _ ?_
        rw [List.reverse_cons] at h2
        refine ⟨_, rfl, .inl ⟨rfl, _, SqL.of h2⟩, W1, _, .ref b, rfl, rfl, h2, by simp, ?_⟩
        rw [List.dropLast_concat]
        have hf2 : upd H1 W1 (.lst ws3.reverse) F1 = some (.lst (pcV pcs)) := by rw [upd_ne hFW]; exact h1
        have hw2 : upd H1 W1 (.lst ws3.reverse) W1 = some (.lst ws3.reverse) := upd_same
        have s2 : Same H (upd H1 W1 (.lst ws3.reverse)) := fun y o hy => by
          rw [upd_ne (nF hy).2]
          exact s1 _ _ hy
        generalize upd H1 W1 (.lst ws3.reverse) = H2 at hf2 hw2 s2 ⊢
        have hkit := (inst_all (x_in_Node T)).2.2.2.2.2
        have hsz := szN_pos d
        have hpl : (pcV pcs).length < sizeLine := by unfold pcV; rw [List.length_map, sizeLine_eq]; omega
        -- one piece more, and nothing else
        have one : ∀ {H3 : Hp} {y : Str} {v5 : Option V}, Same H2 H3 → y = mkS (mkN d) → ∃ m', m' < n3 + 2 * szN d ∧ ∃ (ws2 : List V) (out2 : List Nat) (pcs2 : List (List Nat)) (v : Option V), [some (V.ref C), some (.ref a), some (.ref F1), some (.ref W1), v5] = [some (V.ref C), some (.ref a), some (.ref F1), some (.ref W1), v] ∧ Same H (upd H3 F1 (.lst (pcV pcs ++ [.str y]))) ∧ upd H3 F1 (.lst (pcV pcs ++ [.str y])) F1 = some (.lst (pcV pcs2)) ∧ upd H3 F1 (.lst (pcV pcs ++ [.str y])) W1 = some (.lst ws2.reverse) ∧ pcs2.flatten ++ out2 = out ∧ WM K H ws2 out2 m' ∧ pcs2.length + m' ≤ n := by
          intro H3 y v5 s3 ey
          subst ey
          refine ⟨n3, by omega, ws3, out3, pcs ++ [mkN d], _, rfl, fun z o hz => ?_, ?_, ?_, ?_, c4, ?_⟩
          · rw [upd_ne (nF hz).1]
            exact s3 _ _ (s2 _ _ hz)
          · rw [upd_same]
            unfold pcV
            rw [List.map_append]
            rfl
          · rw [upd_ne hFW.symm]
            exact s3 _ _ hw2
          · rw [← e1, List.flatten_append]
            simp
          · rw [List.length_append, List.length_singleton]
            omega
        cases d with
        | lf kk nm t =>
          have c1' := c1
          rw [NodeAt] at c1'
          obtain ⟨_, dx, A, Cb, hb, _⟩ := c1'
          have nb := hb.keep s2
          rw [bdN] at c3
          refine ⟨_, rfl, .inr ⟨b, CNd K, dx, _, _, false, rfl, rfl, fun _ h => h, nb.slt, scl_N T, sIsi_N T, hkit, _, rfl, ?_⟩⟩
          refine iteF ?_
          refine ⟨_, rfl, b, CNd K, dx, _, _, 3, .str (kS kk), rfl, nb.slt, scl_N T, slt_kind T, rfl, rfl, _, rfl, ?_⟩
          have hkel : ∀ k, decide (V.str (kS k) = V.str (Str.ofString "element")) = false := fun k => by
            match k with
            | 0 => decide
            | 1 => decide
            | k + 2 => show decide (V.str "instruction" = V.str (Str.ofString "element")) = false; decide
          show if decide (V.str (kS kk) = V.str (Str.ofString "element")) = true then _ else _
          rw [hkel]
          refine iteF ?_
          refine ⟨_, rfl, b, CNd K, dx, _, _, 3, .str (kS kk), rfl, nb.slt, scl_N T, slt_kind T, rfl, rfl, _, rfl, ?_⟩
          show if decide (V.str (kS kk) = V.str (Str.ofString "text")) = true then _ else _
          rw [kS_text]
          by_cases k0 : kk = 0
          · refine iteT ?_ (decide_eq_true k0)
            refine ⟨_, rfl, .inl ⟨rfl, _, SqL.of hf2⟩, _, rfl, _, rfl, b, a, par, dx, _, t, rfl, nb, rfl, rfl, c2.keep s2, s2 _ _ ha, c3.1, fun H3 s3 => ?_⟩
            refine ⟨F1, pcV pcs, _, rfl, rfl, s3 _ _ hf2, hpl, ?_⟩
            exact one s3 (by rw [mkN, if_pos k0])
          · refine iteF ?_ (decide_eq_false k0)
            refine ⟨_, rfl, b, CNd K, dx, _, _, 3, .str (kS kk), rfl, nb.slt, scl_N T, slt_kind T, rfl, rfl, _, rfl, ?_⟩
            show if decide (V.str (kS kk) = V.str (Str.ofString "comment")) = true then _ else _
            by_cases k1 : kk = 1
            · subst k1
              refine iteT ?_ (by decide)
              have lb : (Str.ofString "<!--").length = 4 := rfl
              have le : (Str.ofString "-->").length = 3 := rfl
              have le0 : Str.empty.length = 0 := rfl
              refine ⟨_, rfl, .inl ⟨rfl, _, SqL.of hf2⟩, _, rfl, (by rw [cat_len, sizeLine_eq, le0, lb]; omega), _, rfl, b, CNd K, dx, _, _, 8, .str (mkS t), rfl, nb.slt, scl_N T, slt_text T, rfl, .inl ⟨_, rfl, (by rw [mkS_len, sizeLine_eq]; omega), _, rfl, (by rw [cat_len, cat_len, mkS_len, sizeLine_eq, le0, lb]; omega), _, rfl, (by rw [cat_len, cat_len, cat_len, mkS_len, sizeLine_eq, le0, lb, le]; omega), ?_⟩⟩
              refine ⟨F1, pcV pcs, _, rfl, rfl, hf2, hpl, ?_⟩
              refine one (Same.refl _) ?_
              rw [mkN, if_neg k0, if_pos rfl, emp_cat]
              show mkS [60, 33, 45, 45] ++ mkS t ++ mkS [45, 45, 62] = _
              rw [cat_mk, cat_mk, List.append_assoc]
            · have hk2 : decide (V.str (kS kk) = V.str (Str.ofString "comment")) = false := by
                match kk, k0, k1 with
                | 0, h, _ => exact absurd rfl h
                | 1, _, h => exact absurd rfl h
                | k + 2, _, _ => show decide (V.str "instruction" = V.str (Str.ofString "comment")) = false; decide
              refine iteF ?_ hk2
              cases nm with
              | none => exact absurd rfl (c3.2.2 (by omega))
              | some n' =>
                refine ⟨_, rfl, .inl ⟨rfl, _, SqL.of hf2⟩, _, rfl, b, dx, _, n', t, rfl, nb, rfl, rfl, c3.2.1, c3.1, ?_⟩
                refine ⟨F1, pcV pcs, _, rfl, rfl, hf2, hpl, ?_⟩
                exact one (Same.refl _) (by rw [mkN, if_neg k0, if_neg k1])
        | el nm at_ ks =>
          have c1' := c1
          rw [NodeAt] at c1'
          obtain ⟨dx, A, Cb, as, cs, ls, _, hb, hA, hCb, hat, hkd⟩ := c1'
          have nb := hb.keep s2
          rw [bdN] at c3
          refine ⟨_, rfl, .inr ⟨b, CNd K, dx, _, _, false, rfl, rfl, fun _ h => h, nb.slt, scl_N T, sIsi_N T, hkit, _, rfl, ?_⟩⟩
          refine iteF ?_
          refine ⟨_, rfl, b, CNd K, dx, _, _, 3, .str "element", rfl, nb.slt, scl_N T, slt_kind T, rfl, rfl, _, rfl, ?_⟩
          show if decide (V.str "element" = V.str (Str.ofString "element")) = true then _ else _
          refine iteT ?_ (by decide)
          refine ⟨_, rfl, b, CNd K, dx, _, _, 1, _, rfl, nb.slt, scl_N T, slt_children T, rfl, by decide, fun q hq => ?_⟩
          have sq := same_new hq (o := .lst [])
          refine ⟨Cb, q, refs cs, rfl, rfl, SqL.of (sq _ _ (s2 _ _ hCb)), SqL.of upd_same, _, rfl, ?_⟩
          have hf3 := sq _ _ hf2
          have hw3 := sq _ _ hw2
          have nb3 := nb.keep sq
          generalize upd H2 q (.lst []) = H3 at sq hf3 hw3 nb3 ⊢
          have s23 := s2.trans sq
          have hkl := hkd.len
          cases ks with
          | nil =>
            have hcs : cs = [] := List.eq_nil_of_length_eq_zero hkl
            subst hcs
            refine iteT ?_
            refine ⟨_, rfl, .inl ⟨rfl, _, SqL.of hf3⟩, _, rfl, o, b, dx, b, _, nm, [47, 62], as, at_, rfl, nb3, rfl, s23 _ _ hA, hat.keep s23, c3.1, by decide, c3.2.1, c3.2.2.1, fun H4 s4 => ?_⟩
            refine ⟨F1, pcV pcs, _, rfl, rfl, s4 _ _ hf3, hpl, ?_⟩
            exact one (sq.trans s4) (by rw [mkN, if_pos rfl])
          | cons d0 ks =>
            have hne2 : (refs cs).isEmpty = false := by
              cases cs with
              | nil => cases hkl
              | cons c cs => rfl
            rw [hne2]
            refine iteF ?_
            refine ⟨_, rfl, .inl ⟨rfl, _, SqL.of hf3⟩, _, rfl, o, b, dx, b, _, nm, [62], as, at_, rfl, nb3, rfl, s23 _ _ hA, hat.keep s23, c3.1, by decide, c3.2.1, c3.2.2.1, fun H4 s4 => ?_⟩
            refine ⟨F1, pcV pcs, _, rfl, rfl, s4 _ _ hf3, hpl, ?_⟩
            have s5 : Same H (upd H4 F1 (.lst (pcV pcs ++ [.str (mkS (tgM nm at_ [62]))]))) := fun z o hz => by
              rw [upd_ne (nF hz).1]
              exact s4 _ _ (s23 _ _ hz)
            have hf5 : upd H4 F1 (.lst (pcV pcs ++ [.str (mkS (tgM nm at_ [62]))])) F1 = some (.lst (pcV (pcs ++ [tgM nm at_ [62]]))) := by
              rw [upd_same]
              unfold pcV
              rw [List.map_append]
              rfl
            have hw5 : upd H4 F1 (.lst (pcV pcs ++ [.str (mkS (tgM nm at_ [62]))])) W1 = some (.lst ws3.reverse) := by
              rw [upd_ne hFW.symm]
              exact s4 _ _ hw3
            generalize upd H4 F1 (.lst (pcV pcs ++ [.str (mkS (tgM nm at_ [62]))])) = H5 at s5 hf5 hw5 ⊢
            have nb5 := hb.keep s5
            have lb : (Str.ofString "</").length = 2 := rfl
            have le : (Str.ofString ">").length = 1 := rfl
            have le0 : Str.empty.length = 0 := rfl
            have hwl := c4.len
            have hszd : szN (.el nm at_ (d0 :: ks)) = 1 + at_.length + szK (d0 :: ks) := by rw [szN]
            have hcsl : cs.length ≤ szK (d0 :: ks) := by
              rw [hkl]
              have key : ∀ ds : List DN, ds.length ≤ szK ds := fun ds => by
                induction ds with
                | nil => exact Nat.zero_le _
                | cons d ds ih =>
                  have := szN_pos d
                  rw [szK, List.length_cons]
                  omega
              exact key _
            refine ⟨_, rfl, .inl ⟨rfl, _, SqL.of hw5⟩, _, rfl, (by rw [cat_len, sizeLine_eq, le0, lb]; omega), _, rfl, b, CNd K, dx, _, _, 4, .str (mkS nm), rfl, nb5.slt, scl_N T, slt_name T, rfl, .inl ⟨_, rfl, (by rw [mkS_len, sizeLine_eq]; omega), _, rfl, (by rw [cat_len, cat_len, mkS_len, sizeLine_eq, le0, lb]; omega), _, rfl, (by rw [cat_len, cat_len, cat_len, mkS_len, sizeLine_eq, le0, lb, le]; omega), ?_⟩⟩
            have e9 : Str.empty ++ Str.ofString "</" ++ mkS nm ++ Str.ofString ">" = mkS ([60, 47] ++ (nm ++ [62])) := by
              rw [emp_cat]
              show mkS [60, 47] ++ mkS nm ++ mkS [62] = _
              rw [cat_mk, cat_mk, List.append_assoc]
            rw [e9]
            refine ⟨W1, ws3.reverse, _, rfl, rfl, hw5, (by rw [List.length_reverse, sizeLine_eq]; omega), ?_⟩
            have nb6 : NdA K (upd H5 W1 (.lst (ws3.reverse ++ [.str (mkS ([60, 47] ++ (nm ++ [62])))]))) b dx _ := ⟨by rw [upd_ne (nF hb.1).2]; exact nb5.1, by rw [upd_ne (nF hb.2).2]; exact nb5.2⟩
            refine ⟨_, rfl, .inl ⟨rfl, _, SqL.of upd_same⟩, _, rfl, b, CNd K, dx, _, _, 1, _, rfl, nb6.slt, scl_N T, slt_children T, rfl, Cb, refs cs, rfl, SqL.of (by rw [upd_ne (nF hCb).2]; exact s5 _ _ hCb), fun D hD => ?_⟩
            have hDW : D ≠ W1 := fun e => by
              rw [e, upd_same] at hD
              cases hD
            refine ⟨W1, D, _, _, rfl, rfl, (by rw [upd_ne hDW.symm, upd_same]), upd_same, ?_, ?_⟩
            · rw [List.length_append, List.length_reverse, List.length_reverse, refs_len, List.length_singleton, sizeLine_eq]
              omega
            · have hpar : ParOk K H b := ⟨dx, _, "element", hb, rfl, fun _ => ⟨_, rfl⟩⟩
              have hwm := kids_wm hpar hkd c3.2.2.2 (.str (s := [60, 47] ++ (nm ++ [62])) (by simp only [List.length_append, List.length_cons, List.length_nil]; omega) c4)
              refine ⟨_, ?_, _, _, pcs ++ [tgM nm at_ [62]], _, rfl, fun z o hz => ?_, ?_, ?_, ?_, hwm, ?_⟩
              · rw [hszd]
                omega
              · have hzD : z ≠ D := fun e => by
                  rw [e] at hz
                  rw [upd_ne hDW, s5 _ _ hz] at hD
                  cases hD
                rw [upd_ne (nF hz).2, upd_ne hzD, upd_ne (nF hz).2]
                exact s5 _ _ hz
              · have hFD : F1 ≠ D := fun e => by
                  rw [upd_ne hDW, ← e, hf5] at hD
                  cases hD
                rw [upd_ne hFW, upd_ne hFD, upd_ne hFW]
                exact hf5
              · rw [upd_same, List.reverse_append, List.reverse_cons]
              · rw [← e1, mkN, if_neg (by simp), List.flatten_append]
                simp
              · rw [List.length_append, List.length_singleton]
                omega
end
end PX
/-! EXn -/
namespace PX
open PySem PySem.Spec PyProof.Rows L2 TL
section
variable {P : Program} {w : World} {K : PySem.W.Frag} {mg : Str → Option Value} {base : Heap}
def spWr (K : PySem.W.Frag) : Sp := fun vs H Q _ => ∃ (t : Addr) (ks : List DN), vs = [.ref t] ∧ TrAt K H t ks ∧ bdK ks ∧ (mkK ks).length ≤ 16000000 ∧ ∀ H', Same H H' → Q (.str (mkS (mkK ks))) H'
theorem ok_write (T : Tx w K mg) : Ok P w K mg base CX0 4 (He.fAd K d_write.at_) p_write (spWr K) := by
  obtain ⟨fd, F⟩ := f_write T
  obtain ⟨fC, GC, bC, kC⟩ := ok_check_tree (P := P) (base := base) T
  obtain ⟨fM, GM, bM, kM⟩ := ok_markup_of (P := P) (base := base) T
  refine ⟨fd, ?_, b_write F, F.kp⟩
  refine F.ok sc_write (fun vs H Q E h => ?_) (fun cdv A outer s H vs Q E hr h => ?_)
  · obtain ⟨t, ks, rfl, _⟩ := h
    rfl
  · obtain ⟨t, ks, rfl, ht, hb, hl, k⟩ := h
    refine ⟨_, PSs.nox (pss_cons (ps_expr (pe_call (E := E0) GC (hr.mono (by omega)) (by rfl) (g_check_tree T) kC bC .nil pass0 (pa_cons (pv 0) pa_nil))) (pss_one ((ps_ret ((pe_call (E := E0) GM (hr.mono (by omega)) (by rfl) (g_markup_of T) kM bM .nil pass0 (pa_cons (SlX.pe_sl (pe_fld (pv 0) rfl)) (pa_cons (pe_tup pa_nil) pa_nil)))))))), ?_⟩
    obtain ⟨dx, p, o, x, rdx, rA, rC, cs, ls, h1, h2, ⟨r1, r2, r3, r4⟩, h4, h5, h6⟩ := ht
    refine ⟨_, rfl, t, dx, _, rfl, h1, ?_⟩
    refine ⟨_, rfl, t, CTr K, dx, _, _, rfl, h1, cls_Tree T, na_Tree_root T, tr_root, x, CNd K, rdx, _, _, 1, _, rfl, r1.slt, scl_N T, slt_children T, rfl, by decide, fun a ha => ?_⟩
    have s1 := same_new ha (o := .tup [])
    have hpar : ParOk K (upd H a (.tup [])) x := ⟨rdx, _, "root", r1.keep s1, rfl, fun e => absurd e (by decide)⟩
    have hwm := kids_wm hpar (KidsAt.keep s1 r4) hb .nil
    rw [List.append_nil, List.append_nil, Nat.zero_add] at hwm
    have hs := r4.sz
    rw [List.length_cons] at h6
    exact ⟨rC, a, refs cs, mkK ks, 2 * szK ks, rfl, s1 _ _ r3, upd_same, hwm, by omega, hl, fun H2 s2 => k H2 (s1.trans s2)⟩
end
end PX
/-! EXo -/
namespace PX
open PySem PySem.Spec PyProof.Rows L2 TL
/-- a source of draws -/
def Wl (H : Hp) (p : Addr) (c : Nat) : Prop := ∃ a b : Int, H p = some (.lst [.int a, .int b, .int (c : Int)])
theorem fmod_rng (a : Int) {b : Int} (hb : 0 < b) : 0 ≤ a.fmod b ∧ a.fmod b < b := ⟨Int.fmod_nonneg_of_pos a hb, Int.fmod_lt_of_pos a hb⟩
section
variable {P : Program} {w : World} {K : PySem.W.Frag} {mg : Str → Option Value} {base : Heap}
def spDraw : Sp := fun vs H Q _ => ∃ (p : Addr) (n c : Nat), vs = [.ref p, .int (n : Int)] ∧ Wl H p c ∧ 1 ≤ n ∧ n < 1000000000 ∧ c ≤ 1000000000 ∧
  ∀ H' (k c' : Nat), SameB p H H' → Wl H' p c' → c' ≤ c + 1 → k < n → Q (.int (k : Int)) H'
theorem ok_Ldraw (T : Tx w K mg) : Ok P w K mg base CX0 1 (He.fAd K d_Ldraw.at_) p_Ldraw spDraw := by
  obtain ⟨fd, F⟩ := f_Ldraw T
  refine ⟨fd, ?_, b_Ldraw F, F.kp⟩
  refine F.ok sc_Ldraw (fun vs H Q E h => ?_) (fun cdv A outer s H vs Q E hr h => ?_)
  · obtain ⟨p, n, c, rfl, _⟩ := h
    rfl
  · obtain ⟨p, n, c, rfl, ⟨a, b, hp⟩, hn, hn2, hc, kk⟩ := h
    have nd := sc_Ldraw.nd
    refine ⟨_, PSs.nox (pss_cons (ps_if (pt_cmpR op_gt (pe_ix ix_list (pv 0) pe_int (fun _ _ => rfl)) pe_int (nomark _))
        (pss_cons (ps_set (i := 2) nd rfl (.inl rfl) (pe_op op_modN (pe_callTy call_int1 (by rfl) (n_int T) boot_int (pa_cons (pe_ix ix_list (pv 0) pe_int (fun _ _ => rfl)) pa_nil)) (pv 1)))
        (pss_cons (ps_asg (pe_op op_fdivW (pe_ix ix_list (pv 0) pe_int (fun _ _ => rfl)) (pv 1)) (pg_sub (pv 0) pe_int set_list))
        (pss_one (ps_ret (pv 2))))) pss_nil)
      (pss_cons (ps_asg (pe_op op_add (pe_ix ix_list (pv 0) pe_int (fun _ _ => rfl)) pe_int) (pg_sub (pv 0) pe_int set_list))
      (pss_cons (ps_set (i := 3) nd rfl (.inl rfl) (pe_op op_add (pe_op op_modN (pe_callTy call_int1 (by rfl) (n_int T) boot_int (pa_cons (pe_ix ix_list (pv 0) pe_int (fun _ _ => rfl)) pa_nil)) pe_int)
          (pe_op op_mul (pe_op op_modN (pe_callTy call_int1 (by rfl) (n_int T) boot_int (pa_cons (pe_op op_fdivW (pe_ix ix_list (pv 0) pe_int (fun _ _ => rfl)) pe_int) pa_nil)) pe_int) pe_int)))
      (pss_cons (ps_set (i := 4) nd rfl (.inl rfl) (pe_op op_modN (pe_callTy call_int1 (by rfl) (n_int T) boot_int (pa_cons (pe_op op_pow (pe_op op_add (pe_op op_add (pv 3) (pe_op op_mul pe_int (pe_ix ix_list (pv 0) pe_int (fun _ _ => rfl)))) pe_int) pe_int) pa_nil)) pe_int))
      (pss_cons (ps_set (i := 4) nd rfl (.inl rfl) (pe_op op_modN (pe_callTy call_int1 (by rfl) (n_int T) boot_int (pa_cons (pe_op op_mul (pv 4) (pe_op op_add (pe_op op_add (pe_op op_fdivN (pv 4) pe_int) pe_int) (pe_ix ix_list (pv 0) pe_int (fun _ _ => rfl)))) pa_nil)) pe_int))
      (pss_one (ps_ret (pe_op op_modN (pe_callTy call_int1 (by rfl) (n_int T) boot_int (pa_cons (pe_op op_modN (pe_callTy call_int1 (by rfl) (n_int T) boot_int (pa_cons (pe_op op_mul (pv 4) (pe_op op_add (pe_op op_fdivN (pv 4) pe_int) pe_int)) pa_nil)) pe_int) pa_nil)) (pv 1))))))))), ?_⟩
    have hn0 : (0 : Int) < (n : Int) := by omega
    have fin : ∀ (x : Int) (H' : Hp) (c' : Nat), SameB p H H' → Wl H' p c' → c' ≤ c + 1 → Q (.int (x.fmod (n : Int))) H' := by
      intro x H' c' s1 w1 h1
      obtain ⟨h2, h3⟩ := fmod_rng x hn0
      have := kk H' (x.fmod (n : Int)).toNat c' s1 w1 h1 (by omega)
      rw [Int.toNat_of_nonneg h2] at this
      exact this
    refine ⟨_, rfl, p, _, 0, _, rfl, rfl, SqL.of hp, rfl, _, _, rfl, rfl, _, rfl, ?_⟩
    refine ite2 (fun y => ?_) (fun y => ?_)
    · refine ⟨_, rfl, p, _, 0, _, rfl, rfl, SqL.of hp, rfl, .inl ⟨_, rfl, _, rfl, _, _, rfl, rfl, by omega, ?_⟩⟩
      refine ⟨_, rfl, p, _, 0, _, rfl, rfl, SqL.of hp, rfl, _, rfl, _, _, rfl, rfl, wide_div (b := 30) hn0 (by omega) (by decide) (by decide), ?_⟩
      refine ⟨_, rfl, p, _, 0, 0, rfl, rfl, hp, rfl, _, rfl, ?_⟩
      exact fin a _ c .up ⟨_, b, upd_same⟩ (by omega)
    · refine ⟨_, rfl, p, _, 2, _, rfl, rfl, SqL.of hp, rfl, _, _, rfl, rfl, ?_⟩
      refine ⟨_, rfl, p, _, 2, 2, rfl, rfl, hp, rfl, ?_⟩
      have hp2 : upd H p (.lst [.int a, .int b, .int ((c : Int) + 1)]) p = some (.lst [.int a, .int b, .int ((c : Int) + 1)]) := upd_same
      have hq2 : SameB p H (upd H p (.lst [.int a, .int b, .int ((c : Int) + 1)])) := .up
      generalize hH2 : upd H p (.lst [.int a, .int b, .int ((c : Int) + 1)]) = H2 at hp2 hq2
      have hH2' : upd H p (.lst ([V.int a, .int b, .int (c : Int)].set 2 (.int ((c : Int) + 1)))) = H2 := hH2
      obtain ⟨m1, m2⟩ := fmod_rng b (b := 2147483549) (by decide)
      obtain ⟨m3, m4⟩ := fmod_rng (b / 2147483549) (b := 80021) (by decide)
      refine ⟨_, rfl, p, _, 1, V.int b, rfl, rfl, SqL.of (by rw [hH2']; exact hp2), rfl, .inl ⟨_, rfl, _, _, rfl, rfl, (show (2147483549 : Int) ≠ 0 by decide), ?_⟩⟩
      refine ⟨_, rfl, p, _, 1, V.int b, rfl, rfl, SqL.of (by rw [hH2']; exact hp2), rfl, _, _, rfl, rfl, ⟨by decide, by decide⟩, .inl ⟨_, rfl, _, _, rfl, rfl, (show (80021 : Int) ≠ 0 by decide), ?_⟩⟩
      refine ⟨_, _, rfl, rfl, .inl ⟨by omega, by omega⟩, _, _, rfl, rfl, ?_⟩
      generalize b.fmod 2147483549 = x1 at m1 m2 ⊢
      generalize (b / 2147483549).fmod 80021 = x2 at m3 m4 ⊢
      refine ⟨_, rfl, _, rfl, p, _, 2, V.int ((c : Int) + 1), rfl, rfl, SqL.of (by rw [hH2']; exact hp2), rfl, _, _, rfl, rfl, .inl ⟨by decide, by decide⟩, _, _, rfl, rfl, _, _, rfl, rfl, _, _, rfl, rfl, ?_, .inl ⟨_, rfl, _, _, rfl, rfl, (show (2147483647 : Int) ≠ 0 by decide), ?_⟩⟩
      · refine ⟨by decide, by decide, ?_⟩
        show (x1 + x2 * 37 + 5843 * ((c : Int) + 1) + 17).natAbs < 2 ^ 64
        omega
      obtain ⟨m5, m6⟩ := fmod_rng ((x1 + x2 * 37 + 5843 * ((c : Int) + 1) + 17) ^ Int.toNat 5) (b := 2147483647) (by decide)
      generalize hx3 : ((x1 + x2 * 37 + 5843 * ((c : Int) + 1) + 17) ^ Int.toNat 5).fmod 2147483647 = x3 at m5 m6
      refine ⟨_, rfl, _, rfl, _, _, rfl, rfl, ⟨by decide, by decide⟩, _, _, rfl, rfl, _, rfl, p, _, 2, V.int ((c : Int) + 1), rfl, rfl, SqL.of (by rw [hH2']; exact hp2), rfl, _, _, rfl, rfl, _, _, rfl, rfl, .inl ?_, .inl ⟨_, rfl, _, _, rfl, rfl, (show (2147483629 : Int) ≠ 0 by decide), ?_⟩⟩
      · show -2 ^ 64 < ((x1 + x2 * 37 + 5843 * ((c : Int) + 1) + 17) ^ Int.toNat 5).fmod 2147483647 ∧ ((x1 + x2 * 37 + 5843 * ((c : Int) + 1) + 17) ^ Int.toNat 5).fmod 2147483647 < 2 ^ 64
        rw [hx3]
        omega
      have hbig : ∀ y : Int, ∃ z : Int, z = y.fmod 2147483629 ∧ 0 ≤ z ∧ z < 2147483629 := fun y => ⟨_, rfl, fmod_rng y (by decide)⟩
      refine ⟨_, rfl, _, rfl, _, _, rfl, rfl, ⟨by decide, by decide⟩, _, _, rfl, rfl, _, _, rfl, rfl, .inl ?_, .inl ⟨_, rfl, _, _, rfl, rfl, (show (2147483587 : Int) ≠ 0 by decide), .inl ⟨_, rfl, _, rfl, _, _, rfl, rfl, by omega, ?_⟩⟩⟩
      · obtain ⟨z, h1, h2, h3⟩ := hbig (((x1 + x2 * 37 + 5843 * ((c : Int) + 1) + 17) ^ Int.toNat 5).fmod 2147483647 * ((((x1 + x2 * 37 + 5843 * ((c : Int) + 1) + 17) ^ Int.toNat 5).fmod 2147483647).fdiv 953 + 40993 + ((c : Int) + 1)))
        show -2 ^ 64 < _ ∧ _ < 2 ^ 64
        rw [← h1]
        omega
      · exact fin _ _ (c + 1) (by rw [hH2']; exact hq2) ⟨a, b, by rw [hH2', hp2]; rw [show ((c : Int) + 1) = ((c + 1 : Nat) : Int) by omega]⟩ (Nat.le_refl _)
end

/-- a text of at most n signs -/
def GS (n : Nat) (s : Str) : Prop := s.length ≤ n ∧ ∀ c ∈ tl s, isSg c = true
section
variable {P : Program} {w : World} {K : PySem.W.Frag} {mg : Str → Option Value} {base : Heap}
def spPick : Sp := fun vs H Q _ => ∃ (p q : Addr) (c : Nat) (xs : List V), vs = [.ref p, .ref q] ∧ Wl H p c ∧ c ≤ 1000000000 ∧ q ≠ p ∧ H q = some (.lst xs) ∧ 1 ≤ xs.length ∧ xs.length ≤ 1000 ∧
  ∀ H' (x : V) (c' : Nat), SameB p H H' → Wl H' p c' → c' ≤ c + 1 → x ∈ xs → Q x H'
theorem ok_Lpick (T : Tx w K mg) : Ok P w K mg base CX0 2 (He.fAd K d_Lpick.at_) p_Lpick spPick := by
  obtain ⟨fd, F⟩ := f_Lpick T
  obtain ⟨fD, GD, bD, kD⟩ := ok_Ldraw (P := P) (base := base) T
  refine ⟨fd, ?_, b_Lpick F, F.kp⟩
  refine F.ok sc_Lpick (fun vs H Q E h => ?_) (fun cdv A outer s H vs Q E hr h => ?_)
  · obtain ⟨p, q, c, xs, rfl, _⟩ := h
    rfl
  · obtain ⟨p, q, c, xs, rfl, hw, hc, hqp, hq, h1, h2, kk⟩ := h
    have nd := sc_Lpick.nd
    refine ⟨_, PSs.nox (pss_one (ps_ret (pe_ix ix_list (pv 1) (pe_call (E := E0) GD (hr.mono (by decide)) (by rfl) (g_Ldraw T) kD bD .nil pass0 (pa_cons (pv 0) (pa_cons (pe_callB call_len (by rfl) (n_len T) PySem.boot_len (pa_cons (pv 1) pa_nil)) pa_nil))) (fun _ _ => rfl)))), ?_⟩
    refine ⟨_, rfl, _, rfl, _, rfl, _, xs.length, rfl, .inl ⟨_, SqL.of hq, rfl⟩, p, xs.length, c, rfl, hw, h1, by omega, hc, fun H' k c' s1 w1 hc1 hk => ?_⟩
    have hq1 := s1 q _ hqp hq
    have hx : xs[k]? = some (xs[k]'hk) := List.getElem?_eq_getElem hk
    exact ⟨q, xs, (k : Int), xs[k]'hk, rfl, rfl, SqL.of hq1, atI_nat hx, kk H' _ c' s1 w1 hc1 (List.getElem_mem hk)⟩
def spWell : Sp := fun vs H Q _ => ∃ (i : Int), vs = [.int i] ∧ ∀ H' p, Same H H' → H p = none → Wl H' p 0 → Q (.ref p) H'
theorem ok_Lwell (T : Tx w K mg) : Ok P w K mg base CX0 1 (He.fAd K d_Lwell.at_) p_Lwell spWell := by
  obtain ⟨fd, F⟩ := f_Lwell T
  refine ⟨fd, ?_, b_Lwell F, F.kp⟩
  refine F.ok sc_Lwell (fun vs H Q E h => ?_) (fun cdv A outer s H vs Q E hr h => ?_)
  · obtain ⟨i, rfl, _⟩ := h
    rfl
  · obtain ⟨i, rfl, kk⟩ := h
    have nd := sc_Lwell.nd
    refine ⟨_, PSs.nox (pss_one (ps_ret (pe_lst (pa_cons (pe_op op_mul (pv 0) (pe_callTy call_int1 (by rfl) (n_int T) boot_int (pa_cons (pe_cmpR op_ge (pv 0) (pe_op op_pow pe_int pe_int) (nomark _)) pa_nil))) (pa_cons (pv 0) (pa_cons pe_int pa_nil)))))), ?_⟩
    refine ⟨_, rfl, _, rfl, _, _, rfl, rfl, ⟨by decide, by decide, by decide⟩, _, _, rfl, rfl, .inr ⟨_, rfl, _, _, rfl, rfl, .inr ?_, _, rfl, (by show 3 ≤ sizeLine; decide), fun L hL => kk _ L (same_new hL) hL ⟨_, _, upd_same⟩⟩⟩
    split
    · exact ⟨by decide, by decide⟩
    · exact ⟨by decide, by decide⟩
def spCell (K : PySem.W.Frag) : Sp := fun vs H Q _ => ∃ (p : Addr) (k : Nat) (ns : List Int), vs = [.ref p, .int (k : Int)] ∧ SqL K H p (ns.map V.int) ∧ ∀ i : Int, Q (.int i) H
theorem ok_Lcell_at (T : Tx w K mg) : Ok P w K mg base CX0 1 (He.fAd K d_Lcell_at.at_) p_Lcell_at (spCell K) := by
  obtain ⟨fd, F⟩ := f_Lcell_at T
  refine ⟨fd, ?_, b_Lcell_at F, F.kp⟩
  refine F.ok sc_Lcell_at (fun vs H Q E h => ?_) (fun cdv A outer s H vs Q E hr h => ?_)
  · obtain ⟨p, k, ns, rfl, _⟩ := h
    rfl
  · obtain ⟨p, k, ns, rfl, hp, kk⟩ := h
    have nd := sc_Lcell_at.nd
    refine ⟨_, PSs.nox (pss_cons (ps_if (pt_cmpR op_lt (pv 1) (pe_callB call_len (by rfl) (n_len T) PySem.boot_len (pa_cons (pv 0) pa_nil)) (nomark _)) (pss_one (ps_ret (pe_ix ix_list (pv 0) (pv 1) (fun _ _ => rfl)))) pss_nil)
      (pss_one (ps_ret pe_int))), ?_⟩
    refine ⟨_, rfl, _, rfl, _, (ns.map V.int).length, rfl, .inl ⟨_, hp, rfl⟩, _, _, rfl, rfl, _, rfl, ?_⟩
    refine ite2 (fun y => ?_) (fun y => ?_)
    · have hk : k < (ns.map V.int).length := by
        have := of_decide_eq_true y
        omega
      have hk2 : k < ns.length := by rw [List.length_map] at hk; exact hk
      have hx : (ns.map V.int)[k]? = some (.int ns[k]) := by
        rw [List.getElem?_map, List.getElem?_eq_getElem hk2]
        rfl
      exact ⟨_, rfl, _, rfl, p, _, (k : Int), _, rfl, rfl, hp, atI_nat hx, kk _⟩
    · exact kk _
end
end PX
/-! EXp -/
namespace PX
open PySem PySem.Spec PyProof.Rows L2 TL
/-! ### the law's signs -/
def abc1 : Str := "\t\n !#$&'()*+,-./0123456789:;<=>?@ABCDEFGHIJKLMNOPQRSTUVWXYZ[]^_abcdefghijklmnopqrstuvwxyz{|}~"
def abcS : Str := (abc1 ++ Str.ofString "\"") ++ Str.ofString "\\`&<>'\t\n"
theorem abc_len : abcS.length = 102 := by decide +kernel
theorem abc_kn : ∀ c ∈ tl abcS, known c = true ∧ isSg c = true := by decide +kernel
theorem Wl.at {H H' : Hp} {p : Addr} {c : Nat} (h : Wl H p c) (s : Same H H') : Wl H' p c := by
  obtain ⟨a, b, e⟩ := h
  exact ⟨a, b, s _ _ e⟩
theorem Wl.ne {H : Hp} {p q : Addr} {c : Nat} (h : Wl H p c) (e : H q = none) : q ≠ p := by
  rintro rfl
  obtain ⟨a, b, z⟩ := h
  rw [e] at z
  cases z
theorem call_lenK {X : Cx} {K : PySem.W.Frag} (hK : X.K = K) : CallR X (.builtin "len") (fun xs H Q => ∃ x n, xs = [x] ∧ LenV K x H n ∧ Q (.int (n : Int)) H) := by
  subst hK
  exact call_len
section
variable {P : Program} {w : World} {K : PySem.W.Frag} {mg : Str → Option Value} {base : Heap}
def spLsg : Sp := fun vs H Q _ => ∃ (p : Addr) (c : Nat), vs = [.ref p] ∧ Wl H p c ∧ c ≤ 1000000 ∧ ∀ H' (l : List Nat) (c' : Nat), SameB p H H' → Wl H' p c' → c' ≤ c + 40 → l.length ≤ 30 → (∀ x ∈ l, x ∈ tl abcS) → Q (.str (mkS l)) H'
theorem ok_Lsigns (T : Tx w K mg) : Ok P w K mg base CX0 2 (He.fAd K d_Lsigns.at_) p_Lsigns spLsg := by
  obtain ⟨fd, F⟩ := f_Lsigns T
  obtain ⟨fD, GD, bD, kD⟩ := ok_Ldraw (P := P) (base := base) T
  refine ⟨fd, ?_, b_Lsigns F, F.kp⟩
  refine F.ok sc_Lsigns (fun vs H Q E h => ?_) (fun cdv A outer s H vs Q E hr h => ?_)
  · obtain ⟨p, c, rfl, _⟩ := h
    rfl
  · obtain ⟨p, c, rfl, hw, hc, k⟩ := h
    have nd := sc_Lsigns.nd
    refine ⟨_, PSs.nox (pss_cons (ps_set (i := 1) nd rfl (.inr rfl) pe_str) (pss_cons (ps_set (i := 1) nd rfl (.inr rfl) (pe_op op_add_str (pe_op op_add_str (pv 1) pe_str) pe_str)) (pss_one ((ps_ret (pe_join pe_str (pe_lc (own := [("_law_k", 2)]) (g := gName 2) (tt := tYes) (by rfl) nd (pi_range1 (by rfl) (n_range T) (pa_cons ((pe_call (E := E0) GD (hr.mono (by omega)) (by rfl) (g_Ldraw T) kD bD .nil pass0 (pa_cons (pv 0) (pa_cons (pe_int) pa_nil)))) pa_nil)) (blkOk_by (own := [("_law_k", 2)]) (N := N_Lsigns) (sc := defScope s_Lsigns) (by decide +kernel)) (fun _ _ _ _ _ => pg_name (i := 2) nd rfl (Or.inl rfl)) (fun _ _ _ _ _ => pts_nil) (fun _ _ _ _ _ => pe_ix ix_str (pv 1) (pe_call (E := E0) GD (hr.mono (by omega)) (by rfl) (g_Ldraw T) kD bD .nil pass0 (pa_cons (pv 0) (pa_cons (pe_callB (call_lenK (K := K) rfl) (by rfl) (n_len T) PySem.boot_len (pa_cons (pv 1) pa_nil)) pa_nil))) (fun _ _ => rfl))))))))), ?_⟩
    have hl1 : abc1.length = 93 := by decide +kernel
    refine ⟨_, rfl, _, _, rfl, rfl, (by show abc1.length + 1 ≤ _; rw [hl1]; decide), ?_⟩
    refine ⟨_, _, rfl, rfl, (by rw [cat_len]; show abc1.length + 1 + 8 ≤ _; rw [hl1]; decide), ?_⟩
    refine ⟨⟨_, rfl⟩, _, rfl, p, 31, c, rfl, hw, by decide, by decide, by omega, fun H1 n c1 s1 w1 hc1 hn => ?_⟩
    refine ⟨(n : Int), rfl, by omega, by omega, fun D hD => ?_⟩
    have hp1 : H1 p ≠ none := by
      obtain ⟨a, b, e⟩ := w1
      rw [e]
      simp
    have hp0 : H p ≠ none := by
      obtain ⟨a, b, e⟩ := hw
      rw [e]
      simp
    have hDp : D ≠ p := fun e => hp1 (e ▸ hD)
    have hD0 : H D = none := s1.free hp0 hp1 hD
    refine lc_it walk_range (fun t H7 => ∃ (l : List Nat) (c' : Nat), SameB p H H7 ∧ Wl H7 p c' ∧ c' ≤ c1 + t ∧ H7 D = some (.lst (sgV l)) ∧ l.length = t ∧ ∀ x ∈ l, x ∈ tl abcS) ⟨[], c1, s1.trans (.of (same_new hD)), w1.at (same_new hD), Nat.le_refl _, upd_same, rfl, fun x hx => by cases hx⟩ (fun _ _ _ _ => trivial) ?_ ?_
    · rintro t y H7' H7 ht ⟨l, c', s7, w7, hc7, h7, hl, hm⟩ ⟨rfl, rfl⟩
      have ht2 : t < n := by
        have : t < ((n : Int)).toNat := ht
        omega
      refine ⟨rfl, _, rfl, _, rfl, _, rfl, _, 102, rfl, ⟨by decide, abc_len.symm⟩, p, 102, c', rfl, w7, by decide, by decide, by omega, fun H8 k c2 s8 w8 hc8 hk => ?_⟩
      have hk2 : k < (tl abcS).length := by
        have : (tl abcS).length = 102 := by rw [← len_tl, abc_len]
        omega
      have hdr : (tl abcS).drop k = (tl abcS)[k] :: (tl abcS).drop (k + 1) := List.drop_eq_getElem_cons hk2
      have hmem : (tl abcS)[k] ∈ tl abcS := List.getElem_mem hk2
      generalize (tl abcS)[k] = x at hdr hmem
      have hD8 : H8 D = some (.lst (sgV l)) := s8 _ _ hDp h7
      refine ⟨abcS, (k : Int), x, rfl, rfl, (by rw [abc_len]; decide), cp_at hdr, sgV l, hD8, ?_, l ++ [x], c2, ?_, ?_, by omega, ?_, ?_, ?_⟩
      · unfold sgV
        rw [List.length_map, sizeLine_eq]
        omega
      · intro b o hb ho
        rw [upd_ne (ne_of_none ho hD0)]
        exact (s7.trans s8) b o hb ho
      · obtain ⟨a, b, e⟩ := w8
        exact ⟨a, b, by rw [upd_ne hDp.symm]; exact e⟩
      · rw [upd_same, sgV_app]
        rfl
      · rw [List.length_append, List.length_singleton, hl]
      · intro y hy
        rcases List.mem_append.mp hy with hy | hy
        · exact hm y hy
        · rw [List.mem_singleton] at hy
          rw [hy]
          exact hmem
    · rintro H7 ⟨l, c', s7, w7, hc7, h7, hl, hm⟩
      have hl2 : l.length = n := by
        rw [hl]
        show ((n : Int)).toNat = n
        omega
      refine ⟨_, D, l.map fun c => mkS [c], rfl, rfl, .inl (SqL.of (by rw [h7]; unfold sgV; rw [List.map_map]; rfl)), ?_, ?_⟩
      · have e0 : (Str.ofString "").length = 0 := rfl
        rw [e0, sum_sg]
        omega
      · rw [join_sg]
        have : c' ≤ c + 40 := by
          have e : ((n : Int)).toNat = n := by omega
          have hc7 : c' ≤ c1 + ((n : Int)).toNat := hc7
          omega
        exact k H7 l c' s7 w7 this (by omega) hm
end
end PX
/-! EXq -/
namespace PX
open PySem PySem.Spec PyProof.Rows L2 TL
theorem op_mulS {X : Cx} : OpR X (binaryOp .Mult) (fun x y H Q => ∃ (c k : Nat), x = .str (mkS [c]) ∧ y = .int (k : Int) ∧ k ≤ 2 ∧ Q (.str (mkS (List.replicate k c))) H) := by
  intro pins s σ H x y v u Q I rx ry h
  obtain ⟨c, k, rfl, rfl, hk, q⟩ := h
  obtain ⟨t, rfl⟩ := rx
  obtain ⟨t', rfl⟩ := ry
  have hl : (mkS [c]).length = 1 := rfl
  refine P.mul_str ?_ ?_ ?_ ?_
  · simp only [Bool.or_eq_false_iff, decide_eq_false_iff_not]
    omega
  · intro h1 h2
    rw [hl]
    have : k = 2 := by
      simp at h2
      omega
    subst this
    decide
  · intro h1 h2
    have : k = 2 := by
      simp at h2
      omega
    subst this
    rw [hl]
    decide
  · have hs0 : Str.empty.length ≤ sizeLine := Nat.zero_le _
    have hs2 : (⟨#[c] ++ #[c]⟩ : Str).length ≤ sizeLine := by show 2 ≤ sizeLine; decide
    match k, hk with
    | 0, _ =>
      exact show Str.empty.length ≤ sizeLine ∧ EP X pins σ Q (.str Str.empty s.toks) { s with toks := s.toks + 1 } from ⟨hs0, .str (mkS (List.replicate 0 c)), H, I.tok _, ⟨_, rfl⟩, q⟩
    | 1, _ =>
      exact show EP X pins σ Q (.str (mkS [c]) t) s from ⟨.str (mkS (List.replicate 1 c)), H, I, ⟨_, rfl⟩, q⟩
    | 2, _ =>
      exact show (⟨#[c] ++ #[c]⟩ : Str).length ≤ sizeLine ∧ EP X pins σ Q (.str ⟨#[c] ++ #[c]⟩ s.toks) { s with toks := s.toks + 1 } from ⟨hs2, .str (mkS (List.replicate 2 c)), H, I.tok _, ⟨_, rfl⟩, q⟩
/-! ### references by numbers -/
def hx (d : Nat) : Nat := if d < 10 then 48 + d else 87 + d
def dg3 (b n : Nat) : List Nat := [hx (n / b / b % b), hx (n / b % b), hx (n % b)]
def pcR (b z : Nat) (st : Bool) (n : Nat) : List Nat := (if b = 16 then [38, 35, 120] else [38, 35]) ++ (List.replicate z 48 ++ ((if st then (dg3 b n).drop (spN (· == 48) (dg3 b n)) else dg3 b n) ++ [59]))
theorem pcR_ok : ∀ c ∈ tl abcS, ∀ b ∈ [10, 16], ∀ z ∈ [0, 1, 2], ∀ st ∈ [true, false], rfO (pcR b z st c) = some ((pcR b z st c).length, c) := by decide +kernel
theorem pcR_sg : ∀ c ∈ tl abcS, ∀ b ∈ [10, 16], ∀ z ∈ [0, 1, 2], ∀ st ∈ [true, false], (∀ x ∈ pcR b z st c, isSg x = true) := by decide +kernel
theorem hx_ix : ∀ d, d < 16 → (tl (Str.ofString "0123456789abcdef")).drop d = hx d :: (tl (Str.ofString "0123456789abcdef")).drop (d + 1) := by decide +kernel
inductive Rf : List Nat → List Nat → Prop
  | nil : Rf [] []
  | cons {p t l : List Nat} {c : Nat} (h1 : rfO p = some (p.length, c)) (h2 : ∃ r, p = 38 :: 35 :: r) (h3 : p.length ≤ 10 ∧ ∀ x ∈ p, isSg x = true) (h4 : Rf t l) : Rf (p ++ t) (c :: l)
theorem Rf.snoc {p t l : List Nat} {c : Nat} (h : Rf t l) (h1 : rfO p = some (p.length, c)) (h2 : ∃ r, p = 38 :: 35 :: r) (h3 : p.length ≤ 10 ∧ ∀ x ∈ p, isSg x = true) : Rf (t ++ p) (l ++ [c]) := by
  induction h with
  | nil =>
    have := Rf.cons h1 h2 h3 .nil
    rw [List.append_nil] at this
    exact this
  | cons k1 k2 k3 k4 ih =>
    rw [List.append_assoc]
    exact .cons k1 k2 k3 ih
theorem nuO_app (b : Nat) : ∀ (p : List Nat) (acc : Nat) {q : Nat × Nat} (r : List Nat), nuO b acc p = some q → nuO b acc (p ++ r) = some q
  | [], acc, q, r, h => by cases h
  | c :: p, acc, q, r, h => by
    show nuO b acc (c :: (p ++ r)) = _
    unfold nuO at h ⊢
    cases hd : dig b c with
    | none =>
      rw [hd] at h
      exact h
    | some d =>
      rw [hd] at h
      dsimp only at h ⊢
      by_cases hl : leads b (acc * b + d) = true
      · rw [if_pos hl] at h ⊢
        cases e : nuO b (acc * b + d) p with
        | none => rw [e] at h; cases h
        | some u =>
          rw [e] at h
          rw [nuO_app b p (acc * b + d) r e]
          exact h
      · rw [if_neg hl] at h
        cases h
theorem digO_app {b : Nat} {p : List Nat} (r : List Nat) (h : digO b p = true) : digO b (p ++ r) = true := by
  cases p with
  | nil => cases h
  | cons c p => exact h
theorem nrO_app {p : List Nat} {q : Nat × Nat} (r : List Nat) (h : nrO p = some q) : nrO (p ++ r) = some q := by
  cases p with
  | nil => cases h
  | cons c p =>
    by_cases hc : c = 120
    · subst hc
      show nrO (120 :: (p ++ r)) = _
      have h : (if digO 16 p then (nuO 16 0 p).map fun q => (q.1 + 1, q.2) else none) = some q := h
      show (if digO 16 (p ++ r) then (nuO 16 0 (p ++ r)).map fun q => (q.1 + 1, q.2) else none) = some q
      by_cases hd : digO 16 p = true
      · rw [if_pos hd] at h
        rw [if_pos (digO_app r hd)]
        cases e : nuO 16 0 p with
        | none => rw [e] at h; cases h
        | some u =>
          rw [e] at h
          rw [nuO_app 16 p 0 r e]
          exact h
      · rw [if_neg hd] at h
        cases h
    · have e1 : ∀ l : List Nat, nrO (c :: l) = if digO 10 (c :: l) then nuO 10 0 (c :: l) else none := fun l => by
        unfold nrO
        split
        · rename_i e
          exact absurd (List.cons.inj e).1 hc
        · rfl
      rw [e1] at h
      show nrO (c :: (p ++ r)) = _
      rw [e1]
      by_cases hd : digO 10 (c :: p) = true
      · rw [if_pos hd] at h
        rw [if_pos (show digO 10 (c :: (p ++ r)) = true from hd)]
        exact nuO_app 10 (c :: p) 0 r h
      · rw [if_neg hd] at h
        cases h
theorem rfO_app {p : List Nat} {q : Nat × Nat} (r : List Nat) (h : rfO (38 :: 35 :: p) = some q) : rfO (38 :: 35 :: p ++ r) = some q := by
  show rfO (38 :: 35 :: (p ++ r)) = _
  rw [rfO_num] at h ⊢
  cases e : nrO p with
  | none => rw [e] at h; cases h
  | some u =>
    rw [e] at h
    rw [nrO_app r e]
    exact h
end PX
/-! EXr -/
namespace PX
open PySem PySem.Spec PyProof.Rows L2 TL
theorem Wl.some {H : Hp} {p : Addr} {c : Nat} (h : Wl H p c) : H p ≠ none := by
  obtain ⟨a, b, e⟩ := h
  rw [e]
  simp
theorem z48_hi (c : Nat) (h : 128 ≤ c) : (c == 48) = false := beq_eq_false_iff_ne.mpr (by omega)
theorem z48_eq (c : Nat) : decide (c ∈ (Str.ofString "0").cps.toList) = (c == 48) := by
  by_cases h : c = 48
  · subst h; decide
  · rw [beq_eq_false_iff_ne.mpr h]
    exact decide_eq_false (fun hm => h (List.mem_singleton.mp hm))
theorem fmodN (n b : Nat) : ((n : Int)).fmod (b : Int) = ((n % b : Nat) : Int) := by
  rw [Int.fmod_eq_emod_of_nonneg _ (by omega)]; omega
theorem fdivN (n b : Nat) : ((n : Int)).fdiv (b : Int) = ((n / b : Nat) : Int) := by
  rw [Int.fdiv_eq_ediv_of_nonneg _ (by omega)]; norm_cast
def nmJ (b d : Nat) : Nat → Nat
  | 0 => d
  | j + 1 => nmJ b d j / b
def dsJ (b d : Nat) : Nat → List Nat
  | 0 => []
  | j + 1 => hx (nmJ b d j % b) :: dsJ b d j
theorem dsJ3 (b d : Nat) : dsJ b d 3 = dg3 b d := rfl
theorem dsJ_len (b d : Nat) : ∀ j, (dsJ b d j).length = j
  | 0 => rfl
  | j + 1 => by
    show (dsJ b d j).length + 1 = j + 1
    rw [dsJ_len]
section
variable {P : Program} {w : World} {K : PySem.W.Frag} {mg : Str → Option Value} {base : Heap}
def spLrf : Sp := fun vs H Q _ => ∃ (p : Addr) (c b : Nat) (l : List Nat), vs = [.ref p, .str (mkS l), .int (b : Int)] ∧ Wl H p c ∧ c ≤ 1000000 ∧ (b = 10 ∨ b = 16) ∧ l.length ≤ 30 ∧ (∀ x ∈ l, x ∈ tl abcS) ∧
  ∀ H' (t : List Nat) (c' : Nat), SameB p H H' → Wl H' p c' → c' ≤ c + 100 → Rf t l → t.length ≤ 300 → Q (.str (mkS t)) H'
theorem ok_Lreferred (T : Tx w K mg) : Ok P w K mg base CX0 2 (He.fAd K d_Lreferred.at_) p_Lreferred spLrf := by
  obtain ⟨fd, F⟩ := f_Lreferred T
  obtain ⟨fD, GD, bD, kD⟩ := ok_Ldraw (P := P) (base := base) T
  refine ⟨fd, ?_, b_Lreferred F, F.kp⟩
  refine F.ok sc_Lreferred (fun vs H Q E h => ?_) (fun cdv A outer s H vs Q E hr h => ?_)
  · obtain ⟨p, c, b, l, rfl, _⟩ := h
    rfl
  · obtain ⟨p, c, b, l, rfl, hw, hc, hb, hl, hm, k⟩ := h
    have nd := sc_Lreferred.nd
    refine ⟨_, PSs.nox (pss_cons (ps_set (i := 3) nd rfl (.inl rfl) pe_str) (pss_cons ((ps_for PassesOwn.never rfl (pi_str (pv 1)) ((pg_name (i := 4) nd rfl (.inl rfl))) (pss_cons (ps_par (i := 5) (j := 6) (by rfl) nd rfl rfl (by decide) rfl rfl (pa_cons (pe_callB call_ord (by rfl) (n_ord T) (by decide +kernel) (pa_cons (pv 4) pa_nil)) (pa_cons (pe_str) pa_nil)) (by rfl)) (pss_cons ((ps_for PassesOwn.never rfl (pi_range1 (by rfl) (n_range T) (pa_cons (pe_int) pa_nil)) ((pg_name (i := 7) nd rfl (.inl rfl))) (pss_cons (ps_set (i := 6) nd rfl (.inl rfl) (pe_op op_add_str (pe_ix ix_str pe_str (pe_op op_modN (pe_callTy call_int1 (by rfl) (n_int T) boot_int (pa_cons (pv 5) pa_nil)) (pv 2)) (fun _ _ => rfl)) (pv 6))) (pss_one (ps_set (i := 5) nd rfl (.inl rfl) (pe_op op_fdivN (pv 5) (pv 2))))))) (pss_cons (ps_set (i := 8) nd rfl (.inl rfl) (pe_op op_add_str (pe_ix ix_list (pe_lst (pa_cons (pe_str) (pa_cons (pe_str) pa_nil))) (pe_callTy call_int1 (by rfl) (n_int T) boot_int (pa_cons (pe_cmpR op_eq (pv 2) pe_int (nomark _)) pa_nil)) (fun _ _ => rfl)) (pe_op op_mulS pe_str (pe_call (E := E0) GD (hr.mono (by omega)) (by rfl) (g_Ldraw T) kD bD .nil pass0 (pa_cons (pv 0) (pa_cons (pe_int) pa_nil)))))) (Evl.pss_cut ((ps_if ((pt_cmpR op_eq ((pe_call (E := E0) GD (hr.mono (by omega)) (by rfl) (g_Ldraw T) kD bD .nil pass0 (pa_cons (pv 0) (pa_cons (pe_int) pa_nil)))) (pe_int) (nomark _))) (pss_one (ps_set (i := 6) nd rfl (.inl rfl) (pe_bm PySem.F.plainAttrs_str PySem.F.slot_str_lstrip PySem.F.type_str_lstrip mt_lstripChars (pv 6) (pa_cons (pe_str) pa_nil)))) pss_nil)) (pss_one (ps_set (i := 3) nd rfl (.inl rfl) (pe_op op_add_str (pe_op op_add_str (pe_op op_add_str (pv 3) (pv 8)) (pv 6)) pe_str))))))))) (pss_one ((ps_ret (pv 3)))))), ?_⟩
    have hb0 : (b : Int) ≠ 0 := by omega
    refine ⟨_, rfl, mkS l, rfl, ?_⟩
    refine for_it walk_str (fun i σ H2 => ∃ (t : List Nat) (c' : Nat) (v4 v5 v6 v7 v8 : Option V), σ = [some (.ref p), some (.str (mkS l)), some (.int (b : Int)), some (.str (mkS t)), v4, v5, v6, v7, v8] ∧ SameB p H H2 ∧ Wl H2 p c' ∧ c' ≤ c + 3 * i ∧ Rf t (l.take i) ∧ t.length ≤ 10 * i)
      ⟨[], c, none, none, none, none, none, rfl, .refl _ _, hw, Nat.le_refl _, .nil, Nat.zero_le _⟩ (fun _ _ _ _ _ => trivial) ?_ ?_
    · rintro i x σ Hq1 Hq hi ⟨t, c', v4, v5, v6, v7, v8, rfl, s1, w1, hc1, hrf, htl⟩ ⟨rfl, d, hd, rfl⟩
      have hd' : l[i]? = some d := by
        have h1 : (tl (mkS l))[i]? = some d := by
          rw [← hd]
          exact Array.getElem?_toList
        rw [tl_mkS] at h1
        exact h1
      have hil := (List.getElem?_eq_some_iff.mp hd').1
      have hdm := hm d (List.mem_of_getElem? hd')
      refine ⟨_, rfl, _, rfl, rfl, _, _, rfl, ?_⟩
      refine ⟨3, rfl, by decide, by decide, ?_⟩
      refine for_it walk_range (fun j σ H2 => ∃ (v7 : Option V), σ = [some (.ref p), some (.str (mkS l)), some (.int (b : Int)), some (.str (mkS t)), some (.str (mkS [d])), some (.int ((nmJ b d j : Nat) : Int)), some (.str (mkS (dsJ b d j))), v7, v8] ∧ H2 = Hq) ⟨v7, rfl, rfl⟩ (fun _ _ _ _ _ => trivial) ?_ ?_
      · rintro j y σ H2' H2 hj ⟨v7, rfl, rfl⟩ ⟨rfl, rfl⟩
        have hj3 : j < 3 := hj
        have hmod : nmJ b d j % b < 16 := by
          have := Nat.mod_lt (nmJ b d j) (show b > 0 by omega)
          omega
        have hdl := dsJ_len b d j
        refine ⟨_, rfl, .inl ⟨_, rfl, _, rfl, _, _, rfl, rfl, hb0, ?_⟩⟩
        refine ⟨Str.ofString "0123456789abcdef", ((nmJ b d j % b : Nat) : Int), hx (nmJ b d j % b), rfl, congrArg V.int (fmodN _ _), by decide, cp_at (hx_ix _ hmod), _, rfl, mkS [hx (nmJ b d j % b)], _, rfl, rfl, (by rw [mkS_len, mkS_len, sizeLine_eq, hdl, List.length_singleton]; omega), ?_⟩
        rw [cat_mk]
        refine ⟨_, rfl, _, rfl, _, _, rfl, rfl, ⟨hb0, by omega⟩, ?_⟩
        refine ⟨some (V.int (0 + (j : Int))), ?_, rfl⟩
        have e := fdivN (nmJ b d j) b
        show [some (V.ref p), some (V.str (mkS l)), some (V.int (b : Int)), some (V.str (mkS t)), some (V.str (mkS [d])), some (V.int ((nmJ b d j : Int).fdiv (b : Int))), some (V.str (mkS (dsJ b d (j + 1)))), some (V.int (0 + (j : Int))), v8] = _
        rw [e]
        rfl
      · rintro σ H2 ⟨v7, rfl, rfl⟩
        rw [show dsJ b d (Int.toNat 3) = dg3 b d from rfl]
        generalize nmJ b d (Int.toNat 3) = nm3
        have hp2 := w1.some
        -- the front
        have front : ∃ fr : List Nat, fr = (if b = 16 then [38, 35, 120] else [38, 35]) := ⟨_, rfl⟩
        obtain ⟨fr, hfr⟩ := front
        have hfl : fr.length ≤ 3 := by
          rw [hfr]
          split <;> decide
        have hidx : ∃ i : Nat, (V.int (if decide (V.int (b : Int) = V.int 16) = true then 1 else 0)) = V.int (i : Int) ∧ [V.str (Str.ofString "&#"), V.str (Str.ofString "&#x")][i]? = some (V.str (mkS fr)) := by
          rcases hb with rfl | rfl
          · exact ⟨0, by decide, by rw [hfr]; rfl⟩
          · exact ⟨1, by decide, by rw [hfr]; rfl⟩
        obtain ⟨ix, hix, hfx⟩ := hidx
        refine ⟨by decide, fun L hL => ?_⟩
        have sL := same_new hL (o := .lst [V.str (Str.ofString "&#"), V.str (Str.ofString "&#x")])
        refine ⟨_, rfl, rfl, .inr ⟨_, rfl, L, [V.str (Str.ofString "&#"), V.str (Str.ofString "&#x")], (ix : Int), _, rfl, hix, SqL.of upd_same, atI_nat hfx, _, rfl, p, 3, c', rfl, w1.at sL, by decide, by decide, by omega, fun H5 z c2 s5 w5 hc2 hz => ?_⟩⟩
        refine ⟨48, z, rfl, rfl, by omega, mkS fr, _, rfl, rfl, (by rw [mkS_len, mkS_len, List.length_replicate, sizeLine_eq]; omega), ?_⟩
        rw [cat_mk]
        have s15 : SameB p H H5 := s1.trans ((SameB.of sL).trans s5)
        refine ⟨fun σ H6 => ∃ (st : Bool) (c3 : Nat), σ = [some (.ref p), some (.str (mkS l)), some (.int (b : Int)), some (.str (mkS t)), some (.str (mkS [d])), some (.int (nm3 : Int)), some (.str (mkS (if st then (dg3 b d).drop (spN (· == 48) (dg3 b d)) else dg3 b d))), v7, some (.str (mkS (fr ++ List.replicate z 48)))] ∧ SameB p H H6 ∧ Wl H6 p c3 ∧ c3 ≤ c2 + 1, ?_, ?_⟩
        · refine ⟨_, rfl, p, 2, c2, rfl, w5, by decide, by decide, by omega, fun H6 y c3 s6 w6 hc3 hy => ?_⟩
          refine ⟨rfl, _, rfl, ?_⟩
          refine ite2 (fun _ => ?_) (fun _ => ?_)
          · refine ⟨_, rfl, rfl, _, _, rfl, rfl, (by rw [mkS_len]; show 3 ≤ sizeLine; decide), ?_⟩
            rw [lstrip_mk (dg3 b d) (Str.ofString "0") (· == 48) z48_eq]
            exact ⟨true, c3, rfl, s15.trans s6, w6, hc3⟩
          · exact ⟨false, c3, rfl, s15.trans s6, w6, hc3⟩
        · rintro σ H6 ⟨st, c3, rfl, s6, w6, hc3⟩
          have hdl : (if st then (dg3 b d).drop (spN (· == 48) (dg3 b d)) else dg3 b d).length ≤ 3 := by
            split
            · rw [List.length_drop]
              show 3 - _ ≤ 3
              omega
            · exact Nat.le_refl _
          have ht3 : t.length ≤ 300 := by omega
          have lsc : (Str.ofString ";").length = 1 := rfl
          generalize hdg : (if st then (dg3 b d).drop (spN (· == 48) (dg3 b d)) else dg3 b d) = dg at hdl
          refine ⟨_, rfl, _, rfl, mkS t, mkS (fr ++ List.replicate z 48), rfl, rfl, (by rw [mkS_len, mkS_len, List.length_append, List.length_replicate, sizeLine_eq]; omega), ?_⟩
          rw [cat_mk]
          refine ⟨_, rfl, _, mkS dg, rfl, rfl, (by rw [mkS_len, mkS_len, List.length_append, List.length_append, List.length_replicate, sizeLine_eq]; omega), ?_⟩
          rw [cat_mk]
          refine ⟨_, _, rfl, rfl, (by rw [mkS_len, lsc, List.length_append, List.length_append, List.length_append, List.length_replicate, sizeLine_eq]; omega), ?_⟩
          have epc : t ++ (fr ++ List.replicate z 48) ++ dg ++ [59] = t ++ pcR b z st d := by
            unfold pcR
            rw [hfr, hdg]
            simp
          have ecat : mkS (t ++ (fr ++ List.replicate z 48) ++ dg) ++ Str.ofString ";" = mkS (t ++ pcR b z st d) := by
            show mkS (t ++ (fr ++ List.replicate z 48) ++ dg) ++ mkS [59] = _
            rw [cat_mk, epc]
          rw [ecat]
          have hok := pcR_ok d hdm b (by rcases hb with rfl | rfl <;> simp) z (by
            have : z = 0 ∨ z = 1 ∨ z = 2 := by omega
            rcases this with rfl | rfl | rfl <;> simp) st (by cases st <;> simp)
          have hpl : (pcR b z st d).length ≤ 10 := by
            unfold pcR
            rw [hdg, ← hfr]
            simp only [List.length_append, List.length_replicate, List.length_singleton]
            omega
          have hsg := pcR_sg d hdm b (by rcases hb with rfl | rfl <;> simp) z (by
            have : z = 0 ∨ z = 1 ∨ z = 2 := by omega
            rcases this with rfl | rfl | rfl <;> simp) st (by cases st <;> simp)
          have htk : l.take (i + 1) = l.take i ++ [d] := by
            obtain ⟨hlt, hge⟩ := List.getElem?_eq_some_iff.mp hd'
            rw [List.take_succ_eq_append_getElem hlt, hge]
          refine ⟨t ++ pcR b z st d, c3, _, _, _, _, _, rfl, s6, w6, by omega, ?_, ?_⟩
          · rw [htk]
            refine hrf.snoc hok ?_ ⟨hpl, hsg⟩
            unfold pcR
            split <;> exact ⟨_, rfl⟩
          · rw [List.length_append]
            omega
    · rintro σ H2 ⟨t, c', v4, v5, v6, v7, v8, rfl, s1, w1, hc1, hrf, htl⟩
      have e : (mkS l).cps.size = l.length := mkS_len l
      rw [e] at hc1 hrf htl
      rw [List.take_length] at hrf
      exact ⟨_, rfl, k H2 t c' s1 w1 (by omega) hrf (by omega)⟩
end
end PX
/-! EXs -/
namespace PX
open PySem PySem.Spec PyProof.Rows L2 TL
def lmF (b : Bool) (c : Nat) : List Nat := if b then amF c else txF c
def tbK : List (Key × V) := [(Sum.inr (Str.ofString "&"), .str (Str.ofString "&amp;")), (Sum.inr (Str.ofString "<"), .str (Str.ofString "&lt;"))]
def m0K : List (Key × V) := [(Sum.inr (Str.ofString ">"), .str (Str.ofString "&gt;"))]
def m1K : List (Key × V) := [(Sum.inr (Str.ofString "\""), .str (Str.ofString "&quot;")), (Sum.inr (Str.ofString "\t"), .str (Str.ofString "&#9;")), (Sum.inr (Str.ofString "\n"), .str (Str.ofString "&#10;"))]
theorem tb_mk : mergeK [] tbK = tbK := by decide +kernel
theorem m0_mk : mergeK [] m0K = m0K := by decide +kernel
theorem m1_mk : mergeK [] m1K = m1K := by decide +kernel
theorem lm_ok : ∀ c ∈ tl abcS, ∀ b : Bool, (valV tbK (Sum.inr (mkS [c]))).getD ((valV (if b then m1K else m0K) (Sum.inr (mkS [c]))).getD (.str (mkS [c]))) = .str (mkS (lmF b c)) := by decide +kernel
theorem lmF_len (b : Bool) (c : Nat) : (lmF b c).length ≤ 6 := by
  cases b with
  | true => exact amF_len c
  | false =>
    show (txF c).length ≤ 6
    unfold txF
    repeat' split
    all_goals simp
theorem lm_sum (b : Bool) : ∀ l : List Nat, (((l.map (lmF b)).map mkS).map (·.length)).sum ≤ 6 * l.length
  | [] => Nat.le_refl _
  | c :: l => by
    have h1 := lmF_len b c
    have h2 := lm_sum b l
    have e2 : (mkS (lmF b c)).length = (lmF b c).length := mkS_len _
    show (mkS (lmF b c)).length + (((l.map (lmF b)).map mkS).map (·.length)).sum ≤ 6 * (l.length + 1)
    omega
section
variable {P : Program} {w : World} {K : PySem.W.Frag} {mg : Str → Option Value} {base : Heap}
def spLpl : Sp := fun vs H Q _ => ∃ (l : List Nat) (b : Bool), vs = [.str (mkS l), .bl b] ∧ l.length ≤ 30 ∧ (∀ x ∈ l, x ∈ tl abcS) ∧ ∀ H', Same H H' → Q (.str (mkS (l.flatMap (lmF b)))) H'
theorem ok_Lplain (T : Tx w K mg) : Ok P w K mg base CX0 1 (He.fAd K d_Lplain.at_) p_Lplain spLpl := by
  obtain ⟨fd, F⟩ := f_Lplain T
  refine ⟨fd, ?_, b_Lplain F, F.kp⟩
  refine F.ok sc_Lplain (fun vs H Q E h => ?_) (fun cdv A outer s H vs Q E hr h => ?_)
  · obtain ⟨l, b, rfl, _⟩ := h
    rfl
  · obtain ⟨l, b, rfl, hl, hm, k⟩ := h
    have nd := sc_Lplain.nd
    refine ⟨_, PSs.nox (pss_cons (ps_set (i := 2) nd rfl (.inr rfl) (pe_disp (pps_cons pe_str pe_str (pps_cons pe_str pe_str pps_nil)) (by rfl) (by rfl) (fun z => by cases z) (by decide))) (pss_cons (ps_set (i := 3) nd rfl (.inr rfl) (pe_ix ix_list (pe_lst (pa_cons (pe_disp (pps_cons pe_str pe_str pps_nil) (by rfl) (by rfl) (fun z => by cases z) (by decide)) (pa_cons (pe_disp (pps_cons pe_str pe_str (pps_cons pe_str pe_str (pps_cons pe_str pe_str pps_nil))) (by rfl) (by rfl) (fun z => by cases z) (by decide)) pa_nil))) (pe_callTy call_int1 (by rfl) (n_int T) boot_int (pa_cons (pv 1) pa_nil)) (fun _ _ => rfl))) (pss_one ((ps_ret (pe_join pe_str (pe_lc (own := [("_law_sign", 4)]) (g := gName 4) (tt := tYes) (by rfl) nd (pi_str (pv 0)) (blkOk_by (own := [("_law_sign", 4)]) (N := N_Lplain) (sc := defScope s_Lplain) (by decide +kernel)) (fun _ _ _ _ _ => pg_name (i := 4) nd rfl (Or.inl rfl)) (fun _ _ _ _ _ => pts_nil) (fun _ _ _ _ _ => pe_dget2 (room_hu hr) (pv 2) (pv 4) (pe_dget2 (room_hu hr) (pv 3) (pv 4) (pv 4) ⟨rfl, rfl, rfl, rfl⟩) ⟨rfl, rfl, rfl, rfl⟩)))))))), ?_⟩
    refine fun d hd => ⟨upd_same, tbK, rfl, by decide, ?_⟩
    rw [tb_mk]
    have h1 : upd (upd H d (.dK [])) d (.dK tbK) d = some (.dK tbK) := upd_same
    have s1 : Same H (upd (upd H d (.dK [])) d (.dK tbK)) := same_upd0 (same_new hd) hd
    generalize upd (upd H d (.dK [])) d (.dK tbK) = H1 at h1 s1 ⊢
    refine fun d0 hd0 => ⟨upd_same, m0K, rfl, by decide, ?_⟩
    rw [m0_mk]
    have h2 : upd (upd H1 d0 (.dK [])) d0 (.dK m0K) d0 = some (.dK m0K) := upd_same
    have s2 : Same H1 (upd (upd H1 d0 (.dK [])) d0 (.dK m0K)) := same_upd0 (same_new hd0) hd0
    generalize upd (upd H1 d0 (.dK [])) d0 (.dK m0K) = H2 at h2 s2 ⊢
    refine fun d1 hd1 => ⟨upd_same, m1K, rfl, by decide, ?_⟩
    rw [m1_mk]
    have h3 : upd (upd H2 d1 (.dK [])) d1 (.dK m1K) d1 = some (.dK m1K) := upd_same
    have s3 : Same H2 (upd (upd H2 d1 (.dK [])) d1 (.dK m1K)) := same_upd0 (same_new hd1) hd1
    generalize upd (upd H2 d1 (.dK [])) d1 (.dK m1K) = H3 at h3 s3 ⊢
    refine ⟨(by show 2 ≤ sizeLine; decide), fun L hL => ?_⟩
    have s4 := same_new hL (o := .lst [V.ref d0, .ref d1])
    have hsel : ∃ m, [V.ref d0, .ref d1][if b then 1 else 0]? = some (.ref m) ∧ H3 m = some (.dK (if b then m1K else m0K)) := by
      cases b with
      | true => exact ⟨d1, rfl, h3⟩
      | false => exact ⟨d0, rfl, s3 _ _ h2⟩
    obtain ⟨m, hm1, hm2⟩ := hsel
    have hix : V.int (if b = true then 1 else 0) = V.int ((if b then 1 else 0 : Nat) : Int) := by cases b <;> rfl
    refine ⟨_, rfl, .inr ⟨_, rfl, L, [V.ref d0, .ref d1], _, _, rfl, hix, SqL.of upd_same, atI_nat hm1, ?_⟩⟩
    have h5 := s4 _ _ hm2
    have h5t := s4 _ _ (s3 _ _ (s2 _ _ h1))
    have s5 : Same H (upd H3 L (.lst [V.ref d0, .ref d1])) := ((s1.trans s2).trans s3).trans s4
    generalize upd H3 L (.lst [V.ref d0, .ref d1]) = H5 at h5 h5t s5 ⊢
    refine ⟨⟨_, rfl⟩, _, rfl, mkS l, rfl, fun D hD => ?_⟩
    refine lc_it walk_str (fun t H6 => Same H5 H6 ∧ H6 D = some (.lst ((l.take t).map fun c => V.str (mkS (lmF b c))))) ⟨same_new hD, upd_same⟩ (fun _ _ _ _ => trivial) ?_ ?_
    · rintro t x H6' H6 ht ⟨s6, h6⟩ ⟨rfl, c, hc, rfl⟩
      have hc' : l[t]? = some c := by
        have h1 : (tl (mkS l))[t]? = some c := by
          rw [← hc]
          exact Array.getElem?_toList
        rw [tl_mkS] at h1
        exact h1
      have hcm := hm c (List.mem_of_getElem? hc')
      have htk : l.take (t + 1) = l.take t ++ [c] := by
        obtain ⟨hlt, hge⟩ := List.getElem?_eq_some_iff.mp hc'
        rw [List.take_succ_eq_append_getElem hlt, hge]
      refine ⟨rfl, _, rfl, d, rfl, .inl ⟨tbK, .inl (s6 _ _ h5t)⟩, _, rfl, _, rfl, m, rfl, .inl ⟨_, .inl (s6 _ _ h5)⟩, _, rfl, _, rfl, _, DGet.k (k := Sum.inr (mkS [c])) (s6 _ _ h5), _, DGet.k (k := Sum.inr (mkS [c])) (s6 _ _ h5t), ?_⟩
      have e := lm_ok c hcm b
      show ∃ acc, _
      rw [show ({ cps := #[c] } : Str) = mkS [c] from rfl, e]
      refine ⟨_, h6, ?_, same_upd0 s6 hD, ?_⟩
      · rw [List.length_map, List.length_take, sizeLine_eq]
        omega
      · rw [upd_same, htk, List.map_append]
        rfl
    · rintro H6 ⟨s6, h6⟩
      have e : (mkS l).cps.size = l.length := mkS_len l
      have h6 : H6 D = some (.lst ((l.take (mkS l).cps.size).map fun c => V.str (mkS (lmF b c)))) := h6
      rw [e, List.take_length] at h6
      refine ⟨_, D, (l.map (lmF b)).map mkS, rfl, rfl, .inl (SqL.of (by rw [h6, List.map_map, List.map_map]; rfl)), ?_, ?_⟩
      · have e0 : (Str.ofString "").length = 0 := rfl
        have e1 := lm_sum b l
        rw [e0]
        omega
      · rw [join_tx, ← List.flatMap_def]
        exact k _ (s5.trans s6)
end
end PX
/-! EXt -/
namespace PX
open PySem PySem.Spec PyProof.Rows L2 TL
/-- signs that stand for a sign wherever they stand -/
def GdP (p : List Nat) (c : Nat) : Prop := (∀ r, rfO (p ++ r) = some (p.length, c)) ∧ (∃ r, p = 38 :: r)
inductive Qt (q : Nat) : List Nat → List Nat → Prop
  | nil : Qt q [] []
  | ref {p t l : List Nat} {c : Nat} (h1 : GdP p c) (h2 : Qt q t l) : Qt q (p ++ t) (c :: l)
  | one {t l : List Nat} {c : Nat} (h1 : c ≠ q ∧ c ≠ 60 ∧ c ≠ 38 ∧ bl32 c = c) (h2 : Qt q t l) : Qt q (c :: t) (c :: l)
theorem va_qt {q : Nat} (hq : q ≠ 38) {A l : List Nat} (h : Qt q A l) : ∀ (f : Nat) (rest : List Nat), A.length < f → vaO f q (A ++ q :: rest) = some (A.length + 1, l) := by
  induction h with
  | nil =>
    intro f rest hf
    cases f with
    | zero => omega
    | succ f =>
      show vaO (f + 1) q (q :: rest) = _
      rw [vaO_cons, if_pos rfl]
      rfl
  | @ref p t l c h1 h2 ih =>
    intro f rest hf
    obtain ⟨hr, p', rfl⟩ := h1
    cases f with
    | zero => omega
    | succ f =>
      rw [List.append_assoc]
      show vaO (f + 1) q (38 :: (p' ++ (t ++ q :: rest))) = _
      have hr2 : rfO (38 :: (p' ++ (t ++ q :: rest))) = some (p'.length + 1, c) := hr (t ++ q :: rest)
      rw [vaO_cons, if_neg (fun e => hq e.symm), if_neg (by decide), if_pos rfl, hr2]
      simp only [List.length_append, List.length_cons] at hf
      have ih2 := ih f rest (by omega)
      show Option.map (fun v => (p'.length + 1 + v.1, c :: v.2)) (vaO f q ((p' ++ (t ++ q :: rest)).drop p'.length)) = _
      rw [List.drop_left' rfl, ih2]
      show some (p'.length + 1 + (t.length + 1), c :: l) = some ((38 :: (p' ++ t)).length + 1, c :: l)
      rw [List.length_cons, List.length_append]
      congr 2
      omega
  | @one t l c h1 h2 ih =>
    intro f rest hf
    cases f with
    | zero => omega
    | succ f =>
      show vaO (f + 1) q (c :: (t ++ q :: rest)) = _
      simp only [List.length_cons] at hf
      rw [vaO_cons, if_neg h1.1, if_neg h1.2.1, if_neg h1.2.2.1, ih f rest (by omega)]
      show some (1 + (t.length + 1), bl32 c :: l) = some ((c :: t).length + 1, c :: l)
      rw [h1.2.2.2, List.length_cons]
      congr 2
      omega
/-! ### content -/
inductive Ct : List Nat → List Nat → Prop
  | nil : Ct [] []
  | ref {p t l : List Nat} {c : Nat} (h1 : GdP p c) (h2 : Ct t l) : Ct (p ++ t) (c :: l)
  | one {t l : List Nat} {c : Nat} (h1 : c ≠ 60 ∧ c ≠ 38 ∧ c ≠ 62) (h2 : Ct t l) : Ct (c :: t) (c :: l)
theorem ct_run {B l : List Nat} (h : Ct B l) (tail : List Nat) : ∃ B1 B2 l2, B = B1 ++ B2 ∧ l = B1 ++ l2 ∧ Ct B2 l2 ∧ ptN (B ++ 60 :: tail) = B1.length ∧ (∀ c ∈ B1, c ≠ 62) := by
  induction h with
  | nil => exact ⟨[], [], [], rfl, rfl, .nil, rfl, fun c hc => by cases hc⟩
  | @ref p t l c h1 h2 ih =>
    refine ⟨[], p ++ t, c :: l, rfl, rfl, .ref h1 h2, ?_, fun c hc => by cases hc⟩
    obtain ⟨_, p', rfl⟩ := h1
    rfl
  | @one t l c h1 h2 ih =>
    obtain ⟨B1, B2, l2, e1, e2, e3, e4, e5⟩ := ih
    refine ⟨c :: B1, B2, l2, by rw [e1]; rfl, by rw [e2]; rfl, e3, ?_, fun d hd => ?_⟩
    · show spN (fun c => c != 60 && c != 38) (c :: (t ++ 60 :: tail)) = _
      have hc : ((c != 60) && (c != 38)) = true := by simp [h1.1, h1.2.1]
      have e4' : spN (fun c => c != 60 && c != 38) (t ++ 60 :: tail) = B1.length := e4
      show (if ((c != 60) && (c != 38)) = true then spN (fun c => c != 60 && c != 38) (t ++ 60 :: tail) + 1 else 0) = _
      rw [if_pos hc, e4']
      rfl
    · rcases List.mem_cons.mp hd with rfl | hd
      · exact h1.2.2
      · exact e5 d hd
theorem fd_no62 : ∀ l : List Nat, (∀ c ∈ l, c ≠ 62) → fdN [93, 93, 62] l = none
  | [], _ => rfl
  | c :: l, h => by
    have h2 := fd_no62 l fun d hd => h d (List.mem_cons_of_mem _ hd)
    show (if (c :: l).take 3 = [93, 93, 62] then some 0 else (fdN [93, 93, 62] l).map (· + 1)) = none
    rw [if_neg, h2]
    · rfl
    · intro e
      have : 62 ∈ (c :: l).take 3 := by rw [e]; simp
      exact h 62 (List.mem_of_mem_take this) rfl
theorem dl_content {has : Bool} {g h : PF} {rest : List PF} {tail : List Nat} : ∀ (n : Nat) (B l : List Nat) (f : Nat) (pc : List (List Nat)), B.length ≤ n → Ct B l → ∃ f' pc', f ≤ f' ∧ pc'.flatten = pc.flatten ++ l ∧ dlO (f + B.length) has (g :: h :: rest) pc (B ++ 60 :: tail) = dlO f' has (g :: h :: rest) pc' (60 :: tail)
  | 0, B, l, f, pc, hn, hc => by
    cases hc with
    | nil => exact ⟨f, pc, Nat.le_refl _, by simp, rfl⟩
    | @ref p t l c h1 h2 =>
      obtain ⟨_, p', rfl⟩ := h1
      simp only [List.length_append, List.length_cons] at hn
      omega
    | @one t l c h1 h2 =>
      simp only [List.length_cons] at hn
      omega
  | n + 1, B, l, f, pc, hn, hc => by
    cases hc with
    | nil => exact ⟨f, pc, Nat.le_refl _, by simp, rfl⟩
    | @ref p t l c h1 h2 =>
      obtain ⟨hr, p', rfl⟩ := h1
      simp only [List.length_append, List.length_cons] at hn
      obtain ⟨f', pc', e1, e2, e3⟩ := dl_content n t l (f + p'.length) (pc ++ [[c]]) (by omega) h2
      refine ⟨f', pc', by omega, by rw [e2]; simp, ?_⟩
      rw [← e3]
      have hr2 : rfO (38 :: (p' ++ (t ++ 60 :: tail))) = some (p'.length + 1, c) := hr (t ++ 60 :: tail)
      have ef : f + (38 :: p' ++ t).length = (f + p'.length + t.length) + 1 := by simp only [List.length_append, List.length_cons]; omega
      rw [ef, List.append_assoc]
      show (match cnG (38 :: (p' ++ (t ++ 60 :: tail))) g (h :: rest) pc with
        | none => none
        | some (n, ss', pc') => dlO (f + p'.length + t.length) has ss' pc' ((38 :: (p' ++ (t ++ 60 :: tail))).drop n)) = _
      have ec : cnG (38 :: (p' ++ (t ++ 60 :: tail))) g (h :: rest) pc = some (p'.length + 1, g :: h :: rest, pc ++ [[c]]) := by
        show (rfO (38 :: (p' ++ (t ++ 60 :: tail)))).map (fun u => (u.1, g :: h :: rest, pc ++ [[u.2]])) = _
        rw [hr2]
        rfl
      rw [ec]
      show dlO (f + p'.length + t.length) has (g :: h :: rest) (pc ++ [[c]]) ((p' ++ (t ++ 60 :: tail)).drop p'.length) = _
      rw [List.drop_left' rfl]
    | @one t l c h1 h2 =>
      obtain ⟨B1, B2, l2, b1, b2, b3, b4, b5⟩ := ct_run (.one h1 h2) tail
      have hb1 : ∃ B1', B1 = c :: B1' := by
        cases B1 with
        | nil =>
          have b4 : ptN (c :: (t ++ 60 :: tail)) = 0 := b4
          have hc : ((c != 60) && (c != 38)) = true := by simp [h1.1, h1.2.1]
          have b4' : (if ((c != 60) && (c != 38)) = true then spN (fun c => c != 60 && c != 38) (t ++ 60 :: tail) + 1 else 0) = 0 := b4
          rw [if_pos hc] at b4'
          cases b4'
        | cons d B1' =>
          have := (List.cons.inj b1).1
          exact ⟨B1', by rw [this]⟩
      obtain ⟨B1', hB1⟩ := hb1
      have hlen := congrArg List.length b1
      rw [List.length_append, hB1] at hlen
      simp only [List.length_cons] at hlen hn
      obtain ⟨f', pc', e1, e2, e3⟩ := dl_content n B2 l2 (f + B1'.length) (pc ++ [B1]) (by omega) b3
      refine ⟨f', pc', by omega, by rw [e2, b2]; simp, ?_⟩
      rw [← e3]
      have ef : f + (c :: t).length = (f + B1'.length + B2.length) + 1 := by simp only [List.length_cons]; omega
      rw [ef]
      have eB : c :: t ++ 60 :: tail = B1 ++ (B2 ++ 60 :: tail) := by rw [b1, List.append_assoc]
      have h60 : hP (· == 60) (c :: (t ++ 60 :: tail)) = false := beq_eq_false_iff_ne.mpr h1.1
      have h38 : hP (· == 38) (c :: (t ++ 60 :: tail)) = false := beq_eq_false_iff_ne.mpr h1.2.1
      have ec : cnG (c :: (t ++ 60 :: tail)) g (h :: rest) pc = some (B1.length, g :: h :: rest, pc ++ [B1]) := by
        unfold cnG
        rw [h60, h38, if_neg Bool.false_ne_true, if_neg Bool.false_ne_true]
        have b4 : ptN (c :: (t ++ 60 :: tail)) = B1.length := b4
        have htk : (c :: (t ++ 60 :: tail)).take B1.length = B1 := by
          show (c :: t ++ 60 :: tail).take B1.length = B1
          rw [eB, List.take_left' rfl]
        rw [b4, if_neg (by rw [hB1]; simp)]
        unfold plO
        rw [b4, htk, fd_no62 B1 b5]
        show some (B1.length, g :: h :: rest, pc ++ [(c :: (t ++ 60 :: tail)).take B1.length]) = _
        rw [htk]
      show (match cnG (c :: (t ++ 60 :: tail)) g (h :: rest) pc with
        | none => none
        | some (n, ss', pc') => dlO (f + B1'.length + B2.length) has ss' pc' ((c :: (t ++ 60 :: tail)).drop n)) = _
      rw [ec]
      show dlO (f + B1'.length + B2.length) has (g :: h :: rest) (pc ++ [B1]) ((c :: t ++ 60 :: tail).drop B1.length) = _
      rw [eB, List.drop_left' rfl]
end PX
/-! EXu -/
namespace PX
open PySem PySem.Spec PyProof.Rows L2 TL
theorem drop_mid (A : List Nat) (q : Nat) (B : List Nat) : (A ++ q :: B).drop (A.length + 1) = B := by
  have e : A ++ q :: B = (A ++ [q]) ++ B := by simp
  rw [e, List.drop_left']
  simp
theorem at_q {q : Nat} (hq : q = 34 ∨ q = 39) {A l body : List Nat} (h : Qt q A l) : atO (61 :: q :: (A ++ q :: body)) = some (A.length + 3, l) := by
  have hv := va_qt (by omega) h ((A ++ q :: body).length + 1) body (by rw [List.length_append]; omega)
  rcases hq with rfl | rfl
  · show (vaO ((A ++ 34 :: body).length + 1) 34 (A ++ 34 :: body)).map (fun u => (0 + 1 + 0 + 1 + u.1, u.2)) = _
    rw [hv]
    show some (0 + 1 + 0 + 1 + (A.length + 1), l) = _
    congr 2
    omega
  · show (vaO ((A ++ 39 :: body).length + 1) 39 (A ++ 39 :: body)).map (fun u => (0 + 1 + 0 + 1 + u.1, u.2)) = _
    rw [hv]
    show some (0 + 1 + 0 + 1 + (A.length + 1), l) = _
    congr 2
    omega
theorem as_q {q k : Nat} (hq : q = 34 ∨ q = 39) {A l body : List Nat} (h : Qt q A l) (hb : hP isBl body = false) : asO (k + 1) [] (112 :: 61 :: q :: (A ++ q :: body)) = some (A.length + 4, [([112], l)]) := by
  have ha := at_q (body := body) hq h
  have hn : nmO (112 :: 61 :: q :: (A ++ q :: body)) = some (1, .str (mkS [112])) := rfl
  have e : asO (k + 1) [] (112 :: 61 :: q :: (A ++ q :: body)) = (match atO (61 :: q :: (A ++ q :: body)) with
      | none => none
      | some (m, t) => if hP isBl ((112 :: 61 :: q :: (A ++ q :: body)).drop (1 + m)) then (asO k [[112]] (((112 :: 61 :: q :: (A ++ q :: body)).drop (1 + m)).drop (spN isBl ((112 :: 61 :: q :: (A ++ q :: body)).drop (1 + m))))).map fun u => (1 + m + spN isBl ((112 :: 61 :: q :: (A ++ q :: body)).drop (1 + m)) + u.1, ([112], t) :: u.2)
        else some (1 + m, [([112], t)])) := rfl
  rw [e, ha]
  dsimp only
  have ed : (112 :: 61 :: q :: (A ++ q :: body)).drop (1 + (A.length + 3)) = body := by
    rw [show 1 + (A.length + 3) = A.length + 1 + 3 by omega]
    exact drop_mid A q body
  rw [ed, hb, if_neg Bool.false_ne_true]
  congr 2
  omega
theorem tg_q {q : Nat} (hq : q = 34 ∨ q = 39) {A l body : List Nat} (h : Qt q A l) (hb : hP isBl body = false) : tgO (97 :: 32 :: 112 :: 61 :: q :: (A ++ q :: body)) = tgE (97 :: 32 :: 112 :: 61 :: q :: (A ++ q :: body)) [97] (A.length + 6) [([112], l)] := by
  have hn : nmO (97 :: 32 :: 112 :: 61 :: q :: (A ++ q :: body)) = some (1, .str (mkS [97])) := rfl
  have hA : tgA (97 :: 32 :: 112 :: 61 :: q :: (A ++ q :: body)) 1 = (asO ((97 :: 32 :: 112 :: 61 :: q :: (A ++ q :: body)).length + 1) [] (112 :: 61 :: q :: (A ++ q :: body))).map (fun v => (1 + 1 + v.1, v.2)) := rfl
  rw [as_q hq h hb] at hA
  unfold tgO
  rw [hn]
  dsimp only
  rw [hA]
  show tgE _ [97] (1 + 1 + (A.length + 4)) _ = _
  rw [show 1 + 1 + (A.length + 4) = A.length + 6 by omega]
theorem tg_drop {q : Nat} {A body : List Nat} : (97 :: 32 :: 112 :: 61 :: q :: (A ++ q :: body)).drop (A.length + 6) = body := by
  rw [show A.length + 6 = A.length + 1 + 5 by omega]
  exact drop_mid A q body
/-- the law's element -/
def elL (l1 l2 : List Nat) : DN := .el [97] [([112], l1)] (if l2 = [] then [] else [.lf 0 none l2])
theorem dlO_root (f : Nat) (has : Bool) (g : PF) (pc : List (List Nat)) (c : Nat) (r : List Nat) : dlO (f + 1) has [g] pc (c :: r) = match arG has (c :: r) g [] pc with
        | none => none
        | some (n, has', ss', pc') => dlO f has' ss' pc' ((c :: r).drop n) := rfl
theorem dlO_in (f : Nat) (has : Bool) (g h : PF) (rest : List PF) (pc : List (List Nat)) (c : Nat) (r : List Nat) : dlO (f + 1) has (g :: h :: rest) pc (c :: r) = match cnG (c :: r) g (h :: rest) pc with
        | none => none
        | some (n, ss', pc') => dlO f has ss' pc' ((c :: r).drop n) := rfl
theorem dlO_end (f : Nat) (g : PF) (pc : List (List Nat)) : dlO (f + 1) true [g] pc [] = some g.2.2 := rfl
theorem cn_end (g h : PF) (hg : g.1 = [97]) (rest : List PF) (pc : List (List Nat)) : cnG [60, 47, 97, 62] g (h :: rest) pc = some (4, (h.1, h.2.1, h.2.2 ++ [.el g.1 g.2.1 (g.2.2 ++ txN pc)]) :: rest, []) := by
  have e : etO g.1 [47, 97, 62] = some 3 := by rw [hg]; decide
  have em : muG [47, 97, 62] g (h :: rest) pc = some (3, (h.1, h.2.1, h.2.2 ++ [.el g.1 g.2.1 (g.2.2 ++ txN pc)]) :: rest, []) := by
    unfold muG
    rw [if_pos (by decide)]
    unfold etG
    rw [e]
    rfl
  unfold cnG
  rw [if_pos (by decide)]
  show (muG [47, 97, 62] g (h :: rest) pc).map (fun u => (1 + u.1, u.2)) = _
  rw [em]
  rfl
theorem ar_tag {r : List Nat} {c : Nat} {u : Nat × List PF × List (List Nat)} {g : PF} {pc : List (List Nat)} (hc : c ≠ 33 ∧ c ≠ 63) (h : tgG (c :: r) g [] pc = some u) : arG false (60 :: c :: r) g [] pc = some (1 + u.1, true, u.2) := by
  have h1 : hP isBl (60 :: c :: r) = false := rfl
  have h2 : hP (· == 60) (60 :: c :: r) = true := rfl
  have h3 : hP (· == 33) ((60 :: c :: r).drop 1) = false := beq_eq_false_iff_ne.mpr hc.1
  have h4 : hP (· == 63) ((60 :: c :: r).drop 1) = false := beq_eq_false_iff_ne.mpr hc.2
  unfold arG
  rw [h1, h2, h3, h4, if_neg Bool.false_ne_true, if_pos rfl, if_neg Bool.false_ne_true, if_neg Bool.false_ne_true, if_neg Bool.false_ne_true]
  show (tgG (c :: r) g [] pc).map (fun u => (1 + u.1, true, u.2)) = _
  rw [h]
  rfl
theorem tg_open {r nm : List Nat} {n : Nat} {qs : List (List Nat × List Nat)} {f : PF} {rest : List PF} {pc : List (List Nat)} (h : tgO r = some (n, nm, qs, true)) : tgG r f rest pc = some (n, (nm, qs, []) :: (f.1, f.2.1, f.2.2 ++ txN pc) :: rest, []) := by
  unfold tgG
  rw [h]
theorem tg_shut {r nm : List Nat} {n : Nat} {qs : List (List Nat × List Nat)} {f : PF} {rest : List PF} {pc : List (List Nat)} (h : tgO r = some (n, nm, qs, false)) : tgG r f rest pc = some (n, (f.1, f.2.1, f.2.2 ++ txN pc ++ [.el nm qs []]) :: rest, []) := by
  unfold tgG
  rw [h]
theorem de_a (r : List Nat) : deO (60 :: 97 :: r) = some 0 := by
  unfold deO
  rw [if_neg]
  intro e
  have h1 : 60 :: 97 :: r.take 3 = [60, 63, 120, 109, 108] := e.1
  exact absurd (List.cons.inj (List.cons.inj h1).2).1 (by decide)
theorem doc_open {q : Nat} (hq : q = 34 ∨ q = 39) {A B l1 l2 : List Nat} (h : Qt q A l1) (hc : Ct B l2) : ∃ fu, docF fu (60 :: 97 :: 32 :: 112 :: 61 :: q :: (A ++ q :: 62 :: (B ++ [60, 47, 97, 62]))) = some [elL l1 l2] := by
  obtain ⟨f', pc', e1, e2, e3⟩ := dl_content (has := true) (g := ([97], [([112], l1)], [])) (h := ([], [], [] ++ txN [])) (rest := []) (tail := [47, 97, 62]) B.length B l2 2 [] (Nat.le_refl _) hc
  refine ⟨2 + B.length + 1, ?_⟩
  have hd : deO (60 :: 97 :: 32 :: 112 :: 61 :: q :: (A ++ q :: 62 :: (B ++ [60, 47, 97, 62]))) = some 0 := de_a _
  unfold docF
  rw [hd]
  dsimp only
  rw [List.drop_zero]
  have ht := tg_q (body := 62 :: (B ++ [60, 47, 97, 62])) hq h rfl
  unfold tgE at ht
  rw [tg_drop] at ht
  have ht2 : tgO (97 :: 32 :: 112 :: 61 :: q :: (A ++ q :: 62 :: (B ++ [60, 47, 97, 62]))) = some (A.length + 6 + 1, [97], [([112], l1)], true) := ht
  have har := ar_tag (c := 97) (by decide) (tg_open (f := (([], [], []) : PF)) (rest := []) (pc := []) ht2)
  rw [dlO_root, har]
  dsimp only
  have ed : (60 :: 97 :: 32 :: 112 :: 61 :: q :: (A ++ q :: 62 :: (B ++ [60, 47, 97, 62]))).drop (1 + (A.length + 6 + 1)) = B ++ 60 :: [47, 97, 62] := by
    rw [show 1 + (A.length + 6 + 1) = (A.length + 1 + 1) + 6 by omega]
    show (A ++ q :: 62 :: (B ++ [60, 47, 97, 62])).drop (A.length + 1 + 1) = _
    rw [← List.drop_drop, drop_mid]
    rfl
  rw [ed, e3]
  have e2' : pc'.flatten = l2 := by rw [e2]; rfl
  obtain ⟨f2, rfl⟩ : ∃ f2, f' = f2 + 2 := ⟨f' - 2, by omega⟩
  have htx : txN pc' = if l2 = [] then [] else [DN.lf 0 none l2] := by
    unfold txN
    rw [e2']
  rw [dlO_in, cn_end _ _ rfl]
  dsimp only
  rw [show ([60, 47, 97, 62] : List Nat).drop 4 = [] from rfl, dlO_end]
  show some ([] ++ txN [] ++ [DN.el [97] [([112], l1)] ([] ++ txN pc')]) = _
  rw [htx]
  rfl
theorem doc_shut {q : Nat} (hq : q = 34 ∨ q = 39) {A l1 : List Nat} (h : Qt q A l1) : ∃ fu, docF fu (60 :: 97 :: 32 :: 112 :: 61 :: q :: (A ++ q :: [47, 62])) = some [elL l1 []] := by
  refine ⟨2, ?_⟩
  have hd : deO (60 :: 97 :: 32 :: 112 :: 61 :: q :: (A ++ q :: [47, 62])) = some 0 := de_a _
  unfold docF
  rw [hd]
  dsimp only
  rw [List.drop_zero]
  have ht := tg_q (body := [47, 62]) hq h rfl
  unfold tgE at ht
  rw [tg_drop] at ht
  have ht2 : tgO (97 :: 32 :: 112 :: 61 :: q :: (A ++ q :: [47, 62])) = some (A.length + 6 + 2, [97], [([112], l1)], false) := ht
  have har := ar_tag (c := 97) (by decide) (tg_shut (f := (([], [], []) : PF)) (rest := []) (pc := []) ht2)
  rw [dlO_root, har]
  dsimp only
  have ed : (60 :: 97 :: 32 :: 112 :: 61 :: q :: (A ++ q :: [47, 62])).drop (1 + (A.length + 6 + 2)) = [] := by
    rw [show 1 + (A.length + 6 + 2) = (A.length + 1 + 2) + 6 by omega]
    show (A ++ q :: [47, 62]).drop (A.length + 1 + 2) = _
    rw [← List.drop_drop, drop_mid]
    rfl
  rw [ed, dlO_end]
  rfl
end PX
/-! EXv -/
namespace PX
open PySem PySem.Spec PyProof.Rows L2 TL
theorem rf_gd {p : List Nat} {c : Nat} (h1 : rfO p = some (p.length, c)) (h2 : ∃ r, p = 38 :: 35 :: r) : GdP p c := by
  obtain ⟨r, rfl⟩ := h2
  exact ⟨fun r2 => rfO_app r2 h1, ⟨_, rfl⟩⟩
theorem Rf.qt {t l : List Nat} (h : Rf t l) : Qt 39 t l := by
  induction h with
  | nil => exact .nil
  | cons h1 h2 h3 h4 ih => exact .ref (rf_gd h1 h2) ih
theorem Rf.ct {t l : List Nat} (h : Rf t l) : Ct t l := by
  induction h with
  | nil => exact .nil
  | cons h1 h2 h3 h4 ih => exact .ref (rf_gd h1 h2) ih
theorem Rf.sg {t l : List Nat} (h : Rf t l) : ∀ x ∈ t, isSg x = true := by
  induction h with
  | nil => exact fun x hx => by cases hx
  | cons h1 h2 h3 h4 ih =>
    intro x hx
    rcases List.mem_append.mp hx with hx | hx
    · exact h3.2 x hx
    · exact ih x hx
theorem gd_amp : GdP [38, 97, 109, 112, 59] 38 := ⟨fun r => rfl, ⟨_, rfl⟩⟩
theorem gd_lt : GdP [38, 108, 116, 59] 60 := ⟨fun r => rfl, ⟨_, rfl⟩⟩
theorem gd_gt : GdP [38, 103, 116, 59] 62 := ⟨fun r => rfl, ⟨_, rfl⟩⟩
theorem gd_quot : GdP [38, 113, 117, 111, 116, 59] 34 := ⟨fun r => rfl, ⟨_, rfl⟩⟩
theorem gd_9 : GdP [38, 35, 57, 59] 9 := rf_gd (by decide +kernel) ⟨_, rfl⟩
theorem gd_10 : GdP [38, 35, 49, 48, 59] 10 := rf_gd (by decide +kernel) ⟨_, rfl⟩
theorem am_qt : ∀ l : List Nat, Qt 34 (l.flatMap amF) l
  | [] => .nil
  | c :: l => by
    have ih := am_qt l
    rw [List.flatMap_cons]
    unfold amF
    by_cases h1 : c = 38
    · subst h1; exact .ref gd_amp ih
    by_cases h2 : c = 60
    · subst h2; exact .ref gd_lt ih
    by_cases h3 : c = 34
    · subst h3; exact .ref gd_quot ih
    by_cases h4 : c = 9
    · subst h4; exact .ref gd_9 ih
    by_cases h5 : c = 10
    · subst h5; exact .ref gd_10 ih
    rw [if_neg h1, if_neg h2, if_neg h3, if_neg h4, if_neg h5]
    refine .one ⟨h3, h2, h1, ?_⟩ ih
    unfold bl32 isBl
    by_cases h6 : c = 32
    · subst h6; rfl
    · rw [if_neg]
      simp [h4, h5, h6]
theorem tx_ct : ∀ l : List Nat, Ct (l.flatMap txF) l
  | [] => .nil
  | c :: l => by
    have ih := tx_ct l
    rw [List.flatMap_cons]
    unfold txF
    by_cases h1 : c = 38
    · subst h1; exact .ref gd_amp ih
    by_cases h2 : c = 60
    · subst h2; exact .ref gd_lt ih
    by_cases h3 : c = 62
    · subst h3; exact .ref gd_gt ih
    rw [if_neg h1, if_neg h2, if_neg h3]
    exact .one ⟨h2, h1, h3⟩ ih
theorem lm_sg : ∀ c ∈ tl abcS, ∀ b : Bool, ∀ x ∈ lmF b c, isSg x = true := by decide +kernel
theorem lm_all {l : List Nat} (h : ∀ x ∈ l, x ∈ tl abcS) (b : Bool) : ∀ x ∈ l.flatMap (lmF b), isSg x = true := by
  intro x hx
  obtain ⟨c, hc, hx⟩ := List.mem_flatMap.mp hx
  exact lm_sg c (h c hc) b x hx
theorem lm_flen (b : Bool) (l : List Nat) : (l.flatMap (lmF b)).length ≤ 6 * l.length := by
  have h := lm_sum b l
  have e : (((l.map (lmF b)).map mkS).map (·.length)).sum = (l.flatMap (lmF b)).length := by
    rw [List.flatMap_def, List.length_flatten, List.map_map]
    exact congrArg List.sum (List.map_congr_left fun t _ => mkS_len t)
  omega
theorem gd_of {l : List Nat} (h1 : ∀ x ∈ l, isSg x = true) (h2 : l.length ≤ 400000) : Gd (mkS l) := ⟨by rw [tl_mkS]; exact h1, by rw [mkS_len]; exact h2⟩
/-- the first text and the second -/
def oneT (A B : List Nat) : List Nat := 60 :: 97 :: 32 :: 112 :: 61 :: 39 :: (A ++ 39 :: 62 :: (B ++ [60, 47, 97, 62]))
def dueT (l1 l2 : List Nat) : List Nat := 60 :: 97 :: 32 :: 112 :: 61 :: 34 :: (l1.flatMap amF ++ 34 :: (if l2 = [] then [47, 62] else 62 :: (l2.flatMap txF ++ [60, 47, 97, 62])))
theorem one_doc {A B l1 l2 : List Nat} (h1 : Rf A l1) (h2 : Rf B l2) : ∃ fu, docF fu (oneT A B) = some [elL l1 l2] := doc_open (.inr rfl) h1.qt h2.ct
theorem due_doc (l1 l2 : List Nat) : ∃ fu, docF fu (dueT l1 l2) = some [elL l1 l2] := by
  unfold dueT
  by_cases h : l2 = []
  · subst h
    rw [if_pos rfl]
    exact doc_shut (.inl rfl) (am_qt l1)
  · rw [if_neg h]
    exact doc_open (.inl rfl) (am_qt l1) (tx_ct l2)
theorem sg_of {L : List Nat} (h : L.all isSg = true) : ∀ x ∈ L, isSg x = true := List.all_eq_true.mp h
theorem one_gd {A B l1 l2 : List Nat} (h1 : Rf A l1) (h2 : Rf B l2) (a1 : A.length ≤ 300) (a2 : B.length ≤ 300) : Gd (mkS (oneT A B)) := by
  refine gd_of (fun x hx => ?_) ?_
  · have : x ∈ [60, 97, 32, 112, 61, 39] ++ (A ++ ([39, 62] ++ (B ++ [60, 47, 97, 62]))) := hx
    simp only [List.mem_append] at this
    rcases this with h | h | h | h | h
    · exact sg_of (by decide) x h
    · exact h1.sg x h
    · exact sg_of (by decide) x h
    · exact h2.sg x h
    · exact sg_of (by decide) x h
  · unfold oneT
    simp only [List.length_cons, List.length_append, List.length_nil]
    omega
theorem due_gd {l1 l2 : List Nat} (h1 : ∀ x ∈ l1, x ∈ tl abcS) (h2 : ∀ x ∈ l2, x ∈ tl abcS) (a1 : l1.length ≤ 30) (a2 : l2.length ≤ 30) : Gd (mkS (dueT l1 l2)) := by
  have e1 : ∀ x ∈ l1.flatMap amF, isSg x = true := lm_all h1 true
  have e2 : ∀ x ∈ l2.flatMap txF, isSg x = true := lm_all h2 false
  have n1 : (l1.flatMap amF).length ≤ 6 * l1.length := lm_flen true l1
  have n2 : (l2.flatMap txF).length ≤ 6 * l2.length := lm_flen false l2
  refine gd_of (fun x hx => ?_) ?_
  · have : x ∈ [60, 97, 32, 112, 61, 34] ++ (l1.flatMap amF ++ ([34] ++ (if l2 = [] then [47, 62] else [62] ++ (l2.flatMap txF ++ [60, 47, 97, 62])))) := hx
    simp only [List.mem_append] at this
    rcases this with h | h | h | h
    · exact sg_of (by decide) x h
    · exact e1 x h
    · exact sg_of (by decide) x h
    · split at h
      · exact sg_of (by decide) x h
      · simp only [List.mem_append] at h
        rcases h with h | h | h
        · exact sg_of (by decide) x h
        · exact e2 x h
        · exact sg_of (by decide) x h
  · unfold dueT
    split <;> simp only [List.length_cons, List.length_append, List.length_nil] <;> omega
theorem mk_due (l1 l2 : List Nat) : mkK [elL l1 l2] = dueT l1 l2 := by
  unfold elL dueT
  rw [mkK, mkK, List.append_nil, mkN]
  by_cases h : l2 = []
  · rw [if_pos h, if_pos rfl, if_pos h]
    unfold tgM atM
    simp
  · rw [if_neg h, if_neg (by simp), if_neg h]
    unfold tgM atM
    rw [mkK, mkK, mkN, if_pos rfl]
    simp
theorem bd_el {l1 l2 : List Nat} (a1 : l1.length ≤ 30) (a2 : l2.length ≤ 30) : bdK [elL l1 l2] := by
  unfold elL
  rw [bdK, bdN, bdK]
  refine ⟨⟨by decide, fun q hq => ?_, by show 1 ≤ 100; decide, ?_⟩, trivial⟩
  · rw [List.mem_singleton] at hq
    subst hq
    exact ⟨by show 1 ≤ 2000; decide, by show l1.length ≤ 2000; omega⟩
  · split
    · trivial
    · rw [bdK, bdN, bdK]
      exact ⟨⟨by omega, by decide, fun h => by omega⟩, trivial⟩
theorem sv_at (l1 l2 : List Nat) : inP (.rt [elL l1 l2]) [.i 0, .s [64, 112]] = some (.at ([112], l1)) := rfl
theorem sv_el (l1 l2 : List Nat) : inP (.rt [elL l1 l2]) [.i 0] = some (.nd (elL l1 l2)) := rfl
theorem sv_l2 (l1 l2 : List Nat) : svP (.nd (elL l1 l2)) = l2 := by
  unfold elL
  show svK _ = l2
  by_cases h : l2 = []
  · rw [if_pos h, svK, h]
  · rw [if_neg h, svK, svK, svN, if_pos rfl, List.append_nil]
theorem sv_rt (l1 l2 : List Nat) : svP (.rt [elL l1 l2]) = l2 := by
  show svK [elL l1 l2] = l2
  rw [svK, svK, List.append_nil]
  exact (show svN (elL l1 l2) = svP (.nd (elL l1 l2)) from by unfold elL; rw [svN]; rfl).trans (sv_l2 l1 l2)
end PX
/-! EXw -/
namespace PX
open PySem PySem.Spec PyProof.Rows L2 TL
theorem sqL_keep {K : PySem.W.Frag} {H H' : Hp} {a : Addr} {xs : List V} (h : SqL K H a xs) (s : Same H H') : SqL K H' a xs := by
  rcases h with h | h
  · refine .inl ?_
    rcases h with h | ⟨o, h⟩
    · exact .inl (s _ _ h)
    · exact .inr ⟨o, s _ _ h⟩
  · exact .inr h
theorem mem_cutV {xs : List V} {i j : Option Int} {x : V} (h : x ∈ cutV xs i j) : x ∈ xs := by
  unfold cutV at h
  exact List.mem_of_mem_drop (List.mem_of_mem_take h)
theorem ne_self (v : V) : (!decide (v = v)) = false := by simp
theorem str_len (s : Str) : s.length = (tl s).length := len_tl s
section
variable {P : Program} {w : World} {K : PySem.W.Frag} {mg : Str → Option Value} {base : Heap}
def spLaw (K : PySem.W.Frag) : Sp := fun vs H Q _ => ∃ (a : Addr) (ns : List Int), vs = [.ref a] ∧ SqL K H a (ns.map V.int) ∧ ∀ H', Q (.bl true) H'
theorem ok_law (T : Tx w K mg) {fd : FuncData} (F : FnP K d_law fd) : FnOk P w K mg base CX0 13 (He.fAd K d_law.at_) fd p_law (spLaw K) := by
  obtain ⟨fC, GC, bC, kC⟩ := ok_Lcell_at (P := P) (base := base) T
  obtain ⟨fW, GW, bW, kW⟩ := ok_Lwell (P := P) (base := base) T
  obtain ⟨fD, GD, bD, kD⟩ := ok_Ldraw (P := P) (base := base) T
  obtain ⟨fS, GS, bS, kS⟩ := ok_Lsigns (P := P) (base := base) T
  obtain ⟨fR, GR, bR, kR⟩ := ok_Lreferred (P := P) (base := base) T
  obtain ⟨fL, GL, bL, kL⟩ := ok_Lplain (P := P) (base := base) T
  obtain ⟨fE, GE, bE, kE⟩ := ok_read (P := P) (base := base) T
  obtain ⟨fA, GA, bA, kA⟩ := ok_string_at (P := P) (base := base) T
  obtain ⟨fO, GO, bO, kO⟩ := ok_write (P := P) (base := base) T
  refine F.ok sc_law (fun vs H Q E h => ?_) (fun cdv A outer s H vs Q E hr h => ?_)
  · obtain ⟨a, ns, rfl, _⟩ := h
    rfl
  · obtain ⟨a, ns, rfl, ha, kk⟩ := h
    have nd := sc_law.nd
    refine ⟨_, PSs.nox (pss_cons ((ps_for PassesOwn.never rfl (pi_list (pe_op op_cat (pe_lst (pa_cons ((pe_call (E := E0) GC (hr.mono (by omega)) (by rfl) (g_Lcell_at T) kC bC .nil pass0 (pa_cons (pv 0) (pa_cons (pe_int) pa_nil)))) pa_nil)) (pe_slice sl_list (pv 0) (po_some pe_int) (po_some pe_int)))) ((pg_name (i := 1) nd rfl (.inl rfl))) (pss_cons (ps_set (i := 2) nd rfl (.inl rfl) (pe_call (E := E0) GW (hr.mono (by omega)) (by rfl) (g_Lwell T) kW bW .nil pass0 (pa_cons (pv 1) pa_nil))) (pss_cons (ps_par (i := 3) (j := 4) (by rfl) nd rfl rfl (by decide) rfl rfl (pa_cons ((pe_call (E := E0) GS (hr.mono (by omega)) (by rfl) (g_Lsigns T) kS bS .nil pass0 (pa_cons (pv 2) pa_nil))) (pa_cons ((pe_call (E := E0) GS (hr.mono (by omega)) (by rfl) (g_Lsigns T) kS bS .nil pass0 (pa_cons (pv 2) pa_nil))) pa_nil)) (by rfl)) (pss_cons (ps_set (i := 5) nd rfl (.inl rfl) (pe_ix ix_list (pe_lst (pa_cons (pe_int) (pa_cons (pe_int) pa_nil))) (pe_call (E := E0) GD (hr.mono (by omega)) (by rfl) (g_Ldraw T) kD bD .nil pass0 (pa_cons (pv 2) (pa_cons (pe_int) pa_nil))) (fun _ _ => rfl))) (pss_cons (ps_set (i := 6) nd rfl (.inl rfl) (pe_op op_add_str (pe_op op_add_str (pe_op op_add_str (pe_op op_add_str pe_str (pe_call (E := E0) GR (hr.mono (by omega)) (by rfl) (g_Lreferred T) kR bR .nil pass0 (pa_cons (pv 2) (pa_cons (pv 3) (pa_cons (pv 5) pa_nil))))) pe_str) (pe_call (E := E0) GR (hr.mono (by omega)) (by rfl) (g_Lreferred T) kR bR .nil pass0 (pa_cons (pv 2) (pa_cons (pv 4) (pa_cons (pv 5) pa_nil))))) pe_str)) (pss_cons (ps_set (i := 7) nd rfl (.inl rfl) (pe_call (E := E0) GE (hr.mono (by omega)) (by rfl) (g_read T) kE bE .nil pass0 (pa_cons (pv 6) pa_nil))) (pss_cons ((ps_if ((pw_or (pt_cmpR op_ne ((pe_call (E := E0) GA (hr.mono (by omega)) (by rfl) (g_string_at T) kA bA .nil pass0 (pa_cons (pv 7) (pa_cons (pe_tup (pa_cons (pe_int) (pa_cons (pe_str) pa_nil))) pa_nil)))) (pv 3) (nomark _)) (pw_or1 (pt_cmpR op_ne ((pe_call (E := E0) GA (hr.mono (by omega)) (by rfl) (g_string_at T) kA bA .nil pass0 (pa_cons (pv 7) (pa_cons (pe_tup (pa_cons (pe_int) pa_nil)) pa_nil)))) (pv 4) (nomark _)))).pt) (pss_one ((ps_ret (pe_bl)))) pss_nil)) (pss_cons (ps_set (i := 8) nd rfl (.inl rfl) (pe_op op_add_str (pe_op op_add_str (pe_op op_add_str pe_str (pe_call (E := E0) GL (hr.mono (by omega)) (by rfl) (g_Lplain T) kL bL .nil pass0 (pa_cons (pv 3) (pa_cons (pe_bl) pa_nil)))) pe_str) (pe_ix ix_list (pe_lst (pa_cons (pe_op op_add_str (pe_op op_add_str pe_str (pe_call (E := E0) GL (hr.mono (by omega)) (by rfl) (g_Lplain T) kL bL .nil pass0 (pa_cons (pv 4) (pa_cons (pe_bl) pa_nil)))) pe_str) (pa_cons (pe_str) pa_nil))) (pe_callTy call_int1 (by rfl) (n_int T) boot_int (pa_cons (pe_cmpR op_eq (pv 4) pe_str (nomark _)) pa_nil)) (fun _ _ => rfl)))) (pss_cons ((ps_if ((pt_cmpR op_ne ((pe_call (E := E0) GO (hr.mono (by omega)) (by rfl) (g_write T) kO bO .nil pass0 (pa_cons (pv 7) pa_nil))) (pv 8) (nomark _))) (pss_one ((ps_ret (pe_bl)))) pss_nil)) (pss_cons (ps_set (i := 9) nd rfl (.inl rfl) (pe_call (E := E0) GE (hr.mono (by omega)) (by rfl) (g_read T) kE bE .nil pass0 (pa_cons (pv 8) pa_nil))) (pss_one ((ps_if ((pw_or (pt_cmpR op_ne ((pe_call (E := E0) GA (hr.mono (by omega)) (by rfl) (g_string_at T) kA bA .nil pass0 (pa_cons (pv 9) (pa_cons (pe_tup (pa_cons (pe_int) (pa_cons (pe_str) pa_nil))) pa_nil)))) (pv 3) (nomark _)) (pw_or (pt_cmpR op_ne ((pe_call (E := E0) GA (hr.mono (by omega)) (by rfl) (g_string_at T) kA bA .nil pass0 (pa_cons (pv 9) (pa_cons (pe_tup pa_nil) pa_nil)))) (pv 4) (nomark _)) (pw_or1 (pt_cmpR op_ne ((pe_call (E := E0) GO (hr.mono (by omega)) (by rfl) (g_write T) kO bO .nil pass0 (pa_cons (pv 9) pa_nil))) (pv 8) (nomark _))))).pt) (pss_one ((ps_ret (pe_bl)))) pss_nil)))))))))))))) (pss_one ((ps_ret (pe_bl))))), ?_⟩
    refine ⟨_, rfl, a, 0, ns, rfl, ha, fun i => ⟨(by show 1 ≤ sizeLine; decide), fun L1 hL1 => ?_⟩⟩
    have sL1 : Same H (upd H L1 (.lst [.int i])) := same_new hL1
    have eL1 : upd H L1 (.lst [.int i]) L1 = some (.lst [.int i]) := upd_same
    generalize upd H L1 (.lst [.int i]) = H5 at sL1 eL1 ⊢
    refine ⟨_, rfl, _, rfl, _, rfl, a, _, rfl, sqL_keep ha sL1, fun L2 hL2 => ?_⟩
    have sL2 := same_new (o := .lst (cutV (ns.map V.int) (some 1) (some 6))) hL2
    have eL2 : upd H5 L2 (.lst (cutV (ns.map V.int) (some 1) (some 6))) L2 = some (.lst (cutV (ns.map V.int) (some 1) (some 6))) := upd_same
    have eL1' := sL2 _ _ eL1
    generalize upd H5 L2 (.lst (cutV (ns.map V.int) (some 1) (some 6))) = H6 at sL2 eL2 eL1' ⊢
    have hcl : (cutV (ns.map V.int) (some 1) (some 6)).length ≤ 10 := by
      unfold cutV
      rw [List.length_take]
      have e5 : HT.sIx (ns.map V.int).length (ns.map V.int).length (some 6) = min 6 (ns.map V.int).length := rfl
      rw [e5]
      omega
    refine ⟨L1, L2, _, _, rfl, rfl, eL1', eL2, by rw [sizeLine_eq]; show 1 + _ ≤ _; omega, fun L3 hL3 => ?_⟩
    have sL3 := same_new (o := .lst ([.int i] ++ cutV (ns.map V.int) (some 1) (some 6))) hL3
    have eL3 : upd H6 L3 (.lst ([.int i] ++ cutV (ns.map V.int) (some 1) (some 6))) L3 = some (.lst ([.int i] ++ cutV (ns.map V.int) (some 1) (some 6))) := upd_same
    have hall : ∀ x ∈ [V.int i] ++ cutV (ns.map V.int) (some 1) (some 6), ∃ j : Int, x = .int j := by
      intro x hx
      rcases List.mem_append.mp hx with hx | hx
      · rw [List.mem_singleton] at hx
        exact ⟨i, hx⟩
      · obtain ⟨j, _, rfl⟩ := List.mem_map.mp (mem_cutV hx)
        exact ⟨j, rfl⟩
    generalize [V.int i] ++ cutV (ns.map V.int) (some 1) (some 6) = cells at sL3 eL3 hall ⊢
    generalize upd H6 L3 (.lst cells) = H7 at sL3 eL3 ⊢
    refine ⟨L3, rfl, ⟨_, SqL.of eL3⟩, ?_⟩
    refine for_it (walk_list (K := K) (a := L3) (xs := cells)) (fun k σ H8 => Same H7 H8 ∧ ∃ v1 v2 v3 v4 v5 v6 v7 v8 v9 : Option V, σ = [some (.ref a), v1, v2, v3, v4, v5, v6, v7, v8, v9])
      ⟨Same.refl _, _, _, _, _, _, _, _, _, _, rfl⟩ (fun k σ H8 _ h => SqL.of (h.1 _ _ eL3)) ?_ ?_
    · rintro k x σ H8' H8 hk ⟨s8, v1, v2, v3, v4, v5, v6, v7, v8, v9, rfl⟩ ⟨rfl, hx⟩
      obtain ⟨cl, rfl⟩ := hall x (List.mem_of_getElem? hx)
      refine ⟨_, rfl, cl, rfl, fun H9 p s9 hp9 hw9 => ?_⟩
      refine ⟨_, rfl, p, 0, rfl, hw9, by decide, fun H10 l1 c10 s10 w10 hc10 hl1 hm1 => ?_⟩
      refine ⟨_, rfl, p, c10, rfl, w10, by omega, fun H11 l2 c11 s11 w11 hc11 hl2 hm2 => ⟨_, _, rfl, ?_⟩⟩
      refine ⟨(by show 2 ≤ sizeLine; decide), fun B hB => ?_⟩
      have sB := same_new hB (o := .lst [.int 10, .int 16])
      have hBp : B ≠ p := (w11.ne hB)
      refine ⟨_, rfl, p, 2, c11, rfl, w11.at sB, by decide, by decide, by omega, fun H12 kb c12 s12 w12 hc12 hkb => ?_⟩
      have hb : ∃ b : Nat, (b = 10 ∨ b = 16) ∧ [V.int 10, V.int 16][kb]? = some (.int (b : Int)) := by
        have : kb = 0 ∨ kb = 1 := by omega
        rcases this with rfl | rfl
        · exact ⟨10, .inl rfl, rfl⟩
        · exact ⟨16, .inr rfl, rfl⟩
      obtain ⟨b, hb1, hb2⟩ := hb
      refine ⟨B, [.int 10, .int 16], (kb : Int), _, rfl, rfl, SqL.of (s12 _ _ hBp upd_same), atI_nat hb2, ?_⟩
      have b12 : SameB p H8 H12 := (((SameB.of s9).trans s10).trans s11).trans ((SameB.of sB).trans s12)
      have la : (Str.ofString "<a p='").length = 6 := rfl
      have lb : (Str.ofString "'>").length = 2 := rfl
      have lc : (Str.ofString "</a>").length = 4 := rfl
      refine ⟨_, rfl, _, rfl, _, rfl, p, c12, b, l1, rfl, w12, by omega, hb1, hl1, hm1, fun H13 t1 c13 s13 w13 hc13 hr1 ht1 => ?_⟩
      refine ⟨_, mkS t1, rfl, rfl, (by rw [mkS_len, la, sizeLine_eq]; omega), ?_⟩
      refine ⟨_, _, rfl, rfl, (by rw [cat_len, mkS_len, la, lb, sizeLine_eq]; omega), ?_⟩
      refine ⟨_, rfl, _, rfl, _, rfl, p, c13, b, l2, rfl, w13, by omega, hb1, hl2, hm2, fun H14 t2 c14 s14 w14 hc14 hr2 ht2 => ?_⟩
      refine ⟨_, mkS t2, rfl, rfl, (by rw [cat_len, cat_len, mkS_len, mkS_len, la, lb, sizeLine_eq]; omega), ?_⟩
      refine ⟨_, _, rfl, rfl, (by rw [cat_len, cat_len, cat_len, mkS_len, mkS_len, la, lb, lc, sizeLine_eq]; omega), ?_⟩
      have etxt : Str.ofString "<a p='" ++ mkS t1 ++ Str.ofString "'>" ++ mkS t2 ++ Str.ofString "</a>" = mkS (oneT t1 t2) := by
        show mkS [60, 97, 32, 112, 61, 39] ++ mkS t1 ++ mkS [39, 62] ++ mkS t2 ++ mkS [60, 47, 97, 62] = _
        rw [cat_mk, cat_mk, cat_mk, cat_mk]
        unfold oneT
        congr 1
        simp
      rw [etxt]
      have b14 : SameB p H8 H14 := (b12.trans s13).trans s14
      have hp8 : H8 p = none := hp9
      have s14' : Same H8 H14 := fun y o hy => b14 y o (ne_of_none hy hp8) hy
      obtain ⟨fu, hdoc⟩ := one_doc hr1 hr2
      refine ⟨_, rfl, mkS (oneT t1 t2), fu, _, rfl, one_gd hr1 hr2 ht1 ht2, by rw [tl_mkS]; exact hdoc, fun H15 tr s15 htr hT15 => ?_⟩
      have e64 : ([PT.i 0, PT.s [64, 112]].map PT.v) = [V.int 0, V.str (Str.ofString "@p")] := rfl
      have e0 : ([PT.i 0].map PT.v) = [V.int 0] := rfl
      have hl1' : l1.length ≤ 1000000 := by omega
      have hl2' : l2.length ≤ 1000000 := by omega
      refine ⟨_, rfl, (by show 2 ≤ sizeLine; decide), fun q1 hq1 => ?_⟩
      have sq1 := same_new hq1 (o := .tup [V.int 0, .str (Str.ofString "@p")])
      refine ⟨tr, q1, _, [.i 0, .s [64, 112]], .at ([112], l1), rfl, hT15.keep sq1, upd_same, sv_at l1 l2, hl1', fun H16 s16 => ?_⟩
      refine ⟨_, rfl, rfl, _, rfl, ?_⟩
      show if (!decide (V.str (mkS l1) = V.str (mkS l1))) = true then _ else _
      rw [ne_self]
      refine iteF ?_
      have hT16 := (hT15.keep sq1).keep s16
      refine ⟨_, rfl, (by show 1 ≤ sizeLine; decide), fun q2 hq2 => ?_⟩
      have sq2 := same_new hq2 (o := .tup [V.int 0])
      refine ⟨tr, q2, _, [.i 0], .nd (elL l1 l2), rfl, hT16.keep sq2, upd_same, sv_el l1 l2, by rw [sv_l2]; exact hl2', fun H17 s17 => ?_⟩
      rw [sv_l2]
      refine ⟨_, rfl, rfl, _, rfl, ?_⟩
      show if (!decide (V.str (mkS l2) = V.str (mkS l2))) = true then _ else _
      rw [ne_self]
      refine iteF ?_
      have hT17 := (hT16.keep sq2).keep s17
      have s17' : Same H8 H17 := ((((s14'.trans s15).trans sq1).trans s16).trans sq2).trans s17
      have n1 : (l1.flatMap (lmF true)).length ≤ 6 * l1.length := lm_flen true l1
      have n2 : (l2.flatMap (lmF false)).length ≤ 6 * l2.length := lm_flen false l2
      have ld : (Str.ofString "<a p=\"").length = 6 := rfl
      have le : (Str.ofString "\"").length = 1 := rfl
      have lf : (Str.ofString ">").length = 1 := rfl
      have lg : (Str.ofString "/>").length = 2 := rfl
      refine ⟨_, rfl, l1, true, rfl, hl1, hm1, fun H18 s18 => ?_⟩
      refine ⟨_, mkS (l1.flatMap (lmF true)), rfl, rfl, (by rw [mkS_len, ld, sizeLine_eq]; omega), ?_⟩
      refine ⟨_, _, rfl, rfl, (by rw [cat_len, mkS_len, ld, le, sizeLine_eq]; omega), ?_⟩
      refine ⟨_, rfl, l2, false, rfl, hl2, hm2, fun H19 s19 => ?_⟩
      refine ⟨_, mkS (l2.flatMap (lmF false)), rfl, rfl, (by rw [mkS_len, lf, sizeLine_eq]; omega), ?_⟩
      refine ⟨_, _, rfl, rfl, (by rw [cat_len, mkS_len, lf, lc, sizeLine_eq]; omega), ?_⟩
      have e2s : Str.ofString ">" ++ mkS (l2.flatMap (lmF false)) ++ Str.ofString "</a>" = mkS (62 :: (l2.flatMap txF ++ [60, 47, 97, 62])) := by
        show mkS [62] ++ mkS (l2.flatMap txF) ++ mkS [60, 47, 97, 62] = _
        rw [cat_mk, cat_mk]
        try congr 1
        try simp
      rw [e2s]
      refine ⟨(by show 2 ≤ sizeLine; decide), fun G hG => ?_⟩
      have sG := same_new hG (o := .lst [V.str (mkS (62 :: (l2.flatMap txF ++ [60, 47, 97, 62]))), .str (Str.ofString "/>")])
      have hsel : ∃ (ix : Nat), V.int (if decide (V.str (mkS l2) = V.str (Str.ofString "")) = true then 1 else 0) = V.int (ix : Int) ∧ [V.str (mkS (62 :: (l2.flatMap txF ++ [60, 47, 97, 62]))), .str (Str.ofString "/>")][ix]? = some (.str (mkS (if l2 = [] then [47, 62] else 62 :: (l2.flatMap txF ++ [60, 47, 97, 62])))) := by
        rw [dec_str, tl_mkS]
        by_cases h0 : l2 = []
        · refine ⟨1, ?_, ?_⟩
          · rw [show decide (l2 = tl (Str.ofString "")) = true from decide_eq_true h0]
            rfl
          · rw [if_pos h0]
            rfl
        · refine ⟨0, ?_, ?_⟩
          · rw [show decide (l2 = tl (Str.ofString "")) = false from decide_eq_false h0]
            rfl
          · rw [if_neg h0]
            rfl
      obtain ⟨ix, hix, hfx⟩ := hsel
      refine ⟨_, rfl, rfl, .inr ⟨_, rfl, G, _, (ix : Int), _, rfl, hix, SqL.of upd_same, atI_nat hfx, ?_⟩⟩
      have lz : (if l2 = [] then [47, 62] else 62 :: (l2.flatMap txF ++ [60, 47, 97, 62])).length ≤ 400 := by
        have : (l2.flatMap txF).length ≤ 6 * l2.length := n2
        split <;> simp only [List.length_cons, List.length_append, List.length_nil] <;> omega
      refine ⟨_, _, rfl, rfl, (by rw [cat_len, cat_len, mkS_len, mkS_len, ld, le, sizeLine_eq]; omega), ?_⟩
      have edue : Str.ofString "<a p=\"" ++ mkS (l1.flatMap (lmF true)) ++ Str.ofString "\"" ++ mkS (if l2 = [] then [47, 62] else 62 :: (l2.flatMap txF ++ [60, 47, 97, 62])) = mkS (dueT l1 l2) := by
        show mkS [60, 97, 32, 112, 61, 34] ++ mkS (l1.flatMap amF) ++ mkS [34] ++ mkS (if l2 = [] then [47, 62] else 62 :: (l2.flatMap txF ++ [60, 47, 97, 62])) = _
        rw [cat_mk, cat_mk, cat_mk]
        unfold dueT
        try congr 1
        try simp
      rw [edue]
      have hT20 := ((hT17.keep s18).keep s19).keep sG
      have s20 : Same H8 (upd H19 G (.lst [V.str (mkS (62 :: (l2.flatMap txF ++ [60, 47, 97, 62]))), .str (Str.ofString "/>")])) := ((s17'.trans s18).trans s19).trans sG
      generalize upd H19 G (.lst [V.str (mkS (62 :: (l2.flatMap txF ++ [60, 47, 97, 62]))), .str (Str.ofString "/>")]) = H20 at hT20 s20 ⊢
      have ldue : (dueT l1 l2).length ≤ 1000 := by
        have h1 : (l1.flatMap amF).length ≤ 6 * l1.length := n1
        unfold dueT
        simp only [List.length_cons, List.length_append]
        omega
      have hmk := mk_due l1 l2
      refine ⟨_, rfl, tr, _, rfl, hT20, bd_el hl1 hl2, by rw [hmk]; omega, fun H21 s21 => ?_⟩
      rw [hmk]
      refine ⟨_, rfl, rfl, _, rfl, ?_⟩
      show if (!decide (V.str (mkS (dueT l1 l2)) = V.str (mkS (dueT l1 l2)))) = true then _ else _
      rw [ne_self]
      refine iteF ?_
      obtain ⟨fu2, hdoc2⟩ := due_doc l1 l2
      refine ⟨_, rfl, mkS (dueT l1 l2), fu2, _, rfl, due_gd hm1 hm2 hl1 hl2, by rw [tl_mkS]; exact hdoc2, fun H22 t22 s22 htr2 hT22 => ?_⟩
      refine ⟨_, rfl, (by show 2 ≤ sizeLine; decide), fun q3 hq3 => ?_⟩
      have sq3 := same_new hq3 (o := .tup [V.int 0, .str (Str.ofString "@p")])
      refine ⟨t22, q3, _, [.i 0, .s [64, 112]], .at ([112], l1), rfl, hT22.keep sq3, upd_same, sv_at l1 l2, hl1', fun H23 s23 => ?_⟩
      refine ⟨_, rfl, rfl, _, rfl, ?_⟩
      show if (!decide (V.str (mkS l1) = V.str (mkS l1))) = true then _ else _
      rw [ne_self]
      refine iteF ?_
      have hT23 := (hT22.keep sq3).keep s23
      refine ⟨_, rfl, (by show 0 ≤ sizeLine; decide), fun q4 hq4 => ?_⟩
      have sq4 := same_new hq4 (o := .tup [])
      refine ⟨t22, q4, _, [], .rt [elL l1 l2], rfl, hT23.keep sq4, upd_same, rfl, by rw [sv_rt]; exact hl2', fun H24 s24 => ?_⟩
      rw [sv_rt]
      refine ⟨_, rfl, rfl, _, rfl, ?_⟩
      show if (!decide (V.str (mkS l2) = V.str (mkS l2))) = true then _ else _
      rw [ne_self]
      refine iteF ?_
      have hT24 := (hT23.keep sq4).keep s24
      refine ⟨_, rfl, t22, _, rfl, hT24, bd_el hl1 hl2, by rw [hmk]; omega, fun H25 s25 => ?_⟩
      rw [hmk]
      refine ⟨_, rfl, rfl, _, rfl, ?_⟩
      show if (!decide (V.str (mkS (dueT l1 l2)) = V.str (mkS (dueT l1 l2)))) = true then _ else _
      rw [ne_self]
      refine iteF ?_
      exact ⟨s8.trans (((((((s20.trans s21).trans s22).trans sq3).trans s23).trans sq4).trans s24).trans s25), _, _, _, _, _, _, _, _, _, rfl⟩
    · rintro σ H8 ⟨s8, v1, v2, v3, v4, v5, v6, v7, v8, v9, rfl⟩
      exact kk _
end
end PX
/-! PXFin -/
open PySem PySem.W PySem.Calls PyProof.Rows
namespace PX
open PySem PySem.Spec PyProof.Rows L2
theorem tx_of {w : World} {K : PySem.W.Frag} {h : Heap} {mg : Str → Option Value} (X : K.In h) (G : h.Ns mainGlobals mg) (c : He.SaysT fa fn ts w K) (e : ex K = true) : Tx w K mg := by
  have h2 := congrArg Prod.snd c
  have h3 := List.cons.inj h2
  exact ⟨c.d, ⟨h, X, G⟩, h3.1, e⟩
end PX
theorem PySem.Challenge.cw_pathloom_k04_whole_signs_kept_holds : PySem.Challenge.rw_pathloom_k04_whole_signs_kept.Holds := by
  w_on; o_law
  refine HandSHeadRun.head_any (r := OpenLaw.row PySem.Challenge.rw_pathloom_k04_whole_signs_kept) (q := view (OpenLaw.row PySem.Challenge.rw_pathloom_k04_whole_signs_kept).prog [55]) (H := PX.hk) (ob := PX.ob) (M := 60000) (loose := PX.names)
    (d := HandSHeadRun.topDef (OpenLaw.row PySem.Challenge.rw_pathloom_k04_whole_signs_kept).prog 55) (kwd := []) PX.ob_eq
    (by kernel_rfl) (fun s => by kernel_rfl) PX.headRun (by kernel_rfl) (by kernel_rfl) (by kernel_rfl) (by rfl) (by first | assumption | decide +kernel) (by decide +kernel) ⟨rfl, rfl, rfl, rfl, rfl, by decide +kernel⟩ ?hw ?hc
  case hw => w_witness2
  case hc =>
    refine L2.walk_ofE (l := PySem.Challenge.rw_pathloom_k04_whole_signs_kept) (n := 63) (k := 13) (x := "_law_script") (CX := L2.CX0) rfl (by decide) (by kernel_rfl) ⟨rfl, by decide, by decide⟩ ?F (fun _ _ _ _ z => z)
    intro w mg f h Y G hmg0
    obtain ⟨K, KX, c, e⟩ := Y
    have T := PX.tx_of KX G c e
    have hmg : mg ("law" : PySem.Str) = some (.ref f) := by
      have e2 : (HandSHeadRun.topDef (OpenLaw.row PySem.Challenge.rw_pathloom_k04_whole_signs_kept).prog 55).name = ("law" : PySem.Str) := by kernel_rfl
      rw [← e2]
      exact hmg0
    have ef := hmg.symm.trans (PX.g_law T)
    cases ef
    obtain ⟨fd, F⟩ := PX.f_law T
    have b := L2.FunD.bindsA (ps := ["_law_script"]) F fun _ _ _ _ _ _ us hl => match us, hl with | [_], _ => rfl
    exact ⟨K, fd, PX.spLaw K, KX, fun s v => b s [v] rfl, fun H a ns hl _ hS => ⟨a, ns, rfl, hS, fun _ => rfl⟩, fun base _ _ => PX.ok_law T F⟩
