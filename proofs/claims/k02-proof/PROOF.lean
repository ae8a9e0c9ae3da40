import PyProof.Rows.All
import Wide.All
import OpenK.AllK
import Wide.FinOn
import HandS.ForMost
import HandS.ForExc
import HandS.Defaults
import HandS.ExcInit
import HandS.ExcField
import HandS.ClsMeth
import HandS.HeadHook1
import HandS.HeadHook2
import HandS.HeadHook3
import HandS.HeadHook4
import KE.KStateDown
import HandS.Head0
import HandS.Head1
import HandS.Head2
import HandS.HeadEnd
import HandS.FStr
import HandS.Walk
import PyProof.EnumMake
import PyProof.Draws
import KE.GoesMore
import HandS.StrMore
import HandS.Style
import HandS.Evl
import HandS.More
import HandS.Dict
import HandS.IsInst
import HandS.WideBits
import HandS.Wide
import HandS.Replace
import HandS.ReplaceLit
import HandS.ReplaceDef
import HandS.TryOnly
import HandS.ReplaceList
import PySem.Challenge.RW_pathloom_k02_what_is_no_document
set_option Elab.async false
set_option linter.all false
set_option maxRecDepth 100000
set_option maxHeartbeats 0
/-! K02Text -/
namespace K2
open PySem PySem.Spec PyProof.Rows L2
/-! ### the text -/
def top (i : Nat) : Stmt := PySem.Challenge.pw_pathloom_k02_what_is_no_document.main.body.getD i (.Pass ⟨0, 0, 0, 0⟩)

abbrev s_TreeError_init : Stmt := inClass (top 1) 0
abbrev s_BadValue_init : Stmt := inClass (top 2) 0
abbrev s_NotDocument_init : Stmt := inClass (top 3) 0
abbrev s_is_blank : Stmt := top 6
abbrev s_is_sign : Stmt := top 7
abbrev s_end_of_signs : Stmt := top 8
abbrev s_begins_word : Stmt := top 9
abbrev s_goes_on_in_word : Stmt := top 10
abbrev s_referred_sign : Stmt := top 11
abbrev s_leads_to_sign : Stmt := top 12
abbrev s_is_beginning : Stmt := top 13
abbrev s_Scanner_init : Stmt := inClass (top 18) 0
abbrev s_Scanner_peek : Stmt := inClass (top 18) 1
abbrev s_Scanner_is_done : Stmt := inClass (top 18) 2
abbrev s_Scanner_expect : Stmt := inClass (top 18) 3
abbrev s_Scanner_read_one_of : Stmt := inClass (top 18) 4
abbrev s_Scanner_read_up_to : Stmt := inClass (top 18) 5
abbrev s_Scanner_read_blanks : Stmt := inClass (top 18) 6
abbrev s_Scanner_read_name : Stmt := inClass (top 18) 7
abbrev s_Scanner_read_word : Stmt := inClass (top 18) 8
abbrev s_Scanner_read_plain : Stmt := inClass (top 18) 9
abbrev s_Scanner_read_reference : Stmt := inClass (top 18) 10
abbrev s_Scanner_read_numbered_reference : Stmt := inClass (top 18) 11
abbrev s_Scanner_read_digit : Stmt := inClass (top 18) 12
abbrev s_Scanner_read_attribute_text : Stmt := inClass (top 18) 13
abbrev s_Node_init : Stmt := inClass (top 20) 0
abbrev s_Node_put_attribute : Stmt := inClass (top 20) 1
abbrev s_Node_put_child : Stmt := inClass (top 20) 2
abbrev s_Tree_init : Stmt := inClass (top 21) 0
abbrev s_nodes_in : Stmt := top 22
abbrev s_read : Stmt := top 24
abbrev s_Reader_init : Stmt := inClass (top 25) 0
abbrev s_Reader_read_document : Stmt := inClass (top 25) 1
abbrev s_Reader_read_declaration : Stmt := inClass (top 25) 2
abbrev s_Reader_read_part_around : Stmt := inClass (top 25) 3
abbrev s_Reader_read_part_of_content : Stmt := inClass (top 25) 4
abbrev s_Reader_read_markup : Stmt := inClass (top 25) 5
abbrev s_Reader_read_comment_or_cdata : Stmt := inClass (top 25) 6
abbrev s_Reader_read_comment : Stmt := inClass (top 25) 7
abbrev s_Reader_read_instruction : Stmt := inClass (top 25) 8
abbrev s_Reader_read_tag : Stmt := inClass (top 25) 9
abbrev s_Reader_read_attribute : Stmt := inClass (top 25) 10
abbrev s_Reader_read_end_tag : Stmt := inClass (top 25) 11
abbrev s_Reader_put : Stmt := inClass (top 25) 12
abbrev s_Reader_put_text : Stmt := inClass (top 25) 13
abbrev s_Lcell_at : Stmt := top 27
abbrev s_Lwell : Stmt := top 28
abbrev s_Ldraw : Stmt := top 29
abbrev s_Lpick : Stmt := top 30
abbrev s_Ltext : Stmt := top 31
abbrev s_Lchildren : Stmt := top 32
abbrev s_Lelement : Stmt := top 33
abbrev s_Ltree : Stmt := top 34
abbrev s_Lquoted : Stmt := top 37
abbrev s_Lwritten : Stmt := top 38
abbrev s_Lletter : Stmt := top 39
abbrev s_Lis_sign : Stmt := top 40
abbrev s_Lblank : Stmt := top 41
abbrev s_Lexact : Stmt := top 42
abbrev s_Lname : Stmt := top 43
abbrev s_Lnumber : Stmt := top 44
abbrev s_Lreference : Stmt := top 45
abbrev s_Lvalue_end : Stmt := top 46
abbrev s_Ltag : Stmt := top 47
abbrev s_Luntil : Stmt := top 48
abbrev s_Lspecial : Stmt := top 49
abbrev s_Lclosing : Stmt := top 50
abbrev s_Linner : Stmt := top 51
abbrev s_Laround : Stmt := top 52
abbrev s_Lread : Stmt := top 53
abbrev s_Lspoilt : Stmt := top 54
abbrev s_law : Stmt := top 55
def d_TreeError_init : He.DefD := ⟨("TreeError", some "__init__"), "__init__", "TreeError.__init__", defArgs s_TreeError_init, defBody s_TreeError_init, defScope s_TreeError_init, [.str ""], []⟩
def d_BadValue_init : He.DefD := ⟨("BadValue", some "__init__"), "__init__", "BadValue.__init__", defArgs s_BadValue_init, defBody s_BadValue_init, defScope s_BadValue_init, [.str ""], []⟩
def d_NotDocument_init : He.DefD := ⟨("NotDocument", some "__init__"), "__init__", "NotDocument.__init__", defArgs s_NotDocument_init, defBody s_NotDocument_init, defScope s_NotDocument_init, [], []⟩
def d_is_blank : He.DefD := ⟨("is_blank", none), "is_blank", "is_blank", defArgs s_is_blank, defBody s_is_blank, defScope s_is_blank, [], []⟩
def d_is_sign : He.DefD := ⟨("is_sign", none), "is_sign", "is_sign", defArgs s_is_sign, defBody s_is_sign, defScope s_is_sign, [], []⟩
def d_end_of_signs : He.DefD := ⟨("end_of_signs", none), "end_of_signs", "end_of_signs", defArgs s_end_of_signs, defBody s_end_of_signs, defScope s_end_of_signs, [], []⟩
def d_begins_word : He.DefD := ⟨("begins_word", none), "begins_word", "begins_word", defArgs s_begins_word, defBody s_begins_word, defScope s_begins_word, [], []⟩
def d_goes_on_in_word : He.DefD := ⟨("goes_on_in_word", none), "goes_on_in_word", "goes_on_in_word", defArgs s_goes_on_in_word, defBody s_goes_on_in_word, defScope s_goes_on_in_word, [], []⟩
def d_referred_sign : He.DefD := ⟨("referred_sign", none), "referred_sign", "referred_sign", defArgs s_referred_sign, defBody s_referred_sign, defScope s_referred_sign, [], []⟩
def d_leads_to_sign : He.DefD := ⟨("leads_to_sign", none), "leads_to_sign", "leads_to_sign", defArgs s_leads_to_sign, defBody s_leads_to_sign, defScope s_leads_to_sign, [], []⟩
def d_is_beginning : He.DefD := ⟨("is_beginning", none), "is_beginning", "is_beginning", defArgs s_is_beginning, defBody s_is_beginning, defScope s_is_beginning, [], []⟩
def d_Scanner_init : He.DefD := ⟨("Scanner", some "__init__"), "__init__", "Scanner.__init__", defArgs s_Scanner_init, defBody s_Scanner_init, defScope s_Scanner_init, [], []⟩
def d_Scanner_peek : He.DefD := ⟨("Scanner", some "peek"), "peek", "Scanner.peek", defArgs s_Scanner_peek, defBody s_Scanner_peek, defScope s_Scanner_peek, [], []⟩
def d_Scanner_is_done : He.DefD := ⟨("Scanner", some "is_done"), "is_done", "Scanner.is_done", defArgs s_Scanner_is_done, defBody s_Scanner_is_done, defScope s_Scanner_is_done, [], []⟩
def d_Scanner_expect : He.DefD := ⟨("Scanner", some "expect"), "expect", "Scanner.expect", defArgs s_Scanner_expect, defBody s_Scanner_expect, defScope s_Scanner_expect, [], []⟩
def d_Scanner_read_one_of : He.DefD := ⟨("Scanner", some "read_one_of"), "read_one_of", "Scanner.read_one_of", defArgs s_Scanner_read_one_of, defBody s_Scanner_read_one_of, defScope s_Scanner_read_one_of, [], []⟩
def d_Scanner_read_up_to : He.DefD := ⟨("Scanner", some "read_up_to"), "read_up_to", "Scanner.read_up_to", defArgs s_Scanner_read_up_to, defBody s_Scanner_read_up_to, defScope s_Scanner_read_up_to, [], []⟩
def d_Scanner_read_blanks : He.DefD := ⟨("Scanner", some "read_blanks"), "read_blanks", "Scanner.read_blanks", defArgs s_Scanner_read_blanks, defBody s_Scanner_read_blanks, defScope s_Scanner_read_blanks, [], []⟩
def d_Scanner_read_name : He.DefD := ⟨("Scanner", some "read_name"), "read_name", "Scanner.read_name", defArgs s_Scanner_read_name, defBody s_Scanner_read_name, defScope s_Scanner_read_name, [], []⟩
def d_Scanner_read_word : He.DefD := ⟨("Scanner", some "read_word"), "read_word", "Scanner.read_word", defArgs s_Scanner_read_word, defBody s_Scanner_read_word, defScope s_Scanner_read_word, [], []⟩
def d_Scanner_read_plain : He.DefD := ⟨("Scanner", some "read_plain"), "read_plain", "Scanner.read_plain", defArgs s_Scanner_read_plain, defBody s_Scanner_read_plain, defScope s_Scanner_read_plain, [], []⟩
def d_Scanner_read_reference : He.DefD := ⟨("Scanner", some "read_reference"), "read_reference", "Scanner.read_reference", defArgs s_Scanner_read_reference, defBody s_Scanner_read_reference, defScope s_Scanner_read_reference, [], []⟩
def d_Scanner_read_numbered_reference : He.DefD := ⟨("Scanner", some "read_numbered_reference"), "read_numbered_reference", "Scanner.read_numbered_reference", defArgs s_Scanner_read_numbered_reference, defBody s_Scanner_read_numbered_reference, defScope s_Scanner_read_numbered_reference, [], []⟩
def d_Scanner_read_digit : He.DefD := ⟨("Scanner", some "read_digit"), "read_digit", "Scanner.read_digit", defArgs s_Scanner_read_digit, defBody s_Scanner_read_digit, defScope s_Scanner_read_digit, [], []⟩
def d_Scanner_read_attribute_text : He.DefD := ⟨("Scanner", some "read_attribute_text"), "read_attribute_text", "Scanner.read_attribute_text", defArgs s_Scanner_read_attribute_text, defBody s_Scanner_read_attribute_text, defScope s_Scanner_read_attribute_text, [], []⟩
def d_Node_init : He.DefD := ⟨("Node", some "__init__"), "__init__", "Node.__init__", defArgs s_Node_init, defBody s_Node_init, defScope s_Node_init, [], []⟩
def d_Node_put_attribute : He.DefD := ⟨("Node", some "put_attribute"), "put_attribute", "Node.put_attribute", defArgs s_Node_put_attribute, defBody s_Node_put_attribute, defScope s_Node_put_attribute, [], []⟩
def d_Node_put_child : He.DefD := ⟨("Node", some "put_child"), "put_child", "Node.put_child", defArgs s_Node_put_child, defBody s_Node_put_child, defScope s_Node_put_child, [], []⟩
def d_Tree_init : He.DefD := ⟨("Tree", some "__init__"), "__init__", "Tree.__init__", defArgs s_Tree_init, defBody s_Tree_init, defScope s_Tree_init, [], []⟩
def d_nodes_in : He.DefD := ⟨("nodes_in", none), "nodes_in", "nodes_in", defArgs s_nodes_in, defBody s_nodes_in, defScope s_nodes_in, [], []⟩
def d_read : He.DefD := ⟨("read", none), "read", "read", defArgs s_read, defBody s_read, defScope s_read, [], []⟩
def d_Reader_init : He.DefD := ⟨("Reader", some "__init__"), "__init__", "Reader.__init__", defArgs s_Reader_init, defBody s_Reader_init, defScope s_Reader_init, [], []⟩
def d_Reader_read_document : He.DefD := ⟨("Reader", some "read_document"), "read_document", "Reader.read_document", defArgs s_Reader_read_document, defBody s_Reader_read_document, defScope s_Reader_read_document, [], []⟩
def d_Reader_read_declaration : He.DefD := ⟨("Reader", some "read_declaration"), "read_declaration", "Reader.read_declaration", defArgs s_Reader_read_declaration, defBody s_Reader_read_declaration, defScope s_Reader_read_declaration, [], []⟩
def d_Reader_read_part_around : He.DefD := ⟨("Reader", some "read_part_around"), "read_part_around", "Reader.read_part_around", defArgs s_Reader_read_part_around, defBody s_Reader_read_part_around, defScope s_Reader_read_part_around, [], []⟩
def d_Reader_read_part_of_content : He.DefD := ⟨("Reader", some "read_part_of_content"), "read_part_of_content", "Reader.read_part_of_content", defArgs s_Reader_read_part_of_content, defBody s_Reader_read_part_of_content, defScope s_Reader_read_part_of_content, [], []⟩
def d_Reader_read_markup : He.DefD := ⟨("Reader", some "read_markup"), "read_markup", "Reader.read_markup", defArgs s_Reader_read_markup, defBody s_Reader_read_markup, defScope s_Reader_read_markup, [], []⟩
def d_Reader_read_comment_or_cdata : He.DefD := ⟨("Reader", some "read_comment_or_cdata"), "read_comment_or_cdata", "Reader.read_comment_or_cdata", defArgs s_Reader_read_comment_or_cdata, defBody s_Reader_read_comment_or_cdata, defScope s_Reader_read_comment_or_cdata, [], []⟩
def d_Reader_read_comment : He.DefD := ⟨("Reader", some "read_comment"), "read_comment", "Reader.read_comment", defArgs s_Reader_read_comment, defBody s_Reader_read_comment, defScope s_Reader_read_comment, [], []⟩
def d_Reader_read_instruction : He.DefD := ⟨("Reader", some "read_instruction"), "read_instruction", "Reader.read_instruction", defArgs s_Reader_read_instruction, defBody s_Reader_read_instruction, defScope s_Reader_read_instruction, [], []⟩
def d_Reader_read_tag : He.DefD := ⟨("Reader", some "read_tag"), "read_tag", "Reader.read_tag", defArgs s_Reader_read_tag, defBody s_Reader_read_tag, defScope s_Reader_read_tag, [], []⟩
def d_Reader_read_attribute : He.DefD := ⟨("Reader", some "read_attribute"), "read_attribute", "Reader.read_attribute", defArgs s_Reader_read_attribute, defBody s_Reader_read_attribute, defScope s_Reader_read_attribute, [], []⟩
def d_Reader_read_end_tag : He.DefD := ⟨("Reader", some "read_end_tag"), "read_end_tag", "Reader.read_end_tag", defArgs s_Reader_read_end_tag, defBody s_Reader_read_end_tag, defScope s_Reader_read_end_tag, [], []⟩
def d_Reader_put : He.DefD := ⟨("Reader", some "put"), "put", "Reader.put", defArgs s_Reader_put, defBody s_Reader_put, defScope s_Reader_put, [], []⟩
def d_Reader_put_text : He.DefD := ⟨("Reader", some "put_text"), "put_text", "Reader.put_text", defArgs s_Reader_put_text, defBody s_Reader_put_text, defScope s_Reader_put_text, [], []⟩
def d_Lcell_at : He.DefD := ⟨("_law_cell_at", none), "_law_cell_at", "_law_cell_at", defArgs s_Lcell_at, defBody s_Lcell_at, defScope s_Lcell_at, [], []⟩
def d_Lwell : He.DefD := ⟨("_law_well", none), "_law_well", "_law_well", defArgs s_Lwell, defBody s_Lwell, defScope s_Lwell, [], []⟩
def d_Ldraw : He.DefD := ⟨("_law_draw", none), "_law_draw", "_law_draw", defArgs s_Ldraw, defBody s_Ldraw, defScope s_Ldraw, [], []⟩
def d_Lpick : He.DefD := ⟨("_law_pick", none), "_law_pick", "_law_pick", defArgs s_Lpick, defBody s_Lpick, defScope s_Lpick, [], []⟩
def d_Ltext : He.DefD := ⟨("_law_text", none), "_law_text", "_law_text", defArgs s_Ltext, defBody s_Ltext, defScope s_Ltext, [], []⟩
def d_Lchildren : He.DefD := ⟨("_law_children", none), "_law_children", "_law_children", defArgs s_Lchildren, defBody s_Lchildren, defScope s_Lchildren, [], []⟩
def d_Lelement : He.DefD := ⟨("_law_element", none), "_law_element", "_law_element", defArgs s_Lelement, defBody s_Lelement, defScope s_Lelement, [], []⟩
def d_Ltree : He.DefD := ⟨("_law_tree", none), "_law_tree", "_law_tree", defArgs s_Ltree, defBody s_Ltree, defScope s_Ltree, [], []⟩
def d_Lquoted : He.DefD := ⟨("_law_quoted", none), "_law_quoted", "_law_quoted", defArgs s_Lquoted, defBody s_Lquoted, defScope s_Lquoted, [], []⟩
def d_Lwritten : He.DefD := ⟨("_law_written", none), "_law_written", "_law_written", defArgs s_Lwritten, defBody s_Lwritten, defScope s_Lwritten, [], []⟩
def d_Lletter : He.DefD := ⟨("_law_letter", none), "_law_letter", "_law_letter", defArgs s_Lletter, defBody s_Lletter, defScope s_Lletter, [], []⟩
def d_Lis_sign : He.DefD := ⟨("_law_is_sign", none), "_law_is_sign", "_law_is_sign", defArgs s_Lis_sign, defBody s_Lis_sign, defScope s_Lis_sign, [], []⟩
def d_Lblank : He.DefD := ⟨("_law_blank", none), "_law_blank", "_law_blank", defArgs s_Lblank, defBody s_Lblank, defScope s_Lblank, [], []⟩
def d_Lexact : He.DefD := ⟨("_law_exact", none), "_law_exact", "_law_exact", defArgs s_Lexact, defBody s_Lexact, defScope s_Lexact, [], []⟩
def d_Lname : He.DefD := ⟨("_law_name", none), "_law_name", "_law_name", defArgs s_Lname, defBody s_Lname, defScope s_Lname, [], []⟩
def d_Lnumber : He.DefD := ⟨("_law_number", none), "_law_number", "_law_number", defArgs s_Lnumber, defBody s_Lnumber, defScope s_Lnumber, [], []⟩
def d_Lreference : He.DefD := ⟨("_law_reference", none), "_law_reference", "_law_reference", defArgs s_Lreference, defBody s_Lreference, defScope s_Lreference, [], []⟩
def d_Lvalue_end : He.DefD := ⟨("_law_value_end", none), "_law_value_end", "_law_value_end", defArgs s_Lvalue_end, defBody s_Lvalue_end, defScope s_Lvalue_end, [], []⟩
def d_Ltag : He.DefD := ⟨("_law_tag", none), "_law_tag", "_law_tag", defArgs s_Ltag, defBody s_Ltag, defScope s_Ltag, [], []⟩
def d_Luntil : He.DefD := ⟨("_law_until", none), "_law_until", "_law_until", defArgs s_Luntil, defBody s_Luntil, defScope s_Luntil, [], []⟩
def d_Lspecial : He.DefD := ⟨("_law_special", none), "_law_special", "_law_special", defArgs s_Lspecial, defBody s_Lspecial, defScope s_Lspecial, [], []⟩
def d_Lclosing : He.DefD := ⟨("_law_closing", none), "_law_closing", "_law_closing", defArgs s_Lclosing, defBody s_Lclosing, defScope s_Lclosing, [], []⟩
def d_Linner : He.DefD := ⟨("_law_inner", none), "_law_inner", "_law_inner", defArgs s_Linner, defBody s_Linner, defScope s_Linner, [], []⟩
def d_Laround : He.DefD := ⟨("_law_around", none), "_law_around", "_law_around", defArgs s_Laround, defBody s_Laround, defScope s_Laround, [], []⟩
def d_Lread : He.DefD := ⟨("_law_read", none), "_law_read", "_law_read", defArgs s_Lread, defBody s_Lread, defScope s_Lread, [], []⟩
def d_Lspoilt : He.DefD := ⟨("_law_spoilt", none), "_law_spoilt", "_law_spoilt", defArgs s_Lspoilt, defBody s_Lspoilt, defScope s_Lspoilt, [], []⟩
def d_law : He.DefD := ⟨("law", none), "law", "law", defArgs s_law, defBody s_law, defScope s_law, [], []⟩
def fn : List He.DefD := [d_TreeError_init, d_BadValue_init, d_NotDocument_init, d_is_blank, d_is_sign, d_end_of_signs, d_begins_word, d_goes_on_in_word, d_referred_sign, d_leads_to_sign, d_is_beginning, d_Scanner_init, d_Scanner_peek, d_Scanner_is_done, d_Scanner_expect, d_Scanner_read_one_of, d_Scanner_read_up_to, d_Scanner_read_blanks, d_Scanner_read_name, d_Scanner_read_word, d_Scanner_read_plain, d_Scanner_read_reference, d_Scanner_read_numbered_reference, d_Scanner_read_digit, d_Scanner_read_attribute_text, d_Node_init, d_Node_put_attribute, d_Node_put_child, d_Tree_init, d_nodes_in, d_read, d_Reader_init, d_Reader_read_document, d_Reader_read_declaration, d_Reader_read_part_around, d_Reader_read_part_of_content, d_Reader_read_markup, d_Reader_read_comment_or_cdata, d_Reader_read_comment, d_Reader_read_instruction, d_Reader_read_tag, d_Reader_read_attribute, d_Reader_read_end_tag, d_Reader_put, d_Reader_put_text, d_Lcell_at, d_Lwell, d_Ldraw, d_Lpick, d_Ltext, d_Lchildren, d_Lelement, d_Ltree, d_Lquoted, d_Lwritten, d_Lletter, d_Lis_sign, d_Lblank, d_Lexact, d_Lname, d_Lnumber, d_Lreference, d_Lvalue_end, d_Ltag, d_Luntil, d_Lspecial, d_Lclosing, d_Linner, d_Laround, d_Lread, d_Lspoilt, d_law]
def fa : List He.Fa := [.glo "TreeError", .glo "BadValue", .glo "NotDocument", .glo "is_blank", .glo "is_sign", .glo "end_of_signs", .glo "begins_word", .glo "goes_on_in_word", .glo "referred_sign", .glo "leads_to_sign", .glo "is_beginning", .glo "Scanner", .glo "Node", .glo "Tree", .glo "nodes_in", .glo "read", .glo "Reader", .glo "_law_cell_at", .glo "_law_well", .glo "_law_draw", .glo "_law_pick", .glo "_law_text", .glo "_law_children", .glo "_law_element", .glo "_law_tree", .glo "_law_quoted", .glo "_law_written", .glo "_law_letter", .glo "_law_is_sign", .glo "_law_blank", .glo "_law_exact", .glo "_law_name", .glo "_law_number", .glo "_law_reference", .glo "_law_value_end", .glo "_law_tag", .glo "_law_until", .glo "_law_special", .glo "_law_closing", .glo "_law_inner", .glo "_law_around", .glo "_law_read", .glo "_law_spoilt", .glo "law", .glo "NAMED_SIGNS", .free "isinstance", .free "len", .free "enumerate", .free "ord", .free "range", .free "int", .free "list", .free "str", .str "REFERABLE" "\t\n !\"#$&'()*+,-./0123456789:;<=>?@ABCDEFGHIJKLMNOPQRSTUVWXYZ[\\]^_`abcdefghijklmnopqrstuvwxyz{|}~", .str "DECIMAL" "0123456789", .str "HEXADECIMAL" "0123456789abcdef", .cls "Scanner", .mkr "Scanner", .noat "Scanner" "text", .noat "Scanner" "at", .meth "Scanner" "peek", .meth "Scanner" "is_done", .meth "Scanner" "expect", .meth "Scanner" "read_one_of", .meth "Scanner" "read_up_to", .meth "Scanner" "read_blanks", .meth "Scanner" "read_name", .meth "Scanner" "read_word", .meth "Scanner" "read_plain", .meth "Scanner" "read_reference", .meth "Scanner" "read_numbered_reference", .meth "Scanner" "read_digit", .meth "Scanner" "read_attribute_text", .cls "Node", .mkr "Node", .noat "Node" "kind", .noat "Node" "name", .noat "Node" "text", .noat "Node" "attributes", .noat "Node" "children", .noat "Node" "parent", .noat "Node" "part", .noat "Node" "order", .meth "Node" "put_attribute", .meth "Node" "put_child", .cls "Tree", .mkr "Tree", .noat "Tree" "root", .noat "Tree" "nodes", .cls "Reader", .mkr "Reader", .noat "Reader" "scan", .noat "Reader" "root", .noat "Reader" "here", .noat "Reader" "has_outermost", .noat "Reader" "pieces", .meth "Reader" "read_document", .meth "Reader" "read_declaration", .meth "Reader" "read_part_around", .meth "Reader" "read_part_of_content", .meth "Reader" "read_markup", .meth "Reader" "read_comment_or_cdata", .meth "Reader" "read_comment", .meth "Reader" "read_instruction", .meth "Reader" "read_tag", .meth "Reader" "read_attribute", .meth "Reader" "read_end_tag", .meth "Reader" "put", .meth "Reader" "put_text", .exm "BadValue" "BadValue" true, .exm "NotDocument" "NotDocument" true, .noat "BadValue" "why", .noat "NotDocument" "why", .noat "NotDocument" "at", .noat "TreeError" "why"]
def ts : List He.Tab := [(fun K => He.ga K "NAMED_SIGNS", ["lt;", "gt;", "amp;", "quot;", "apos;"])]
def dq : Str := "\""
def namedKvs : List (Str × He.Dv) := [("lt;", .str "<"), ("gt;", .str ">"), ("amp;", .str "&"), ("quot;", .str "\""), ("apos;", .str "'")]

/-! ### what more the top must have left -/
def oexB (K : PySem.W.Frag) (x : Str) : Bool := (match K.lookup (He.ga K x) with
  | some ⟨.type c, _, .cls cd, sl⟩ => decide (c = "type") && (match cd.mro, sl.toList with
    | .ref C' :: bm, [_, _, _, _, some (.builtin n), _] => decide (C' = He.ga K x) && (decide (n = "ValueError.__new__") && (!cd.hasDel && (cd.hasDict && PySem.HandSPX.refsVE bm)))
    | _, _ => false)
  | _ => false) && (decide (PySem.W.findIn K (.ref (He.ga K x)) "__setattr__" = some (some (.builtin "object.__setattr__"))) && (decide (PySem.W.subIn K (.ref (He.ga K x)) (.type "BaseException") = some true) &&
  (decide (PySem.W.typeIn K (.ref (He.ga K x)) = some (.type "type")) && (PySem.W.keepIn K (.ref (He.ga K x)) && xfB K (He.ga K x)))))
def initB (K : PySem.W.Frag) (x : Str) : Bool := decide (PySem.W.findIn K (.ref (He.ga K x)) "__init__" = some (some (.ref (He.ma K (He.ga K x) "__init__")))) && decide (PySem.W.typeIn K (.ref (He.ma K (He.ga K x) "__init__")) = some (.type "function"))
def baseB (K : PySem.W.Frag) : Bool := (match PySem.W.findCls K (.ref (He.ga K "TreeError")) (.type "type") "__init__" with
  | some (.val (.ref f)) => decide (f = He.ma K (He.ga K "TreeError") "__init__")
  | _ => false) && (PySem.W.readsIn K (He.ga K "TreeError") (.type "type") && decide (PySem.W.specialIn K (.ref (He.ga K "TreeError")) "__getattribute__" = some (some (.builtin "type.__getattribute__"))))
def nbB (K : PySem.W.Frag) : Bool := match List.lookup cStatics K with
  | some o => (match o.data with
    | .dict es _ => es.toList.all (fun e => match e.key with | .str _ _ => true | _ => false) && (nsFind es sharingNotToldKey).isNone
    | _ => false)
  | none => false
def ex (K : PySem.W.Frag) : Bool := oexB K "BadValue" && (oexB K "NotDocument" && (initB K "BadValue" && (initB K "NotDocument" && (baseB K && (He.valsB K (He.ga K "NAMED_SIGNS") namedKvs && nbB K)))))
end K2
/-! K02Head -/
namespace K2
open PySem PySem.Spec PyProof.Rows L2
abbrev R : PySem.W.OpenRow := PySem.W.OpenLaw.row PySem.Challenge.rw_pathloom_k02_what_is_no_document
/-! ### the Hook: what the head is asked for, the statics' names among what is looked at -/
abbrev AlM : Type := He.AlT × Bool
def asM (g : Addr → Option Obj) (n : Nat) : List Addr := cStatics :: He.asD g n
def obsM (n : Nat) (g : Addr → Option Obj) : AlM := (He.obsT fa fn ts (He.frG g (asM g n)), ex (He.frG g (asM g n)))
def hk : PySem.W.Hook where
  α := AlM
  obs := fun s => obsM 4 s.heap.get?
  val := fun w => (He.valT fn ts w, true)
  says := fun w h => ∃ K : PySem.W.Frag, K.In h ∧ He.SaysT fa fn ts w K ∧ ex K = true
  of := fun _ _ e => ⟨_, He.frG_in, congrArg (fun z : AlM => z.1) e, congrArg (fun z : AlM => z.2) e⟩
  keeps := fun _ _ _ ⟨K, hK, c⟩ k => ⟨K, PySem.W.Frag.In.keeps hK k, c⟩
def ob (s : PySem.W.SharedT) : AlM := obsM 4 (HandSHeadRun.getT s)
theorem ob_eq (s : PySem.W.SharedT) : ob s = hk.obs s.abs := by
  have e : HandSHeadRun.getT s = s.abs.heap.get? := funext (HandSHeadRun.getT_eq s)
  show obsM 4 (HandSHeadRun.getT s) = obsM 4 s.abs.heap.get?
  rw [e]
def names1 : List PySem.Str := ["TreeError", "BadValue", "NotDocument", "is_blank", "is_sign", "end_of_signs", "begins_word", "goes_on_in_word", "referred_sign", "leads_to_sign", "is_beginning", "Scanner", "Node", "Tree", "nodes_in", "read", "Reader", "_law_cell_at", "_law_well", "_law_draw"]
def names2 : List PySem.Str := ["_law_pick", "_law_text", "_law_children", "_law_element", "_law_tree", "_law_rows", "_law_said", "_law_quoted", "_law_written", "_law_letter", "_law_is_sign", "_law_blank", "_law_exact", "_law_name", "_law_number", "_law_reference", "_law_value_end", "_law_tag", "_law_until", "_law_special"]
def names3 : List PySem.Str := ["_law_closing", "_law_inner", "_law_around", "_law_read", "_law_spoilt", "REFERABLE", "NAMED_SIGNS", "DECIMAL", "HEXADECIMAL"]
def names : List PySem.Str := names1 ++ (names2 ++ names3)
theorem hrA (w : World) : HandSHeadRun.RunEq R (PySem.W.view R.prog [55]) hk ob 4000 names (w.withFollow "special-get-raises" false) := by
  intro os
  kernel_rfl
theorem hrB (w : World) : HandSHeadRun.RunEq R (PySem.W.view R.prog [55]) hk ob 4000 names (w.withFollow "special-get-raises" true) := by
  intro os
  kernel_rfl
theorem headRun (w : World) : HandSHeadRun.RunEq R (PySem.W.view R.prog [55]) hk ob 4000 names w :=
  PySem.W.byRow2 "special-get-raises" (P := fun w => HandSHeadRun.RunEq R (PySem.W.view R.prog [55]) hk ob 4000 names w) hrA hrB w
end K2
/-! K02Base -/
namespace K2
open PySem PySem.Spec PyProof.Rows L2
/-! ### what the head has left -/
structure Tx (w : World) (K : PySem.W.Frag) (mg : Str → Option Value) : Prop where
  c : He.SaysD fa fn K
  kin : ∃ h : Heap, K.In h ∧ h.Ns mainGlobals mg
  tab : He.dicW K (He.ga K "NAMED_SIGNS") = some (He.keysIn w.params ["lt;", "gt;", "amp;", "quot;", "apos;"])
  more : ex K = true
abbrev FnP (K : PySem.W.Frag) (d : He.DefD) (fd : FuncData) : Prop := FunD K d.name d.qual d.params d.body d.scope (d.dvs K) (d.kws K) (He.fAd K d.at_) fd
section
variable {w : World} {K : PySem.W.Frag} {mg : Str → Option Value}

theorem g_TreeError (T : Tx w K mg) : mg "TreeError" = some (.ref (He.ga K "TreeError")) := by
  obtain ⟨h, X, G⟩ := T.kin
  exact He.glo_ok X G (T.c.fact 0 (f := .glo "TreeError") rfl)
theorem g_BadValue (T : Tx w K mg) : mg "BadValue" = some (.ref (He.ga K "BadValue")) := by
  obtain ⟨h, X, G⟩ := T.kin
  exact He.glo_ok X G (T.c.fact 1 (f := .glo "BadValue") rfl)
theorem g_NotDocument (T : Tx w K mg) : mg "NotDocument" = some (.ref (He.ga K "NotDocument")) := by
  obtain ⟨h, X, G⟩ := T.kin
  exact He.glo_ok X G (T.c.fact 2 (f := .glo "NotDocument") rfl)
theorem g_is_blank (T : Tx w K mg) : mg "is_blank" = some (.ref (He.ga K "is_blank")) := by
  obtain ⟨h, X, G⟩ := T.kin
  exact He.glo_ok X G (T.c.fact 3 (f := .glo "is_blank") rfl)
theorem g_is_sign (T : Tx w K mg) : mg "is_sign" = some (.ref (He.ga K "is_sign")) := by
  obtain ⟨h, X, G⟩ := T.kin
  exact He.glo_ok X G (T.c.fact 4 (f := .glo "is_sign") rfl)
theorem g_end_of_signs (T : Tx w K mg) : mg "end_of_signs" = some (.ref (He.ga K "end_of_signs")) := by
  obtain ⟨h, X, G⟩ := T.kin
  exact He.glo_ok X G (T.c.fact 5 (f := .glo "end_of_signs") rfl)
theorem g_begins_word (T : Tx w K mg) : mg "begins_word" = some (.ref (He.ga K "begins_word")) := by
  obtain ⟨h, X, G⟩ := T.kin
  exact He.glo_ok X G (T.c.fact 6 (f := .glo "begins_word") rfl)
theorem g_goes_on_in_word (T : Tx w K mg) : mg "goes_on_in_word" = some (.ref (He.ga K "goes_on_in_word")) := by
  obtain ⟨h, X, G⟩ := T.kin
  exact He.glo_ok X G (T.c.fact 7 (f := .glo "goes_on_in_word") rfl)
theorem g_referred_sign (T : Tx w K mg) : mg "referred_sign" = some (.ref (He.ga K "referred_sign")) := by
  obtain ⟨h, X, G⟩ := T.kin
  exact He.glo_ok X G (T.c.fact 8 (f := .glo "referred_sign") rfl)
theorem g_leads_to_sign (T : Tx w K mg) : mg "leads_to_sign" = some (.ref (He.ga K "leads_to_sign")) := by
  obtain ⟨h, X, G⟩ := T.kin
  exact He.glo_ok X G (T.c.fact 9 (f := .glo "leads_to_sign") rfl)
theorem g_is_beginning (T : Tx w K mg) : mg "is_beginning" = some (.ref (He.ga K "is_beginning")) := by
  obtain ⟨h, X, G⟩ := T.kin
  exact He.glo_ok X G (T.c.fact 10 (f := .glo "is_beginning") rfl)
theorem g_Scanner (T : Tx w K mg) : mg "Scanner" = some (.ref (He.ga K "Scanner")) := by
  obtain ⟨h, X, G⟩ := T.kin
  exact He.glo_ok X G (T.c.fact 11 (f := .glo "Scanner") rfl)
theorem g_Node (T : Tx w K mg) : mg "Node" = some (.ref (He.ga K "Node")) := by
  obtain ⟨h, X, G⟩ := T.kin
  exact He.glo_ok X G (T.c.fact 12 (f := .glo "Node") rfl)
theorem g_Tree (T : Tx w K mg) : mg "Tree" = some (.ref (He.ga K "Tree")) := by
  obtain ⟨h, X, G⟩ := T.kin
  exact He.glo_ok X G (T.c.fact 13 (f := .glo "Tree") rfl)
theorem g_nodes_in (T : Tx w K mg) : mg "nodes_in" = some (.ref (He.ga K "nodes_in")) := by
  obtain ⟨h, X, G⟩ := T.kin
  exact He.glo_ok X G (T.c.fact 14 (f := .glo "nodes_in") rfl)
theorem g_read (T : Tx w K mg) : mg "read" = some (.ref (He.ga K "read")) := by
  obtain ⟨h, X, G⟩ := T.kin
  exact He.glo_ok X G (T.c.fact 15 (f := .glo "read") rfl)
theorem g_Reader (T : Tx w K mg) : mg "Reader" = some (.ref (He.ga K "Reader")) := by
  obtain ⟨h, X, G⟩ := T.kin
  exact He.glo_ok X G (T.c.fact 16 (f := .glo "Reader") rfl)
theorem g_Lcell_at (T : Tx w K mg) : mg "_law_cell_at" = some (.ref (He.ga K "_law_cell_at")) := by
  obtain ⟨h, X, G⟩ := T.kin
  exact He.glo_ok X G (T.c.fact 17 (f := .glo "_law_cell_at") rfl)
theorem g_Lwell (T : Tx w K mg) : mg "_law_well" = some (.ref (He.ga K "_law_well")) := by
  obtain ⟨h, X, G⟩ := T.kin
  exact He.glo_ok X G (T.c.fact 18 (f := .glo "_law_well") rfl)
theorem g_Ldraw (T : Tx w K mg) : mg "_law_draw" = some (.ref (He.ga K "_law_draw")) := by
  obtain ⟨h, X, G⟩ := T.kin
  exact He.glo_ok X G (T.c.fact 19 (f := .glo "_law_draw") rfl)
theorem g_Lpick (T : Tx w K mg) : mg "_law_pick" = some (.ref (He.ga K "_law_pick")) := by
  obtain ⟨h, X, G⟩ := T.kin
  exact He.glo_ok X G (T.c.fact 20 (f := .glo "_law_pick") rfl)
theorem g_Ltext (T : Tx w K mg) : mg "_law_text" = some (.ref (He.ga K "_law_text")) := by
  obtain ⟨h, X, G⟩ := T.kin
  exact He.glo_ok X G (T.c.fact 21 (f := .glo "_law_text") rfl)
theorem g_Lchildren (T : Tx w K mg) : mg "_law_children" = some (.ref (He.ga K "_law_children")) := by
  obtain ⟨h, X, G⟩ := T.kin
  exact He.glo_ok X G (T.c.fact 22 (f := .glo "_law_children") rfl)
theorem g_Lelement (T : Tx w K mg) : mg "_law_element" = some (.ref (He.ga K "_law_element")) := by
  obtain ⟨h, X, G⟩ := T.kin
  exact He.glo_ok X G (T.c.fact 23 (f := .glo "_law_element") rfl)
theorem g_Ltree (T : Tx w K mg) : mg "_law_tree" = some (.ref (He.ga K "_law_tree")) := by
  obtain ⟨h, X, G⟩ := T.kin
  exact He.glo_ok X G (T.c.fact 24 (f := .glo "_law_tree") rfl)
theorem g_Lquoted (T : Tx w K mg) : mg "_law_quoted" = some (.ref (He.ga K "_law_quoted")) := by
  obtain ⟨h, X, G⟩ := T.kin
  exact He.glo_ok X G (T.c.fact 25 (f := .glo "_law_quoted") rfl)
theorem g_Lwritten (T : Tx w K mg) : mg "_law_written" = some (.ref (He.ga K "_law_written")) := by
  obtain ⟨h, X, G⟩ := T.kin
  exact He.glo_ok X G (T.c.fact 26 (f := .glo "_law_written") rfl)
theorem g_Lletter (T : Tx w K mg) : mg "_law_letter" = some (.ref (He.ga K "_law_letter")) := by
  obtain ⟨h, X, G⟩ := T.kin
  exact He.glo_ok X G (T.c.fact 27 (f := .glo "_law_letter") rfl)
theorem g_Lis_sign (T : Tx w K mg) : mg "_law_is_sign" = some (.ref (He.ga K "_law_is_sign")) := by
  obtain ⟨h, X, G⟩ := T.kin
  exact He.glo_ok X G (T.c.fact 28 (f := .glo "_law_is_sign") rfl)
theorem g_Lblank (T : Tx w K mg) : mg "_law_blank" = some (.ref (He.ga K "_law_blank")) := by
  obtain ⟨h, X, G⟩ := T.kin
  exact He.glo_ok X G (T.c.fact 29 (f := .glo "_law_blank") rfl)
theorem g_Lexact (T : Tx w K mg) : mg "_law_exact" = some (.ref (He.ga K "_law_exact")) := by
  obtain ⟨h, X, G⟩ := T.kin
  exact He.glo_ok X G (T.c.fact 30 (f := .glo "_law_exact") rfl)
theorem g_Lname (T : Tx w K mg) : mg "_law_name" = some (.ref (He.ga K "_law_name")) := by
  obtain ⟨h, X, G⟩ := T.kin
  exact He.glo_ok X G (T.c.fact 31 (f := .glo "_law_name") rfl)
theorem g_Lnumber (T : Tx w K mg) : mg "_law_number" = some (.ref (He.ga K "_law_number")) := by
  obtain ⟨h, X, G⟩ := T.kin
  exact He.glo_ok X G (T.c.fact 32 (f := .glo "_law_number") rfl)
theorem g_Lreference (T : Tx w K mg) : mg "_law_reference" = some (.ref (He.ga K "_law_reference")) := by
  obtain ⟨h, X, G⟩ := T.kin
  exact He.glo_ok X G (T.c.fact 33 (f := .glo "_law_reference") rfl)
theorem g_Lvalue_end (T : Tx w K mg) : mg "_law_value_end" = some (.ref (He.ga K "_law_value_end")) := by
  obtain ⟨h, X, G⟩ := T.kin
  exact He.glo_ok X G (T.c.fact 34 (f := .glo "_law_value_end") rfl)
theorem g_Ltag (T : Tx w K mg) : mg "_law_tag" = some (.ref (He.ga K "_law_tag")) := by
  obtain ⟨h, X, G⟩ := T.kin
  exact He.glo_ok X G (T.c.fact 35 (f := .glo "_law_tag") rfl)
theorem g_Luntil (T : Tx w K mg) : mg "_law_until" = some (.ref (He.ga K "_law_until")) := by
  obtain ⟨h, X, G⟩ := T.kin
  exact He.glo_ok X G (T.c.fact 36 (f := .glo "_law_until") rfl)
theorem g_Lspecial (T : Tx w K mg) : mg "_law_special" = some (.ref (He.ga K "_law_special")) := by
  obtain ⟨h, X, G⟩ := T.kin
  exact He.glo_ok X G (T.c.fact 37 (f := .glo "_law_special") rfl)
theorem g_Lclosing (T : Tx w K mg) : mg "_law_closing" = some (.ref (He.ga K "_law_closing")) := by
  obtain ⟨h, X, G⟩ := T.kin
  exact He.glo_ok X G (T.c.fact 38 (f := .glo "_law_closing") rfl)
theorem g_Linner (T : Tx w K mg) : mg "_law_inner" = some (.ref (He.ga K "_law_inner")) := by
  obtain ⟨h, X, G⟩ := T.kin
  exact He.glo_ok X G (T.c.fact 39 (f := .glo "_law_inner") rfl)
theorem g_Laround (T : Tx w K mg) : mg "_law_around" = some (.ref (He.ga K "_law_around")) := by
  obtain ⟨h, X, G⟩ := T.kin
  exact He.glo_ok X G (T.c.fact 40 (f := .glo "_law_around") rfl)
theorem g_Lread (T : Tx w K mg) : mg "_law_read" = some (.ref (He.ga K "_law_read")) := by
  obtain ⟨h, X, G⟩ := T.kin
  exact He.glo_ok X G (T.c.fact 41 (f := .glo "_law_read") rfl)
theorem g_Lspoilt (T : Tx w K mg) : mg "_law_spoilt" = some (.ref (He.ga K "_law_spoilt")) := by
  obtain ⟨h, X, G⟩ := T.kin
  exact He.glo_ok X G (T.c.fact 42 (f := .glo "_law_spoilt") rfl)
theorem g_law (T : Tx w K mg) : mg "law" = some (.ref (He.ga K "law")) := by
  obtain ⟨h, X, G⟩ := T.kin
  exact He.glo_ok X G (T.c.fact 43 (f := .glo "law") rfl)
theorem g_NAMED_SIGNS (T : Tx w K mg) : mg "NAMED_SIGNS" = some (.ref (He.ga K "NAMED_SIGNS")) := by
  obtain ⟨h, X, G⟩ := T.kin
  exact He.glo_ok X G (T.c.fact 44 (f := .glo "NAMED_SIGNS") rfl)
theorem n_isinstance (T : Tx w K mg) : mg "isinstance" = none := by
  obtain ⟨h, X, G⟩ := T.kin
  exact He.free_ok X G (T.c.fact 45 (f := .free "isinstance") rfl)
theorem n_len (T : Tx w K mg) : mg "len" = none := by
  obtain ⟨h, X, G⟩ := T.kin
  exact He.free_ok X G (T.c.fact 46 (f := .free "len") rfl)
theorem n_enumerate (T : Tx w K mg) : mg "enumerate" = none := by
  obtain ⟨h, X, G⟩ := T.kin
  exact He.free_ok X G (T.c.fact 47 (f := .free "enumerate") rfl)
theorem n_ord (T : Tx w K mg) : mg "ord" = none := by
  obtain ⟨h, X, G⟩ := T.kin
  exact He.free_ok X G (T.c.fact 48 (f := .free "ord") rfl)
theorem n_range (T : Tx w K mg) : mg "range" = none := by
  obtain ⟨h, X, G⟩ := T.kin
  exact He.free_ok X G (T.c.fact 49 (f := .free "range") rfl)
theorem n_int (T : Tx w K mg) : mg "int" = none := by
  obtain ⟨h, X, G⟩ := T.kin
  exact He.free_ok X G (T.c.fact 50 (f := .free "int") rfl)
theorem n_list (T : Tx w K mg) : mg "list" = none := by
  obtain ⟨h, X, G⟩ := T.kin
  exact He.free_ok X G (T.c.fact 51 (f := .free "list") rfl)
theorem n_str (T : Tx w K mg) : mg "str" = none := by
  obtain ⟨h, X, G⟩ := T.kin
  exact He.free_ok X G (T.c.fact 52 (f := .free "str") rfl)
theorem c_REFERABLE (T : Tx w K mg) : ∃ t, mg "REFERABLE" = some (.str "\t\n !\"#$&'()*+,-./0123456789:;<=>?@ABCDEFGHIJKLMNOPQRSTUVWXYZ[\\]^_`abcdefghijklmnopqrstuvwxyz{|}~" t) := by
  obtain ⟨h, X, G⟩ := T.kin
  exact He.str_ok X G (T.c.fact 53 (f := .str "REFERABLE" "\t\n !\"#$&'()*+,-./0123456789:;<=>?@ABCDEFGHIJKLMNOPQRSTUVWXYZ[\\]^_`abcdefghijklmnopqrstuvwxyz{|}~") rfl)
theorem c_DECIMAL (T : Tx w K mg) : ∃ t, mg "DECIMAL" = some (.str "0123456789" t) := by
  obtain ⟨h, X, G⟩ := T.kin
  exact He.str_ok X G (T.c.fact 54 (f := .str "DECIMAL" "0123456789") rfl)
theorem c_HEXADECIMAL (T : Tx w K mg) : ∃ t, mg "HEXADECIMAL" = some (.str "0123456789abcdef" t) := by
  obtain ⟨h, X, G⟩ := T.kin
  exact He.str_ok X G (T.c.fact 55 (f := .str "HEXADECIMAL" "0123456789abcdef") rfl)
theorem cls_Scanner (T : Tx w K mg) : Cls K (He.ga K "Scanner") := He.cls_ok (T.c.fact 56 (f := .cls "Scanner") rfl)
theorem mk_Scanner (T : Tx w K mg) : Mk K (He.ga K "Scanner") (He.fAd K d_Scanner_init.at_) := He.mkr_ok (T.c.fact 57 (f := .mkr "Scanner") rfl)
theorem na_Scanner_text (T : Tx w K mg) : NoAttr K (He.ga K "Scanner") "text" := He.noat_ok (T.c.fact 58 (f := .noat "Scanner" "text") rfl)
theorem na_Scanner_at (T : Tx w K mg) : NoAttr K (He.ga K "Scanner") "at" := He.noat_ok (T.c.fact 59 (f := .noat "Scanner" "at") rfl)
theorem m_Scanner_peek (T : Tx w K mg) : Meth K (He.ga K "Scanner") "peek" (He.fAd K d_Scanner_peek.at_) := He.meth_ok (T.c.fact 60 (f := .meth "Scanner" "peek") rfl)
theorem m_Scanner_is_done (T : Tx w K mg) : Meth K (He.ga K "Scanner") "is_done" (He.fAd K d_Scanner_is_done.at_) := He.meth_ok (T.c.fact 61 (f := .meth "Scanner" "is_done") rfl)
theorem m_Scanner_expect (T : Tx w K mg) : Meth K (He.ga K "Scanner") "expect" (He.fAd K d_Scanner_expect.at_) := He.meth_ok (T.c.fact 62 (f := .meth "Scanner" "expect") rfl)
theorem m_Scanner_read_one_of (T : Tx w K mg) : Meth K (He.ga K "Scanner") "read_one_of" (He.fAd K d_Scanner_read_one_of.at_) := He.meth_ok (T.c.fact 63 (f := .meth "Scanner" "read_one_of") rfl)
theorem m_Scanner_read_up_to (T : Tx w K mg) : Meth K (He.ga K "Scanner") "read_up_to" (He.fAd K d_Scanner_read_up_to.at_) := He.meth_ok (T.c.fact 64 (f := .meth "Scanner" "read_up_to") rfl)
theorem m_Scanner_read_blanks (T : Tx w K mg) : Meth K (He.ga K "Scanner") "read_blanks" (He.fAd K d_Scanner_read_blanks.at_) := He.meth_ok (T.c.fact 65 (f := .meth "Scanner" "read_blanks") rfl)
theorem m_Scanner_read_name (T : Tx w K mg) : Meth K (He.ga K "Scanner") "read_name" (He.fAd K d_Scanner_read_name.at_) := He.meth_ok (T.c.fact 66 (f := .meth "Scanner" "read_name") rfl)
theorem m_Scanner_read_word (T : Tx w K mg) : Meth K (He.ga K "Scanner") "read_word" (He.fAd K d_Scanner_read_word.at_) := He.meth_ok (T.c.fact 67 (f := .meth "Scanner" "read_word") rfl)
theorem m_Scanner_read_plain (T : Tx w K mg) : Meth K (He.ga K "Scanner") "read_plain" (He.fAd K d_Scanner_read_plain.at_) := He.meth_ok (T.c.fact 68 (f := .meth "Scanner" "read_plain") rfl)
theorem m_Scanner_read_reference (T : Tx w K mg) : Meth K (He.ga K "Scanner") "read_reference" (He.fAd K d_Scanner_read_reference.at_) := He.meth_ok (T.c.fact 69 (f := .meth "Scanner" "read_reference") rfl)
theorem m_Scanner_read_numbered_reference (T : Tx w K mg) : Meth K (He.ga K "Scanner") "read_numbered_reference" (He.fAd K d_Scanner_read_numbered_reference.at_) := He.meth_ok (T.c.fact 70 (f := .meth "Scanner" "read_numbered_reference") rfl)
theorem m_Scanner_read_digit (T : Tx w K mg) : Meth K (He.ga K "Scanner") "read_digit" (He.fAd K d_Scanner_read_digit.at_) := He.meth_ok (T.c.fact 71 (f := .meth "Scanner" "read_digit") rfl)
theorem m_Scanner_read_attribute_text (T : Tx w K mg) : Meth K (He.ga K "Scanner") "read_attribute_text" (He.fAd K d_Scanner_read_attribute_text.at_) := He.meth_ok (T.c.fact 72 (f := .meth "Scanner" "read_attribute_text") rfl)
theorem cls_Node (T : Tx w K mg) : Cls K (He.ga K "Node") := He.cls_ok (T.c.fact 73 (f := .cls "Node") rfl)
theorem mk_Node (T : Tx w K mg) : Mk K (He.ga K "Node") (He.fAd K d_Node_init.at_) := He.mkr_ok (T.c.fact 74 (f := .mkr "Node") rfl)
theorem na_Node_kind (T : Tx w K mg) : NoAttr K (He.ga K "Node") "kind" := He.noat_ok (T.c.fact 75 (f := .noat "Node" "kind") rfl)
theorem na_Node_name (T : Tx w K mg) : NoAttr K (He.ga K "Node") "name" := He.noat_ok (T.c.fact 76 (f := .noat "Node" "name") rfl)
theorem na_Node_text (T : Tx w K mg) : NoAttr K (He.ga K "Node") "text" := He.noat_ok (T.c.fact 77 (f := .noat "Node" "text") rfl)
theorem na_Node_attributes (T : Tx w K mg) : NoAttr K (He.ga K "Node") "attributes" := He.noat_ok (T.c.fact 78 (f := .noat "Node" "attributes") rfl)
theorem na_Node_children (T : Tx w K mg) : NoAttr K (He.ga K "Node") "children" := He.noat_ok (T.c.fact 79 (f := .noat "Node" "children") rfl)
theorem na_Node_parent (T : Tx w K mg) : NoAttr K (He.ga K "Node") "parent" := He.noat_ok (T.c.fact 80 (f := .noat "Node" "parent") rfl)
theorem na_Node_part (T : Tx w K mg) : NoAttr K (He.ga K "Node") "part" := He.noat_ok (T.c.fact 81 (f := .noat "Node" "part") rfl)
theorem na_Node_order (T : Tx w K mg) : NoAttr K (He.ga K "Node") "order" := He.noat_ok (T.c.fact 82 (f := .noat "Node" "order") rfl)
theorem m_Node_put_attribute (T : Tx w K mg) : Meth K (He.ga K "Node") "put_attribute" (He.fAd K d_Node_put_attribute.at_) := He.meth_ok (T.c.fact 83 (f := .meth "Node" "put_attribute") rfl)
theorem m_Node_put_child (T : Tx w K mg) : Meth K (He.ga K "Node") "put_child" (He.fAd K d_Node_put_child.at_) := He.meth_ok (T.c.fact 84 (f := .meth "Node" "put_child") rfl)
theorem cls_Tree (T : Tx w K mg) : Cls K (He.ga K "Tree") := He.cls_ok (T.c.fact 85 (f := .cls "Tree") rfl)
theorem mk_Tree (T : Tx w K mg) : Mk K (He.ga K "Tree") (He.fAd K d_Tree_init.at_) := He.mkr_ok (T.c.fact 86 (f := .mkr "Tree") rfl)
theorem na_Tree_root (T : Tx w K mg) : NoAttr K (He.ga K "Tree") "root" := He.noat_ok (T.c.fact 87 (f := .noat "Tree" "root") rfl)
theorem na_Tree_nodes (T : Tx w K mg) : NoAttr K (He.ga K "Tree") "nodes" := He.noat_ok (T.c.fact 88 (f := .noat "Tree" "nodes") rfl)
theorem cls_Reader (T : Tx w K mg) : Cls K (He.ga K "Reader") := He.cls_ok (T.c.fact 89 (f := .cls "Reader") rfl)
theorem mk_Reader (T : Tx w K mg) : Mk K (He.ga K "Reader") (He.fAd K d_Reader_init.at_) := He.mkr_ok (T.c.fact 90 (f := .mkr "Reader") rfl)
theorem na_Reader_scan (T : Tx w K mg) : NoAttr K (He.ga K "Reader") "scan" := He.noat_ok (T.c.fact 91 (f := .noat "Reader" "scan") rfl)
theorem na_Reader_root (T : Tx w K mg) : NoAttr K (He.ga K "Reader") "root" := He.noat_ok (T.c.fact 92 (f := .noat "Reader" "root") rfl)
theorem na_Reader_here (T : Tx w K mg) : NoAttr K (He.ga K "Reader") "here" := He.noat_ok (T.c.fact 93 (f := .noat "Reader" "here") rfl)
theorem na_Reader_has_outermost (T : Tx w K mg) : NoAttr K (He.ga K "Reader") "has_outermost" := He.noat_ok (T.c.fact 94 (f := .noat "Reader" "has_outermost") rfl)
theorem na_Reader_pieces (T : Tx w K mg) : NoAttr K (He.ga K "Reader") "pieces" := He.noat_ok (T.c.fact 95 (f := .noat "Reader" "pieces") rfl)
theorem m_Reader_read_document (T : Tx w K mg) : Meth K (He.ga K "Reader") "read_document" (He.fAd K d_Reader_read_document.at_) := He.meth_ok (T.c.fact 96 (f := .meth "Reader" "read_document") rfl)
theorem m_Reader_read_declaration (T : Tx w K mg) : Meth K (He.ga K "Reader") "read_declaration" (He.fAd K d_Reader_read_declaration.at_) := He.meth_ok (T.c.fact 97 (f := .meth "Reader" "read_declaration") rfl)
theorem m_Reader_read_part_around (T : Tx w K mg) : Meth K (He.ga K "Reader") "read_part_around" (He.fAd K d_Reader_read_part_around.at_) := He.meth_ok (T.c.fact 98 (f := .meth "Reader" "read_part_around") rfl)
theorem m_Reader_read_part_of_content (T : Tx w K mg) : Meth K (He.ga K "Reader") "read_part_of_content" (He.fAd K d_Reader_read_part_of_content.at_) := He.meth_ok (T.c.fact 99 (f := .meth "Reader" "read_part_of_content") rfl)
theorem m_Reader_read_markup (T : Tx w K mg) : Meth K (He.ga K "Reader") "read_markup" (He.fAd K d_Reader_read_markup.at_) := He.meth_ok (T.c.fact 100 (f := .meth "Reader" "read_markup") rfl)
theorem m_Reader_read_comment_or_cdata (T : Tx w K mg) : Meth K (He.ga K "Reader") "read_comment_or_cdata" (He.fAd K d_Reader_read_comment_or_cdata.at_) := He.meth_ok (T.c.fact 101 (f := .meth "Reader" "read_comment_or_cdata") rfl)
theorem m_Reader_read_comment (T : Tx w K mg) : Meth K (He.ga K "Reader") "read_comment" (He.fAd K d_Reader_read_comment.at_) := He.meth_ok (T.c.fact 102 (f := .meth "Reader" "read_comment") rfl)
theorem m_Reader_read_instruction (T : Tx w K mg) : Meth K (He.ga K "Reader") "read_instruction" (He.fAd K d_Reader_read_instruction.at_) := He.meth_ok (T.c.fact 103 (f := .meth "Reader" "read_instruction") rfl)
theorem m_Reader_read_tag (T : Tx w K mg) : Meth K (He.ga K "Reader") "read_tag" (He.fAd K d_Reader_read_tag.at_) := He.meth_ok (T.c.fact 104 (f := .meth "Reader" "read_tag") rfl)
theorem m_Reader_read_attribute (T : Tx w K mg) : Meth K (He.ga K "Reader") "read_attribute" (He.fAd K d_Reader_read_attribute.at_) := He.meth_ok (T.c.fact 105 (f := .meth "Reader" "read_attribute") rfl)
theorem m_Reader_read_end_tag (T : Tx w K mg) : Meth K (He.ga K "Reader") "read_end_tag" (He.fAd K d_Reader_read_end_tag.at_) := He.meth_ok (T.c.fact 106 (f := .meth "Reader" "read_end_tag") rfl)
theorem m_Reader_put (T : Tx w K mg) : Meth K (He.ga K "Reader") "put" (He.fAd K d_Reader_put.at_) := He.meth_ok (T.c.fact 107 (f := .meth "Reader" "put") rfl)
theorem m_Reader_put_text (T : Tx w K mg) : Meth K (He.ga K "Reader") "put_text" (He.fAd K d_Reader_put_text.at_) := He.meth_ok (T.c.fact 108 (f := .meth "Reader" "put_text") rfl)
theorem exm_BadValue (T : Tx w K mg) : PySem.W.exmOne K (.ref (He.ga K "BadValue")) (.ref (He.ga K "BadValue")) = some true := He.exm_ok (T.c.fact 109 (f := .exm "BadValue" "BadValue" true) rfl)
theorem exm_NotDocument (T : Tx w K mg) : PySem.W.exmOne K (.ref (He.ga K "NotDocument")) (.ref (He.ga K "NotDocument")) = some true := He.exm_ok (T.c.fact 110 (f := .exm "NotDocument" "NotDocument" true) rfl)
theorem na_BadValue_why (T : Tx w K mg) : NoAttr K (He.ga K "BadValue") "why" := He.noat_ok (T.c.fact 111 (f := .noat "BadValue" "why") rfl)
theorem na_NotDocument_why (T : Tx w K mg) : NoAttr K (He.ga K "NotDocument") "why" := He.noat_ok (T.c.fact 112 (f := .noat "NotDocument" "why") rfl)
theorem na_NotDocument_at (T : Tx w K mg) : NoAttr K (He.ga K "NotDocument") "at" := He.noat_ok (T.c.fact 113 (f := .noat "NotDocument" "at") rfl)
theorem na_TreeError_why (T : Tx w K mg) : NoAttr K (He.ga K "TreeError") "why" := He.noat_ok (T.c.fact 114 (f := .noat "TreeError" "why") rfl)
theorem f_TreeError_init (T : Tx w K mg) : ∃ fd, FnP K d_TreeError_init fd := T.c.def_ 0 (d := d_TreeError_init) rfl
abbrev p_TreeError_init : List Str := ["self", "why"]
abbrev N_TreeError_init : List Str := ["self", "why"]
theorem sc_TreeError_init : FnScope N_TreeError_init p_TreeError_init (defScope s_TreeError_init) := ⟨rfl, rfl, rfl, by decide +kernel, rfl, by decide +kernel, by decide +kernel⟩
theorem f_BadValue_init (T : Tx w K mg) : ∃ fd, FnP K d_BadValue_init fd := T.c.def_ 1 (d := d_BadValue_init) rfl
abbrev p_BadValue_init : List Str := ["self", "why"]
abbrev N_BadValue_init : List Str := ["self", "why"]
theorem sc_BadValue_init : FnScope N_BadValue_init p_BadValue_init (defScope s_BadValue_init) := ⟨rfl, rfl, rfl, by decide +kernel, rfl, by decide +kernel, by decide +kernel⟩
theorem f_NotDocument_init (T : Tx w K mg) : ∃ fd, FnP K d_NotDocument_init fd := T.c.def_ 2 (d := d_NotDocument_init) rfl
abbrev p_NotDocument_init : List Str := ["self", "at"]
abbrev N_NotDocument_init : List Str := ["self", "at"]
theorem sc_NotDocument_init : FnScope N_NotDocument_init p_NotDocument_init (defScope s_NotDocument_init) := ⟨rfl, rfl, rfl, by decide +kernel, rfl, by decide +kernel, by decide +kernel⟩
theorem b_NotDocument_init {fd : FuncData} (F : FnP K d_NotDocument_init fd) : Binds K fd p_NotDocument_init [] := FunD.bindsN F fun _ _ _ _ _ _ us hl => match us, hl with | [_, _], _ => rfl
theorem f_is_blank (T : Tx w K mg) : ∃ fd, FnP K d_is_blank fd := T.c.def_ 3 (d := d_is_blank) rfl
abbrev p_is_blank : List Str := ["sign"]
abbrev N_is_blank : List Str := ["sign"]
theorem sc_is_blank : FnScope N_is_blank p_is_blank (defScope s_is_blank) := ⟨rfl, rfl, rfl, by decide +kernel, rfl, by decide +kernel, by decide +kernel⟩
theorem b_is_blank {fd : FuncData} (F : FnP K d_is_blank fd) : Binds K fd p_is_blank [] := FunD.bindsN F fun _ _ _ _ _ _ us hl => match us, hl with | [_], _ => rfl
theorem f_is_sign (T : Tx w K mg) : ∃ fd, FnP K d_is_sign fd := T.c.def_ 4 (d := d_is_sign) rfl
abbrev p_is_sign : List Str := ["character"]
abbrev N_is_sign : List Str := ["character"]
theorem sc_is_sign : FnScope N_is_sign p_is_sign (defScope s_is_sign) := ⟨rfl, rfl, rfl, by decide +kernel, rfl, by decide +kernel, by decide +kernel⟩
theorem b_is_sign {fd : FuncData} (F : FnP K d_is_sign fd) : Binds K fd p_is_sign [] := FunD.bindsN F fun _ _ _ _ _ _ us hl => match us, hl with | [_], _ => rfl
theorem f_end_of_signs (T : Tx w K mg) : ∃ fd, FnP K d_end_of_signs fd := T.c.def_ 5 (d := d_end_of_signs) rfl
abbrev p_end_of_signs : List Str := ["text"]
abbrev N_end_of_signs : List Str := ["text", "at", "character"]
theorem sc_end_of_signs : FnScope N_end_of_signs p_end_of_signs (defScope s_end_of_signs) := ⟨rfl, rfl, rfl, by decide +kernel, rfl, by decide +kernel, by decide +kernel⟩
theorem b_end_of_signs {fd : FuncData} (F : FnP K d_end_of_signs fd) : Binds K fd p_end_of_signs [] := FunD.bindsN F fun _ _ _ _ _ _ us hl => match us, hl with | [_], _ => rfl
theorem f_begins_word (T : Tx w K mg) : ∃ fd, FnP K d_begins_word fd := T.c.def_ 6 (d := d_begins_word) rfl
abbrev p_begins_word : List Str := ["sign"]
abbrev N_begins_word : List Str := ["sign"]
theorem sc_begins_word : FnScope N_begins_word p_begins_word (defScope s_begins_word) := ⟨rfl, rfl, rfl, by decide +kernel, rfl, by decide +kernel, by decide +kernel⟩
theorem b_begins_word {fd : FuncData} (F : FnP K d_begins_word fd) : Binds K fd p_begins_word [] := FunD.bindsN F fun _ _ _ _ _ _ us hl => match us, hl with | [_], _ => rfl
theorem f_goes_on_in_word (T : Tx w K mg) : ∃ fd, FnP K d_goes_on_in_word fd := T.c.def_ 7 (d := d_goes_on_in_word) rfl
abbrev p_goes_on_in_word : List Str := ["sign"]
abbrev N_goes_on_in_word : List Str := ["sign"]
theorem sc_goes_on_in_word : FnScope N_goes_on_in_word p_goes_on_in_word (defScope s_goes_on_in_word) := ⟨rfl, rfl, rfl, by decide +kernel, rfl, by decide +kernel, by decide +kernel⟩
theorem b_goes_on_in_word {fd : FuncData} (F : FnP K d_goes_on_in_word fd) : Binds K fd p_goes_on_in_word [] := FunD.bindsN F fun _ _ _ _ _ _ us hl => match us, hl with | [_], _ => rfl
theorem f_referred_sign (T : Tx w K mg) : ∃ fd, FnP K d_referred_sign fd := T.c.def_ 8 (d := d_referred_sign) rfl
abbrev p_referred_sign : List Str := ["number"]
abbrev N_referred_sign : List Str := ["number", "sign"]
theorem sc_referred_sign : FnScope N_referred_sign p_referred_sign (defScope s_referred_sign) := ⟨rfl, rfl, rfl, by decide +kernel, rfl, by decide +kernel, by decide +kernel⟩
theorem b_referred_sign {fd : FuncData} (F : FnP K d_referred_sign fd) : Binds K fd p_referred_sign [] := FunD.bindsN F fun _ _ _ _ _ _ us hl => match us, hl with | [_], _ => rfl
theorem f_leads_to_sign (T : Tx w K mg) : ∃ fd, FnP K d_leads_to_sign fd := T.c.def_ 9 (d := d_leads_to_sign) rfl
abbrev p_leads_to_sign : List Str := ["number", "base"]
abbrev N_leads_to_sign : List Str := ["number", "base", "sign"]
theorem sc_leads_to_sign : FnScope N_leads_to_sign p_leads_to_sign (defScope s_leads_to_sign) := ⟨rfl, rfl, rfl, by decide +kernel, rfl, by decide +kernel, by decide +kernel⟩
theorem b_leads_to_sign {fd : FuncData} (F : FnP K d_leads_to_sign fd) : Binds K fd p_leads_to_sign [] := FunD.bindsN F fun _ _ _ _ _ _ us hl => match us, hl with | [_, _], _ => rfl
theorem f_is_beginning (T : Tx w K mg) : ∃ fd, FnP K d_is_beginning fd := T.c.def_ 10 (d := d_is_beginning) rfl
abbrev p_is_beginning : List Str := ["number", "whole", "base"]
abbrev N_is_beginning : List Str := ["number", "whole", "base"]
theorem sc_is_beginning : FnScope N_is_beginning p_is_beginning (defScope s_is_beginning) := ⟨rfl, rfl, rfl, by decide +kernel, rfl, by decide +kernel, by decide +kernel⟩
theorem b_is_beginning {fd : FuncData} (F : FnP K d_is_beginning fd) : Binds K fd p_is_beginning [] := FunD.bindsN F fun _ _ _ _ _ _ us hl => match us, hl with | [_, _, _], _ => rfl
theorem f_Scanner_init (T : Tx w K mg) : ∃ fd, FnP K d_Scanner_init fd := T.c.def_ 11 (d := d_Scanner_init) rfl
abbrev p_Scanner_init : List Str := ["self", "text"]
abbrev N_Scanner_init : List Str := ["self", "text"]
theorem sc_Scanner_init : FnScope N_Scanner_init p_Scanner_init (defScope s_Scanner_init) := ⟨rfl, rfl, rfl, by decide +kernel, rfl, by decide +kernel, by decide +kernel⟩
theorem b_Scanner_init {fd : FuncData} (F : FnP K d_Scanner_init fd) : Binds K fd p_Scanner_init [] := FunD.bindsN F fun _ _ _ _ _ _ us hl => match us, hl with | [_, _], _ => rfl
theorem f_Scanner_peek (T : Tx w K mg) : ∃ fd, FnP K d_Scanner_peek fd := T.c.def_ 12 (d := d_Scanner_peek) rfl
abbrev p_Scanner_peek : List Str := ["self"]
abbrev N_Scanner_peek : List Str := ["self"]
theorem sc_Scanner_peek : FnScope N_Scanner_peek p_Scanner_peek (defScope s_Scanner_peek) := ⟨rfl, rfl, rfl, by decide +kernel, rfl, by decide +kernel, by decide +kernel⟩
theorem b_Scanner_peek {fd : FuncData} (F : FnP K d_Scanner_peek fd) : Binds K fd p_Scanner_peek [] := FunD.bindsN F fun _ _ _ _ _ _ us hl => match us, hl with | [_], _ => rfl
theorem f_Scanner_is_done (T : Tx w K mg) : ∃ fd, FnP K d_Scanner_is_done fd := T.c.def_ 13 (d := d_Scanner_is_done) rfl
abbrev p_Scanner_is_done : List Str := ["self"]
abbrev N_Scanner_is_done : List Str := ["self"]
theorem sc_Scanner_is_done : FnScope N_Scanner_is_done p_Scanner_is_done (defScope s_Scanner_is_done) := ⟨rfl, rfl, rfl, by decide +kernel, rfl, by decide +kernel, by decide +kernel⟩
theorem b_Scanner_is_done {fd : FuncData} (F : FnP K d_Scanner_is_done fd) : Binds K fd p_Scanner_is_done [] := FunD.bindsN F fun _ _ _ _ _ _ us hl => match us, hl with | [_], _ => rfl
theorem f_Scanner_expect (T : Tx w K mg) : ∃ fd, FnP K d_Scanner_expect fd := T.c.def_ 14 (d := d_Scanner_expect) rfl
abbrev p_Scanner_expect : List Str := ["self", "word"]
abbrev N_Scanner_expect : List Str := ["self", "word", "sign"]
theorem sc_Scanner_expect : FnScope N_Scanner_expect p_Scanner_expect (defScope s_Scanner_expect) := ⟨rfl, rfl, rfl, by decide +kernel, rfl, by decide +kernel, by decide +kernel⟩
theorem b_Scanner_expect {fd : FuncData} (F : FnP K d_Scanner_expect fd) : Binds K fd p_Scanner_expect [] := FunD.bindsN F fun _ _ _ _ _ _ us hl => match us, hl with | [_, _], _ => rfl
theorem f_Scanner_read_one_of (T : Tx w K mg) : ∃ fd, FnP K d_Scanner_read_one_of fd := T.c.def_ 15 (d := d_Scanner_read_one_of) rfl
abbrev p_Scanner_read_one_of : List Str := ["self", "words"]
abbrev N_Scanner_read_one_of : List Str := ["self", "words", "start", "piece", "word"]
theorem sc_Scanner_read_one_of : FnScope N_Scanner_read_one_of p_Scanner_read_one_of (defScope s_Scanner_read_one_of) := ⟨rfl, rfl, rfl, by decide +kernel, rfl, by decide +kernel, by decide +kernel⟩
theorem b_Scanner_read_one_of {fd : FuncData} (F : FnP K d_Scanner_read_one_of fd) : Binds K fd p_Scanner_read_one_of [] := FunD.bindsN F fun _ _ _ _ _ _ us hl => match us, hl with | [_, _], _ => rfl
theorem f_Scanner_read_up_to (T : Tx w K mg) : ∃ fd, FnP K d_Scanner_read_up_to fd := T.c.def_ 16 (d := d_Scanner_read_up_to) rfl
abbrev p_Scanner_read_up_to : List Str := ["self", "end"]
abbrev N_Scanner_read_up_to : List Str := ["self", "end", "found", "ahead"]
theorem sc_Scanner_read_up_to : FnScope N_Scanner_read_up_to p_Scanner_read_up_to (defScope s_Scanner_read_up_to) := ⟨rfl, rfl, rfl, by decide +kernel, rfl, by decide +kernel, by decide +kernel⟩
theorem b_Scanner_read_up_to {fd : FuncData} (F : FnP K d_Scanner_read_up_to fd) : Binds K fd p_Scanner_read_up_to [] := FunD.bindsN F fun _ _ _ _ _ _ us hl => match us, hl with | [_, _], _ => rfl
theorem f_Scanner_read_blanks (T : Tx w K mg) : ∃ fd, FnP K d_Scanner_read_blanks fd := T.c.def_ 17 (d := d_Scanner_read_blanks) rfl
abbrev p_Scanner_read_blanks : List Str := ["self"]
abbrev N_Scanner_read_blanks : List Str := ["self", "start"]
theorem sc_Scanner_read_blanks : FnScope N_Scanner_read_blanks p_Scanner_read_blanks (defScope s_Scanner_read_blanks) := ⟨rfl, rfl, rfl, by decide +kernel, rfl, by decide +kernel, by decide +kernel⟩
theorem b_Scanner_read_blanks {fd : FuncData} (F : FnP K d_Scanner_read_blanks fd) : Binds K fd p_Scanner_read_blanks [] := FunD.bindsN F fun _ _ _ _ _ _ us hl => match us, hl with | [_], _ => rfl
theorem f_Scanner_read_name (T : Tx w K mg) : ∃ fd, FnP K d_Scanner_read_name fd := T.c.def_ 18 (d := d_Scanner_read_name) rfl
abbrev p_Scanner_read_name : List Str := ["self"]
abbrev N_Scanner_read_name : List Str := ["self", "start"]
theorem sc_Scanner_read_name : FnScope N_Scanner_read_name p_Scanner_read_name (defScope s_Scanner_read_name) := ⟨rfl, rfl, rfl, by decide +kernel, rfl, by decide +kernel, by decide +kernel⟩
theorem b_Scanner_read_name {fd : FuncData} (F : FnP K d_Scanner_read_name fd) : Binds K fd p_Scanner_read_name [] := FunD.bindsN F fun _ _ _ _ _ _ us hl => match us, hl with | [_], _ => rfl
theorem f_Scanner_read_word (T : Tx w K mg) : ∃ fd, FnP K d_Scanner_read_word fd := T.c.def_ 19 (d := d_Scanner_read_word) rfl
abbrev p_Scanner_read_word : List Str := ["self"]
abbrev N_Scanner_read_word : List Str := ["self"]
theorem sc_Scanner_read_word : FnScope N_Scanner_read_word p_Scanner_read_word (defScope s_Scanner_read_word) := ⟨rfl, rfl, rfl, by decide +kernel, rfl, by decide +kernel, by decide +kernel⟩
theorem b_Scanner_read_word {fd : FuncData} (F : FnP K d_Scanner_read_word fd) : Binds K fd p_Scanner_read_word [] := FunD.bindsN F fun _ _ _ _ _ _ us hl => match us, hl with | [_], _ => rfl
theorem f_Scanner_read_plain (T : Tx w K mg) : ∃ fd, FnP K d_Scanner_read_plain fd := T.c.def_ 20 (d := d_Scanner_read_plain) rfl
abbrev p_Scanner_read_plain : List Str := ["self"]
abbrev N_Scanner_read_plain : List Str := ["self", "end", "wrong", "signs"]
theorem sc_Scanner_read_plain : FnScope N_Scanner_read_plain p_Scanner_read_plain (defScope s_Scanner_read_plain) := ⟨rfl, rfl, rfl, by decide +kernel, rfl, by decide +kernel, by decide +kernel⟩
theorem b_Scanner_read_plain {fd : FuncData} (F : FnP K d_Scanner_read_plain fd) : Binds K fd p_Scanner_read_plain [] := FunD.bindsN F fun _ _ _ _ _ _ us hl => match us, hl with | [_], _ => rfl
theorem f_Scanner_read_reference (T : Tx w K mg) : ∃ fd, FnP K d_Scanner_read_reference fd := T.c.def_ 21 (d := d_Scanner_read_reference) rfl
abbrev p_Scanner_read_reference : List Str := ["self"]
abbrev N_Scanner_read_reference : List Str := ["self"]
theorem sc_Scanner_read_reference : FnScope N_Scanner_read_reference p_Scanner_read_reference (defScope s_Scanner_read_reference) := ⟨rfl, rfl, rfl, by decide +kernel, rfl, by decide +kernel, by decide +kernel⟩
theorem b_Scanner_read_reference {fd : FuncData} (F : FnP K d_Scanner_read_reference fd) : Binds K fd p_Scanner_read_reference [] := FunD.bindsN F fun _ _ _ _ _ _ us hl => match us, hl with | [_], _ => rfl
theorem f_Scanner_read_numbered_reference (T : Tx w K mg) : ∃ fd, FnP K d_Scanner_read_numbered_reference fd := T.c.def_ 22 (d := d_Scanner_read_numbered_reference) rfl
abbrev p_Scanner_read_numbered_reference : List Str := ["self"]
abbrev N_Scanner_read_numbered_reference : List Str := ["self", "digits", "number", "sign"]
theorem sc_Scanner_read_numbered_reference : FnScope N_Scanner_read_numbered_reference p_Scanner_read_numbered_reference (defScope s_Scanner_read_numbered_reference) := ⟨rfl, rfl, rfl, by decide +kernel, rfl, by decide +kernel, by decide +kernel⟩
theorem b_Scanner_read_numbered_reference {fd : FuncData} (F : FnP K d_Scanner_read_numbered_reference fd) : Binds K fd p_Scanner_read_numbered_reference [] := FunD.bindsN F fun _ _ _ _ _ _ us hl => match us, hl with | [_], _ => rfl
theorem f_Scanner_read_digit (T : Tx w K mg) : ∃ fd, FnP K d_Scanner_read_digit fd := T.c.def_ 23 (d := d_Scanner_read_digit) rfl
abbrev p_Scanner_read_digit : List Str := ["self", "number", "digits"]
abbrev N_Scanner_read_digit : List Str := ["self", "number", "digits", "sign"]
theorem sc_Scanner_read_digit : FnScope N_Scanner_read_digit p_Scanner_read_digit (defScope s_Scanner_read_digit) := ⟨rfl, rfl, rfl, by decide +kernel, rfl, by decide +kernel, by decide +kernel⟩
theorem b_Scanner_read_digit {fd : FuncData} (F : FnP K d_Scanner_read_digit fd) : Binds K fd p_Scanner_read_digit [] := FunD.bindsN F fun _ _ _ _ _ _ us hl => match us, hl with | [_, _, _], _ => rfl
theorem f_Scanner_read_attribute_text (T : Tx w K mg) : ∃ fd, FnP K d_Scanner_read_attribute_text fd := T.c.def_ 24 (d := d_Scanner_read_attribute_text) rfl
abbrev p_Scanner_read_attribute_text : List Str := ["self"]
abbrev N_Scanner_read_attribute_text : List Str := ["self", "quote", "pieces", "sign"]
theorem sc_Scanner_read_attribute_text : FnScope N_Scanner_read_attribute_text p_Scanner_read_attribute_text (defScope s_Scanner_read_attribute_text) := ⟨rfl, rfl, rfl, by decide +kernel, rfl, by decide +kernel, by decide +kernel⟩
theorem b_Scanner_read_attribute_text {fd : FuncData} (F : FnP K d_Scanner_read_attribute_text fd) : Binds K fd p_Scanner_read_attribute_text [] := FunD.bindsN F fun _ _ _ _ _ _ us hl => match us, hl with | [_], _ => rfl
theorem f_Node_init (T : Tx w K mg) : ∃ fd, FnP K d_Node_init fd := T.c.def_ 25 (d := d_Node_init) rfl
abbrev p_Node_init : List Str := ["self", "kind", "name", "text"]
abbrev N_Node_init : List Str := ["self", "kind", "name", "text"]
theorem sc_Node_init : FnScope N_Node_init p_Node_init (defScope s_Node_init) := ⟨rfl, rfl, rfl, by decide +kernel, rfl, by decide +kernel, by decide +kernel⟩
theorem b_Node_init {fd : FuncData} (F : FnP K d_Node_init fd) : Binds K fd p_Node_init [] := FunD.bindsN F fun _ _ _ _ _ _ us hl => match us, hl with | [_, _, _, _], _ => rfl
theorem f_Node_put_attribute (T : Tx w K mg) : ∃ fd, FnP K d_Node_put_attribute fd := T.c.def_ 26 (d := d_Node_put_attribute) rfl
abbrev p_Node_put_attribute : List Str := ["self", "node"]
abbrev N_Node_put_attribute : List Str := ["self", "node"]
theorem sc_Node_put_attribute : FnScope N_Node_put_attribute p_Node_put_attribute (defScope s_Node_put_attribute) := ⟨rfl, rfl, rfl, by decide +kernel, rfl, by decide +kernel, by decide +kernel⟩
theorem b_Node_put_attribute {fd : FuncData} (F : FnP K d_Node_put_attribute fd) : Binds K fd p_Node_put_attribute [] := FunD.bindsN F fun _ _ _ _ _ _ us hl => match us, hl with | [_, _], _ => rfl
theorem f_Node_put_child (T : Tx w K mg) : ∃ fd, FnP K d_Node_put_child fd := T.c.def_ 27 (d := d_Node_put_child) rfl
abbrev p_Node_put_child : List Str := ["self", "node"]
abbrev N_Node_put_child : List Str := ["self", "node"]
theorem sc_Node_put_child : FnScope N_Node_put_child p_Node_put_child (defScope s_Node_put_child) := ⟨rfl, rfl, rfl, by decide +kernel, rfl, by decide +kernel, by decide +kernel⟩
theorem b_Node_put_child {fd : FuncData} (F : FnP K d_Node_put_child fd) : Binds K fd p_Node_put_child [] := FunD.bindsN F fun _ _ _ _ _ _ us hl => match us, hl with | [_, _], _ => rfl
theorem f_Tree_init (T : Tx w K mg) : ∃ fd, FnP K d_Tree_init fd := T.c.def_ 28 (d := d_Tree_init) rfl
abbrev p_Tree_init : List Str := ["self", "root"]
abbrev N_Tree_init : List Str := ["self", "root", "order", "node"]
theorem sc_Tree_init : FnScope N_Tree_init p_Tree_init (defScope s_Tree_init) := ⟨rfl, rfl, rfl, by decide +kernel, rfl, by decide +kernel, by decide +kernel⟩
theorem b_Tree_init {fd : FuncData} (F : FnP K d_Tree_init fd) : Binds K fd p_Tree_init [] := FunD.bindsN F fun _ _ _ _ _ _ us hl => match us, hl with | [_, _], _ => rfl
theorem f_nodes_in (T : Tx w K mg) : ∃ fd, FnP K d_nodes_in fd := T.c.def_ 29 (d := d_nodes_in) rfl
abbrev p_nodes_in : List Str := ["top"]
abbrev N_nodes_in : List Str := ["top", "found", "waiting", "node"]
theorem sc_nodes_in : FnScope N_nodes_in p_nodes_in (defScope s_nodes_in) := ⟨rfl, rfl, rfl, by decide +kernel, rfl, by decide +kernel, by decide +kernel⟩
theorem b_nodes_in {fd : FuncData} (F : FnP K d_nodes_in fd) : Binds K fd p_nodes_in [] := FunD.bindsN F fun _ _ _ _ _ _ us hl => match us, hl with | [_], _ => rfl
theorem f_read (T : Tx w K mg) : ∃ fd, FnP K d_read fd := T.c.def_ 30 (d := d_read) rfl
abbrev p_read : List Str := ["text"]
abbrev N_read : List Str := ["text", "end", "tree"]
theorem sc_read : FnScope N_read p_read (defScope s_read) := ⟨rfl, rfl, rfl, by decide +kernel, rfl, by decide +kernel, by decide +kernel⟩
theorem b_read {fd : FuncData} (F : FnP K d_read fd) : Binds K fd p_read [] := FunD.bindsN F fun _ _ _ _ _ _ us hl => match us, hl with | [_], _ => rfl
theorem f_Reader_init (T : Tx w K mg) : ∃ fd, FnP K d_Reader_init fd := T.c.def_ 31 (d := d_Reader_init) rfl
abbrev p_Reader_init : List Str := ["self", "text"]
abbrev N_Reader_init : List Str := ["self", "text"]
theorem sc_Reader_init : FnScope N_Reader_init p_Reader_init (defScope s_Reader_init) := ⟨rfl, rfl, rfl, by decide +kernel, rfl, by decide +kernel, by decide +kernel⟩
theorem b_Reader_init {fd : FuncData} (F : FnP K d_Reader_init fd) : Binds K fd p_Reader_init [] := FunD.bindsN F fun _ _ _ _ _ _ us hl => match us, hl with | [_, _], _ => rfl
theorem f_Reader_read_document (T : Tx w K mg) : ∃ fd, FnP K d_Reader_read_document fd := T.c.def_ 32 (d := d_Reader_read_document) rfl
abbrev p_Reader_read_document : List Str := ["self"]
abbrev N_Reader_read_document : List Str := ["self"]
theorem sc_Reader_read_document : FnScope N_Reader_read_document p_Reader_read_document (defScope s_Reader_read_document) := ⟨rfl, rfl, rfl, by decide +kernel, rfl, by decide +kernel, by decide +kernel⟩
theorem b_Reader_read_document {fd : FuncData} (F : FnP K d_Reader_read_document fd) : Binds K fd p_Reader_read_document [] := FunD.bindsN F fun _ _ _ _ _ _ us hl => match us, hl with | [_], _ => rfl
theorem f_Reader_read_declaration (T : Tx w K mg) : ∃ fd, FnP K d_Reader_read_declaration fd := T.c.def_ 33 (d := d_Reader_read_declaration) rfl
abbrev p_Reader_read_declaration : List Str := ["self"]
abbrev N_Reader_read_declaration : List Str := ["self"]
theorem sc_Reader_read_declaration : FnScope N_Reader_read_declaration p_Reader_read_declaration (defScope s_Reader_read_declaration) := ⟨rfl, rfl, rfl, by decide +kernel, rfl, by decide +kernel, by decide +kernel⟩
theorem b_Reader_read_declaration {fd : FuncData} (F : FnP K d_Reader_read_declaration fd) : Binds K fd p_Reader_read_declaration [] := FunD.bindsN F fun _ _ _ _ _ _ us hl => match us, hl with | [_], _ => rfl
theorem f_Reader_read_part_around (T : Tx w K mg) : ∃ fd, FnP K d_Reader_read_part_around fd := T.c.def_ 34 (d := d_Reader_read_part_around) rfl
abbrev p_Reader_read_part_around : List Str := ["self"]
abbrev N_Reader_read_part_around : List Str := ["self", "scan"]
theorem sc_Reader_read_part_around : FnScope N_Reader_read_part_around p_Reader_read_part_around (defScope s_Reader_read_part_around) := ⟨rfl, rfl, rfl, by decide +kernel, rfl, by decide +kernel, by decide +kernel⟩
theorem b_Reader_read_part_around {fd : FuncData} (F : FnP K d_Reader_read_part_around fd) : Binds K fd p_Reader_read_part_around [] := FunD.bindsN F fun _ _ _ _ _ _ us hl => match us, hl with | [_], _ => rfl
theorem f_Reader_read_part_of_content (T : Tx w K mg) : ∃ fd, FnP K d_Reader_read_part_of_content fd := T.c.def_ 35 (d := d_Reader_read_part_of_content) rfl
abbrev p_Reader_read_part_of_content : List Str := ["self"]
abbrev N_Reader_read_part_of_content : List Str := ["self", "sign"]
theorem sc_Reader_read_part_of_content : FnScope N_Reader_read_part_of_content p_Reader_read_part_of_content (defScope s_Reader_read_part_of_content) := ⟨rfl, rfl, rfl, by decide +kernel, rfl, by decide +kernel, by decide +kernel⟩
theorem b_Reader_read_part_of_content {fd : FuncData} (F : FnP K d_Reader_read_part_of_content fd) : Binds K fd p_Reader_read_part_of_content [] := FunD.bindsN F fun _ _ _ _ _ _ us hl => match us, hl with | [_], _ => rfl
theorem f_Reader_read_markup (T : Tx w K mg) : ∃ fd, FnP K d_Reader_read_markup fd := T.c.def_ 36 (d := d_Reader_read_markup) rfl
abbrev p_Reader_read_markup : List Str := ["self"]
abbrev N_Reader_read_markup : List Str := ["self", "sign"]
theorem sc_Reader_read_markup : FnScope N_Reader_read_markup p_Reader_read_markup (defScope s_Reader_read_markup) := ⟨rfl, rfl, rfl, by decide +kernel, rfl, by decide +kernel, by decide +kernel⟩
theorem b_Reader_read_markup {fd : FuncData} (F : FnP K d_Reader_read_markup fd) : Binds K fd p_Reader_read_markup [] := FunD.bindsN F fun _ _ _ _ _ _ us hl => match us, hl with | [_], _ => rfl
theorem f_Reader_read_comment_or_cdata (T : Tx w K mg) : ∃ fd, FnP K d_Reader_read_comment_or_cdata fd := T.c.def_ 37 (d := d_Reader_read_comment_or_cdata) rfl
abbrev p_Reader_read_comment_or_cdata : List Str := ["self"]
abbrev N_Reader_read_comment_or_cdata : List Str := ["self"]
theorem sc_Reader_read_comment_or_cdata : FnScope N_Reader_read_comment_or_cdata p_Reader_read_comment_or_cdata (defScope s_Reader_read_comment_or_cdata) := ⟨rfl, rfl, rfl, by decide +kernel, rfl, by decide +kernel, by decide +kernel⟩
theorem b_Reader_read_comment_or_cdata {fd : FuncData} (F : FnP K d_Reader_read_comment_or_cdata fd) : Binds K fd p_Reader_read_comment_or_cdata [] := FunD.bindsN F fun _ _ _ _ _ _ us hl => match us, hl with | [_], _ => rfl
theorem f_Reader_read_comment (T : Tx w K mg) : ∃ fd, FnP K d_Reader_read_comment fd := T.c.def_ 38 (d := d_Reader_read_comment) rfl
abbrev p_Reader_read_comment : List Str := ["self"]
abbrev N_Reader_read_comment : List Str := ["self", "text"]
theorem sc_Reader_read_comment : FnScope N_Reader_read_comment p_Reader_read_comment (defScope s_Reader_read_comment) := ⟨rfl, rfl, rfl, by decide +kernel, rfl, by decide +kernel, by decide +kernel⟩
theorem b_Reader_read_comment {fd : FuncData} (F : FnP K d_Reader_read_comment fd) : Binds K fd p_Reader_read_comment [] := FunD.bindsN F fun _ _ _ _ _ _ us hl => match us, hl with | [_], _ => rfl
theorem f_Reader_read_instruction (T : Tx w K mg) : ∃ fd, FnP K d_Reader_read_instruction fd := T.c.def_ 39 (d := d_Reader_read_instruction) rfl
abbrev p_Reader_read_instruction : List Str := ["self"]
abbrev N_Reader_read_instruction : List Str := ["self", "scan", "name", "text"]
theorem sc_Reader_read_instruction : FnScope N_Reader_read_instruction p_Reader_read_instruction (defScope s_Reader_read_instruction) := ⟨rfl, rfl, rfl, by decide +kernel, rfl, by decide +kernel, by decide +kernel⟩
theorem b_Reader_read_instruction {fd : FuncData} (F : FnP K d_Reader_read_instruction fd) : Binds K fd p_Reader_read_instruction [] := FunD.bindsN F fun _ _ _ _ _ _ us hl => match us, hl with | [_], _ => rfl
theorem f_Reader_read_tag (T : Tx w K mg) : ∃ fd, FnP K d_Reader_read_tag fd := T.c.def_ 40 (d := d_Reader_read_tag) rfl
abbrev p_Reader_read_tag : List Str := ["self"]
abbrev N_Reader_read_tag : List Str := ["self", "scan", "node", "known", "closed"]
theorem sc_Reader_read_tag : FnScope N_Reader_read_tag p_Reader_read_tag (defScope s_Reader_read_tag) := ⟨rfl, rfl, rfl, by decide +kernel, rfl, by decide +kernel, by decide +kernel⟩
theorem b_Reader_read_tag {fd : FuncData} (F : FnP K d_Reader_read_tag fd) : Binds K fd p_Reader_read_tag [] := FunD.bindsN F fun _ _ _ _ _ _ us hl => match us, hl with | [_], _ => rfl
theorem f_Reader_read_attribute (T : Tx w K mg) : ∃ fd, FnP K d_Reader_read_attribute fd := T.c.def_ 41 (d := d_Reader_read_attribute) rfl
abbrev p_Reader_read_attribute : List Str := ["self", "node", "known"]
abbrev N_Reader_read_attribute : List Str := ["self", "node", "known", "scan", "name"]
theorem sc_Reader_read_attribute : FnScope N_Reader_read_attribute p_Reader_read_attribute (defScope s_Reader_read_attribute) := ⟨rfl, rfl, rfl, by decide +kernel, rfl, by decide +kernel, by decide +kernel⟩
theorem b_Reader_read_attribute {fd : FuncData} (F : FnP K d_Reader_read_attribute fd) : Binds K fd p_Reader_read_attribute [] := FunD.bindsN F fun _ _ _ _ _ _ us hl => match us, hl with | [_, _, _], _ => rfl
theorem f_Reader_read_end_tag (T : Tx w K mg) : ∃ fd, FnP K d_Reader_read_end_tag fd := T.c.def_ 42 (d := d_Reader_read_end_tag) rfl
abbrev p_Reader_read_end_tag : List Str := ["self"]
abbrev N_Reader_read_end_tag : List Str := ["self"]
theorem sc_Reader_read_end_tag : FnScope N_Reader_read_end_tag p_Reader_read_end_tag (defScope s_Reader_read_end_tag) := ⟨rfl, rfl, rfl, by decide +kernel, rfl, by decide +kernel, by decide +kernel⟩
theorem b_Reader_read_end_tag {fd : FuncData} (F : FnP K d_Reader_read_end_tag fd) : Binds K fd p_Reader_read_end_tag [] := FunD.bindsN F fun _ _ _ _ _ _ us hl => match us, hl with | [_], _ => rfl
theorem f_Reader_put (T : Tx w K mg) : ∃ fd, FnP K d_Reader_put fd := T.c.def_ 43 (d := d_Reader_put) rfl
abbrev p_Reader_put : List Str := ["self", "node"]
abbrev N_Reader_put : List Str := ["self", "node"]
theorem sc_Reader_put : FnScope N_Reader_put p_Reader_put (defScope s_Reader_put) := ⟨rfl, rfl, rfl, by decide +kernel, rfl, by decide +kernel, by decide +kernel⟩
theorem b_Reader_put {fd : FuncData} (F : FnP K d_Reader_put fd) : Binds K fd p_Reader_put [] := FunD.bindsN F fun _ _ _ _ _ _ us hl => match us, hl with | [_, _], _ => rfl
theorem f_Reader_put_text (T : Tx w K mg) : ∃ fd, FnP K d_Reader_put_text fd := T.c.def_ 44 (d := d_Reader_put_text) rfl
abbrev p_Reader_put_text : List Str := ["self"]
abbrev N_Reader_put_text : List Str := ["self", "text"]
theorem sc_Reader_put_text : FnScope N_Reader_put_text p_Reader_put_text (defScope s_Reader_put_text) := ⟨rfl, rfl, rfl, by decide +kernel, rfl, by decide +kernel, by decide +kernel⟩
theorem b_Reader_put_text {fd : FuncData} (F : FnP K d_Reader_put_text fd) : Binds K fd p_Reader_put_text [] := FunD.bindsN F fun _ _ _ _ _ _ us hl => match us, hl with | [_], _ => rfl
theorem f_Lcell_at (T : Tx w K mg) : ∃ fd, FnP K d_Lcell_at fd := T.c.def_ 45 (d := d_Lcell_at) rfl
abbrev p_Lcell_at : List Str := ["_law_script", "_law_k"]
abbrev N_Lcell_at : List Str := ["_law_script", "_law_k"]
theorem sc_Lcell_at : FnScope N_Lcell_at p_Lcell_at (defScope s_Lcell_at) := ⟨rfl, rfl, rfl, by decide +kernel, rfl, by decide +kernel, by decide +kernel⟩
theorem b_Lcell_at {fd : FuncData} (F : FnP K d_Lcell_at fd) : Binds K fd p_Lcell_at [] := FunD.bindsN F fun _ _ _ _ _ _ us hl => match us, hl with | [_, _], _ => rfl
theorem f_Lwell (T : Tx w K mg) : ∃ fd, FnP K d_Lwell fd := T.c.def_ 46 (d := d_Lwell) rfl
abbrev p_Lwell : List Str := ["_law_cell"]
abbrev N_Lwell : List Str := ["_law_cell"]
theorem sc_Lwell : FnScope N_Lwell p_Lwell (defScope s_Lwell) := ⟨rfl, rfl, rfl, by decide +kernel, rfl, by decide +kernel, by decide +kernel⟩
theorem b_Lwell {fd : FuncData} (F : FnP K d_Lwell fd) : Binds K fd p_Lwell [] := FunD.bindsN F fun _ _ _ _ _ _ us hl => match us, hl with | [_], _ => rfl
theorem f_Ldraw (T : Tx w K mg) : ∃ fd, FnP K d_Ldraw fd := T.c.def_ 47 (d := d_Ldraw) rfl
abbrev p_Ldraw : List Str := ["_law_well_here", "_law_size"]
abbrev N_Ldraw : List Str := ["_law_well_here", "_law_size", "_law_found", "_law_seed", "_law_mixed"]
theorem sc_Ldraw : FnScope N_Ldraw p_Ldraw (defScope s_Ldraw) := ⟨rfl, rfl, rfl, by decide +kernel, rfl, by decide +kernel, by decide +kernel⟩
theorem b_Ldraw {fd : FuncData} (F : FnP K d_Ldraw fd) : Binds K fd p_Ldraw [] := FunD.bindsN F fun _ _ _ _ _ _ us hl => match us, hl with | [_, _], _ => rfl
theorem f_Lpick (T : Tx w K mg) : ∃ fd, FnP K d_Lpick fd := T.c.def_ 48 (d := d_Lpick) rfl
abbrev p_Lpick : List Str := ["_law_well_here", "_law_some"]
abbrev N_Lpick : List Str := ["_law_well_here", "_law_some"]
theorem sc_Lpick : FnScope N_Lpick p_Lpick (defScope s_Lpick) := ⟨rfl, rfl, rfl, by decide +kernel, rfl, by decide +kernel, by decide +kernel⟩
theorem b_Lpick {fd : FuncData} (F : FnP K d_Lpick fd) : Binds K fd p_Lpick [] := FunD.bindsN F fun _ _ _ _ _ _ us hl => match us, hl with | [_, _], _ => rfl
theorem f_Ltext (T : Tx w K mg) : ∃ fd, FnP K d_Ltext fd := T.c.def_ 49 (d := d_Ltext) rfl
abbrev p_Ltext : List Str := ["_law_well_here"]
abbrev N_Ltext : List Str := ["_law_well_here", "_law_some", "_law_k"]
theorem sc_Ltext : FnScope N_Ltext p_Ltext (defScope s_Ltext) := ⟨rfl, rfl, rfl, by decide +kernel, rfl, by decide +kernel, by decide +kernel⟩
theorem b_Ltext {fd : FuncData} (F : FnP K d_Ltext fd) : Binds K fd p_Ltext [] := FunD.bindsN F fun _ _ _ _ _ _ us hl => match us, hl with | [_], _ => rfl
theorem f_Lchildren (T : Tx w K mg) : ∃ fd, FnP K d_Lchildren fd := T.c.def_ 50 (d := d_Lchildren) rfl
abbrev p_Lchildren : List Str := ["_law_well_here", "_law_deep", "_law_wide"]
abbrev N_Lchildren : List Str := ["_law_well_here", "_law_deep", "_law_wide", "_law_found", "_law_turn", "_law_way", "_law_name_here"]
theorem sc_Lchildren : FnScope N_Lchildren p_Lchildren (defScope s_Lchildren) := ⟨rfl, rfl, rfl, by decide +kernel, rfl, by decide +kernel, by decide +kernel⟩
theorem b_Lchildren {fd : FuncData} (F : FnP K d_Lchildren fd) : Binds K fd p_Lchildren [] := FunD.bindsN F fun _ _ _ _ _ _ us hl => match us, hl with | [_, _, _], _ => rfl
theorem f_Lelement (T : Tx w K mg) : ∃ fd, FnP K d_Lelement fd := T.c.def_ 51 (d := d_Lelement) rfl
abbrev p_Lelement : List Str := ["_law_well_here", "_law_deep", "_law_wide"]
abbrev N_Lelement : List Str := ["_law_well_here", "_law_deep", "_law_wide", "_law_names", "_law_attributes", "_law_turn", "_law_name_here"]
theorem sc_Lelement : FnScope N_Lelement p_Lelement (defScope s_Lelement) := ⟨rfl, rfl, rfl, by decide +kernel, rfl, by decide +kernel, by decide +kernel⟩
theorem b_Lelement {fd : FuncData} (F : FnP K d_Lelement fd) : Binds K fd p_Lelement [] := FunD.bindsN F fun _ _ _ _ _ _ us hl => match us, hl with | [_, _, _], _ => rfl
theorem f_Ltree (T : Tx w K mg) : ∃ fd, FnP K d_Ltree fd := T.c.def_ 52 (d := d_Ltree) rfl
abbrev p_Ltree : List Str := ["_law_well_here", "_law_deep", "_law_wide"]
abbrev N_Ltree : List Str := ["_law_well_here", "_law_deep", "_law_wide", "_law_sides", "_law_turn", "_law_some", "_law_k"]
theorem sc_Ltree : FnScope N_Ltree p_Ltree (defScope s_Ltree) := ⟨rfl, rfl, rfl, by decide +kernel, rfl, by decide +kernel, by decide +kernel⟩
theorem b_Ltree {fd : FuncData} (F : FnP K d_Ltree fd) : Binds K fd p_Ltree [] := FunD.bindsN F fun _ _ _ _ _ _ us hl => match us, hl with | [_, _, _], _ => rfl
theorem f_Lquoted (T : Tx w K mg) : ∃ fd, FnP K d_Lquoted fd := T.c.def_ 53 (d := d_Lquoted) rfl
abbrev p_Lquoted : List Str := ["_law_text_here"]
abbrev N_Lquoted : List Str := ["_law_text_here", "_law_table", "_law_sign"]
theorem sc_Lquoted : FnScope N_Lquoted p_Lquoted (defScope s_Lquoted) := ⟨rfl, rfl, rfl, by decide +kernel, rfl, by decide +kernel, by decide +kernel⟩
theorem b_Lquoted {fd : FuncData} (F : FnP K d_Lquoted fd) : Binds K fd p_Lquoted [] := FunD.bindsN F fun _ _ _ _ _ _ us hl => match us, hl with | [_], _ => rfl
theorem f_Lwritten (T : Tx w K mg) : ∃ fd, FnP K d_Lwritten fd := T.c.def_ 54 (d := d_Lwritten) rfl
abbrev p_Lwritten : List Str := ["_law_nodes"]
abbrev N_Lwritten : List Str := ["_law_nodes", "_law_found", "_law_table", "_law_node", "_law_tag_here", "_law_name_here", "_law_text_here", "_law_inner_here", "_law_sign"]
theorem sc_Lwritten : FnScope N_Lwritten p_Lwritten (defScope s_Lwritten) := ⟨rfl, rfl, rfl, by decide +kernel, rfl, by decide +kernel, by decide +kernel⟩
theorem b_Lwritten {fd : FuncData} (F : FnP K d_Lwritten fd) : Binds K fd p_Lwritten [] := FunD.bindsN F fun _ _ _ _ _ _ us hl => match us, hl with | [_], _ => rfl
theorem f_Lletter (T : Tx w K mg) : ∃ fd, FnP K d_Lletter fd := T.c.def_ 55 (d := d_Lletter) rfl
abbrev p_Lletter : List Str := ["_law_sign"]
abbrev N_Lletter : List Str := ["_law_sign"]
theorem sc_Lletter : FnScope N_Lletter p_Lletter (defScope s_Lletter) := ⟨rfl, rfl, rfl, by decide +kernel, rfl, by decide +kernel, by decide +kernel⟩
theorem b_Lletter {fd : FuncData} (F : FnP K d_Lletter fd) : Binds K fd p_Lletter [] := FunD.bindsN F fun _ _ _ _ _ _ us hl => match us, hl with | [_], _ => rfl
theorem f_Lis_sign (T : Tx w K mg) : ∃ fd, FnP K d_Lis_sign fd := T.c.def_ 56 (d := d_Lis_sign) rfl
abbrev p_Lis_sign : List Str := ["_law_sign"]
abbrev N_Lis_sign : List Str := ["_law_sign"]
theorem sc_Lis_sign : FnScope N_Lis_sign p_Lis_sign (defScope s_Lis_sign) := ⟨rfl, rfl, rfl, by decide +kernel, rfl, by decide +kernel, by decide +kernel⟩
theorem b_Lis_sign {fd : FuncData} (F : FnP K d_Lis_sign fd) : Binds K fd p_Lis_sign [] := FunD.bindsN F fun _ _ _ _ _ _ us hl => match us, hl with | [_], _ => rfl
theorem f_Lblank (T : Tx w K mg) : ∃ fd, FnP K d_Lblank fd := T.c.def_ 57 (d := d_Lblank) rfl
abbrev p_Lblank : List Str := ["_law_text_here", "_law_at"]
abbrev N_Lblank : List Str := ["_law_text_here", "_law_at"]
theorem sc_Lblank : FnScope N_Lblank p_Lblank (defScope s_Lblank) := ⟨rfl, rfl, rfl, by decide +kernel, rfl, by decide +kernel, by decide +kernel⟩
theorem b_Lblank {fd : FuncData} (F : FnP K d_Lblank fd) : Binds K fd p_Lblank [] := FunD.bindsN F fun _ _ _ _ _ _ us hl => match us, hl with | [_, _], _ => rfl
theorem f_Lexact (T : Tx w K mg) : ∃ fd, FnP K d_Lexact fd := T.c.def_ 58 (d := d_Lexact) rfl
abbrev p_Lexact : List Str := ["_law_text_here", "_law_at", "_law_due"]
abbrev N_Lexact : List Str := ["_law_text_here", "_law_at", "_law_due", "_law_sign"]
theorem sc_Lexact : FnScope N_Lexact p_Lexact (defScope s_Lexact) := ⟨rfl, rfl, rfl, by decide +kernel, rfl, by decide +kernel, by decide +kernel⟩
theorem b_Lexact {fd : FuncData} (F : FnP K d_Lexact fd) : Binds K fd p_Lexact [] := FunD.bindsN F fun _ _ _ _ _ _ us hl => match us, hl with | [_, _, _], _ => rfl
theorem f_Lname (T : Tx w K mg) : ∃ fd, FnP K d_Lname fd := T.c.def_ 59 (d := d_Lname) rfl
abbrev p_Lname : List Str := ["_law_text_here", "_law_at"]
abbrev N_Lname : List Str := ["_law_text_here", "_law_at", "_law_turn"]
theorem sc_Lname : FnScope N_Lname p_Lname (defScope s_Lname) := ⟨rfl, rfl, rfl, by decide +kernel, rfl, by decide +kernel, by decide +kernel⟩
theorem b_Lname {fd : FuncData} (F : FnP K d_Lname fd) : Binds K fd p_Lname [] := FunD.bindsN F fun _ _ _ _ _ _ us hl => match us, hl with | [_, _], _ => rfl
theorem f_Lnumber (T : Tx w K mg) : ∃ fd, FnP K d_Lnumber fd := T.c.def_ 60 (d := d_Lnumber) rfl
abbrev p_Lnumber : List Str := ["_law_text_here", "_law_at"]
abbrev N_Lnumber : List Str := ["_law_text_here", "_law_at", "_law_digits", "_law_number_here", "_law_known", "_law_begin", "_law_one"]
theorem sc_Lnumber : FnScope N_Lnumber p_Lnumber (defScope s_Lnumber) := ⟨rfl, rfl, rfl, by decide +kernel, rfl, by decide +kernel, by decide +kernel⟩
theorem b_Lnumber {fd : FuncData} (F : FnP K d_Lnumber fd) : Binds K fd p_Lnumber [] := FunD.bindsN F fun _ _ _ _ _ _ us hl => match us, hl with | [_, _], _ => rfl
theorem f_Lreference (T : Tx w K mg) : ∃ fd, FnP K d_Lreference fd := T.c.def_ 61 (d := d_Lreference) rfl
abbrev p_Lreference : List Str := ["_law_text_here", "_law_at"]
abbrev N_Lreference : List Str := ["_law_text_here", "_law_at", "_law_known", "_law_size", "_law_begun", "_law_one"]
theorem sc_Lreference : FnScope N_Lreference p_Lreference (defScope s_Lreference) := ⟨rfl, rfl, rfl, by decide +kernel, rfl, by decide +kernel, by decide +kernel⟩
theorem b_Lreference {fd : FuncData} (F : FnP K d_Lreference fd) : Binds K fd p_Lreference [] := FunD.bindsN F fun _ _ _ _ _ _ us hl => match us, hl with | [_, _], _ => rfl
theorem f_Lvalue_end (T : Tx w K mg) : ∃ fd, FnP K d_Lvalue_end fd := T.c.def_ 62 (d := d_Lvalue_end) rfl
abbrev p_Lvalue_end : List Str := ["_law_text_here", "_law_at"]
abbrev N_Lvalue_end : List Str := ["_law_text_here", "_law_at", "_law_quote", "_law_fine"]
theorem sc_Lvalue_end : FnScope N_Lvalue_end p_Lvalue_end (defScope s_Lvalue_end) := ⟨rfl, rfl, rfl, by decide +kernel, rfl, by decide +kernel, by decide +kernel⟩
theorem b_Lvalue_end {fd : FuncData} (F : FnP K d_Lvalue_end fd) : Binds K fd p_Lvalue_end [] := FunD.bindsN F fun _ _ _ _ _ _ us hl => match us, hl with | [_, _], _ => rfl
theorem f_Ltag (T : Tx w K mg) : ∃ fd, FnP K d_Ltag fd := T.c.def_ 63 (d := d_Ltag) rfl
abbrev p_Ltag : List Str := ["_law_text_here", "_law_at"]
abbrev N_Ltag : List Str := ["_law_text_here", "_law_at", "_law_end", "_law_fine", "_law_name_here", "_law_known", "_law_behind"]
theorem sc_Ltag : FnScope N_Ltag p_Ltag (defScope s_Ltag) := ⟨rfl, rfl, rfl, by decide +kernel, rfl, by decide +kernel, by decide +kernel⟩
theorem b_Ltag {fd : FuncData} (F : FnP K d_Ltag fd) : Binds K fd p_Ltag [] := FunD.bindsN F fun _ _ _ _ _ _ us hl => match us, hl with | [_, _], _ => rfl
theorem f_Luntil (T : Tx w K mg) : ∃ fd, FnP K d_Luntil fd := T.c.def_ 64 (d := d_Luntil) rfl
abbrev p_Luntil : List Str := ["_law_text_here", "_law_at", "_law_end", "_law_last"]
abbrev N_Luntil : List Str := ["_law_text_here", "_law_at", "_law_end", "_law_last"]
theorem sc_Luntil : FnScope N_Luntil p_Luntil (defScope s_Luntil) := ⟨rfl, rfl, rfl, by decide +kernel, rfl, by decide +kernel, by decide +kernel⟩
theorem b_Luntil {fd : FuncData} (F : FnP K d_Luntil fd) : Binds K fd p_Luntil [] := FunD.bindsN F fun _ _ _ _ _ _ us hl => match us, hl with | [_, _, _, _], _ => rfl
theorem f_Lspecial (T : Tx w K mg) : ∃ fd, FnP K d_Lspecial fd := T.c.def_ 65 (d := d_Lspecial) rfl
abbrev p_Lspecial : List Str := ["_law_text_here", "_law_at", "_law_is_inside"]
abbrev N_Lspecial : List Str := ["_law_text_here", "_law_at", "_law_is_inside", "_law_begin", "_law_fine"]
theorem sc_Lspecial : FnScope N_Lspecial p_Lspecial (defScope s_Lspecial) := ⟨rfl, rfl, rfl, by decide +kernel, rfl, by decide +kernel, by decide +kernel⟩
theorem b_Lspecial {fd : FuncData} (F : FnP K d_Lspecial fd) : Binds K fd p_Lspecial [] := FunD.bindsN F fun _ _ _ _ _ _ us hl => match us, hl with | [_, _, _], _ => rfl
theorem f_Lclosing (T : Tx w K mg) : ∃ fd, FnP K d_Lclosing fd := T.c.def_ 66 (d := d_Lclosing) rfl
abbrev p_Lclosing : List Str := ["_law_text_here", "_law_at", "_law_opened"]
abbrev N_Lclosing : List Str := ["_law_text_here", "_law_at", "_law_opened", "_law_fine"]
theorem sc_Lclosing : FnScope N_Lclosing p_Lclosing (defScope s_Lclosing) := ⟨rfl, rfl, rfl, by decide +kernel, rfl, by decide +kernel, by decide +kernel⟩
theorem b_Lclosing {fd : FuncData} (F : FnP K d_Lclosing fd) : Binds K fd p_Lclosing [] := FunD.bindsN F fun _ _ _ _ _ _ us hl => match us, hl with | [_, _, _], _ => rfl
theorem f_Linner (T : Tx w K mg) : ∃ fd, FnP K d_Linner fd := T.c.def_ 67 (d := d_Linner) rfl
abbrev p_Linner : List Str := ["_law_text_here", "_law_at", "_law_opened"]
abbrev N_Linner : List Str := ["_law_text_here", "_law_at", "_law_opened", "_law_begin", "_law_fine", "_law_sign", "_law_name_here", "_law_is_closed"]
theorem sc_Linner : FnScope N_Linner p_Linner (defScope s_Linner) := ⟨rfl, rfl, rfl, by decide +kernel, rfl, by decide +kernel, by decide +kernel⟩
theorem b_Linner {fd : FuncData} (F : FnP K d_Linner fd) : Binds K fd p_Linner [] := FunD.bindsN F fun _ _ _ _ _ _ us hl => match us, hl with | [_, _, _], _ => rfl
theorem f_Laround (T : Tx w K mg) : ∃ fd, FnP K d_Laround fd := T.c.def_ 68 (d := d_Laround) rfl
abbrev p_Laround : List Str := ["_law_text_here", "_law_at"]
abbrev N_Laround : List Str := ["_law_text_here", "_law_at", "_law_fine"]
theorem sc_Laround : FnScope N_Laround p_Laround (defScope s_Laround) := ⟨rfl, rfl, rfl, by decide +kernel, rfl, by decide +kernel, by decide +kernel⟩
theorem b_Laround {fd : FuncData} (F : FnP K d_Laround fd) : Binds K fd p_Laround [] := FunD.bindsN F fun _ _ _ _ _ _ us hl => match us, hl with | [_, _], _ => rfl
theorem f_Lread (T : Tx w K mg) : ∃ fd, FnP K d_Lread fd := T.c.def_ 69 (d := d_Lread) rfl
abbrev p_Lread : List Str := ["_law_text_here"]
abbrev N_Lread : List Str := ["_law_text_here", "_law_at", "_law_fine", "_law_name_here", "_law_is_closed"]
theorem sc_Lread : FnScope N_Lread p_Lread (defScope s_Lread) := ⟨rfl, rfl, rfl, by decide +kernel, rfl, by decide +kernel, by decide +kernel⟩
theorem b_Lread {fd : FuncData} (F : FnP K d_Lread fd) : Binds K fd p_Lread [] := FunD.bindsN F fun _ _ _ _ _ _ us hl => match us, hl with | [_], _ => rfl
theorem f_Lspoilt (T : Tx w K mg) : ∃ fd, FnP K d_Lspoilt fd := T.c.def_ 70 (d := d_Lspoilt) rfl
abbrev p_Lspoilt : List Str := ["_law_well_here", "_law_text_here"]
abbrev N_Lspoilt : List Str := ["_law_well_here", "_law_text_here", "_law_turn", "_law_at", "_law_signs", "_law_sign", "_law_behind"]
theorem sc_Lspoilt : FnScope N_Lspoilt p_Lspoilt (defScope s_Lspoilt) := ⟨rfl, rfl, rfl, by decide +kernel, rfl, by decide +kernel, by decide +kernel⟩
theorem b_Lspoilt {fd : FuncData} (F : FnP K d_Lspoilt fd) : Binds K fd p_Lspoilt [] := FunD.bindsN F fun _ _ _ _ _ _ us hl => match us, hl with | [_, _], _ => rfl
theorem f_law (T : Tx w K mg) : ∃ fd, FnP K d_law fd := T.c.def_ 71 (d := d_law) rfl
abbrev p_law : List Str := ["_law_script"]
abbrev N_law : List Str := ["_law_script", "_law_odd", "_law_cell", "_law_well_here", "_law_front", "_law_text_here", "_law_at", "_law_fine", "e"]
theorem sc_law : FnScope N_law p_law (defScope s_law) := ⟨rfl, rfl, rfl, by decide +kernel, rfl, by decide +kernel, by decide +kernel⟩
theorem b_law {fd : FuncData} (F : FnP K d_law fd) : Binds K fd p_law [] := FunD.bindsN F fun _ _ _ _ _ _ us hl => match us, hl with | [_], _ => rfl
end
end K2
/-! K02Exc -/
namespace K2
open PySem PySem.Spec PyProof.Rows L2
/-! ### a def read off a class by name -/
def tCFn (C : Addr) (sp : Sp) (dvs : List V) (E : XK) (ta : TE) (t : TA) : TE := fun σ H Q => ta σ H fun x H1 => x = .ref C ∧ t σ H1 fun vs H2 => sp (vs ++ dvs) H2 Q E
section
variable {X : Cx} {CX : CXT} {k : Nat} {C g : Addr} {fd : FuncData} {ps : List Str} {ds : List Value} {dvs : List V} {mc : Value} {sp : Sp} {E : XK} {o e : Expr} {es : List Expr} {m : Str} {pos apos : Pos} {ta : TE} {t : TA} {pl : Sem Bool}
theorem pe_cfn (he : PE X o ta) (r : ClX.CRead X.K C mc) (c : ClX.CVal X.K C mc m (.ref g) (.ref g)) (hk : PySem.W.keepIn X.K (.ref g) = true) (F : FnOk X.prog X.w X.K X.mg X.base CX k g fd ps sp) (hr : Room k X.A) (hb : Binds X.K fd ps ds) (hd : Vals dvs ds) (hx : Passes CX X E) (ha : PA X (e :: es) t)
    (hst : starEach (e :: es) X.env = (false, eval e X.env) :: starEach es X.env := by rfl) (hpl : (backTo pos (starEach es X.env)).any (·.1) = false := by rfl)
    (ht : eval (.Call (.Attribute o m apos) (e :: es) [] pos) X.env = (do
      let ov ← eval o X.env
      standAt apos.atName
      let (f, first) ← holding [ov] (getMethod ov m pl)
      callWith pos f first (backTo pos (starEach (e :: es) X.env)) (backToKw pos (keywordEach [] X.env))) := by rfl) :
    PE X (.Call (.Attribute o m apos) (e :: es) [] pos) (tCFn C sp dvs E ta t) := by
  refine ⟨fun pins s σ H Q I h => ?_⟩
  refine PySem.W.methodCall_KW (pl := pl) (thn (he.run pins s σ H _ I h) fun u s1 ⟨x, H1, I1, rx, ex, q⟩ => ?_) ht
  subst ex
  obtain rfl : u = Value.ref C := rx
  refine PySem.W.method_cls I1.kIn r.ga (ClX.getcval_ok I1 r c fun s2 I2 => ?_)
  refine PySem.W.callWith_K (h₀ := X.base) I2.ok.mod.kin hk (thn (ha.run pos pins s2 σ H1 _ I2 q) fun us s3 ⟨vs, H2, I3, rv, q2⟩ => ⟨I3.kIn, ?_⟩) hst hpl
  exact run_fn F hr hb hd hx I3 rv q2
end
/-! ### the errors -/
section
variable {P : Program} {w : World} {K : PySem.W.Frag} {mg : Str → Option Value} {base : Heap}
theorem oex_of {x : Str} (h : oexB K x = true) : OexC K (He.ga K x) ∧ XfC K (He.ga K x) := by
  unfold oexB at h
  obtain ⟨h0, h⟩ := He.ba h
  obtain ⟨h1, h⟩ := He.ba h
  obtain ⟨h2, h⟩ := He.ba h
  obtain ⟨h3, h⟩ := He.ba h
  obtain ⟨h4, h5⟩ := He.ba h
  refine ⟨⟨?_, of_decide_eq_true h1, of_decide_eq_true h2, of_decide_eq_true h3, h4⟩, xfB_ok h5⟩
  cases q : K.lookup (He.ga K x) with
  | none =>
    rw [q] at h0
    cases h0
  | some o =>
    obtain ⟨oc, od, dt, osl⟩ := o
    rw [q] at h0
    cases oc with
    | type c =>
      cases dt with
      | cls cd =>
        obtain ⟨e0, h0⟩ := He.ba h0
        obtain ⟨nm, bs, mro, ns, qn, hdc, sn, sub, ab, col, hdel⟩ := cd
        obtain ⟨sl⟩ := osl
        dsimp only at h0
        split at h0
        · rename_i C' bm k0 k1 k2 k3 n k5 hh
          obtain ⟨a1, h0⟩ := He.ba h0
          obtain ⟨a2, h0⟩ := He.ba h0
          obtain ⟨a3, h0⟩ := He.ba h0
          obtain ⟨a4, a5⟩ := He.ba h0
          have e1 : C' = He.ga K x := of_decide_eq_true a1
          have e2 : n = "ValueError.__new__" := of_decide_eq_true a2
          have e3 : hdel = false := by
            cases hdel with
            | false => rfl
            | true => cases a3
          have e4 : hdc = true := a4
          have e5 : c = "type" := of_decide_eq_true e0
          subst e1 e2 e3 e4 e5
          exact ⟨nm, qn, ns, bs, bm, sn, sub, ab, col, od, k0, k1, k2, k3, k5, rfl, a5⟩
        · cases h0
      | _ => cases h0
    | _ => cases dt <;> cases h0
theorem init_of {x : Str} (h : initB K x = true) : PySem.W.findIn K (.ref (He.ga K x)) "__init__" = some (some (.ref (He.ma K (He.ga K x) "__init__"))) ∧ PySem.W.typeIn K (.ref (He.ma K (He.ga K x) "__init__")) = some (.type "function") := by
  obtain ⟨h1, h2⟩ := He.ba h
  exact ⟨of_decide_eq_true h1, of_decide_eq_true h2⟩

theorem base_of (h : baseB K = true) : ClX.CRead K (He.ga K "TreeError") (.type "type") ∧ ClX.CVal K (He.ga K "TreeError") (.type "type") "__init__" (.ref (He.fAd K d_TreeError_init.at_)) (.ref (He.fAd K d_TreeError_init.at_)) := by
  unfold baseB at h
  obtain ⟨h0, h⟩ := He.ba h
  obtain ⟨h1, h2⟩ := He.ba h
  refine ⟨⟨h1, of_decide_eq_true h2⟩, ⟨?_, rfl⟩⟩
  cases q : PySem.W.findCls K (.ref (He.ga K "TreeError")) (.type "type") "__init__" with
  | none =>
    rw [q] at h0
    cases h0
  | some r =>
    rw [q] at h0
    cases r with
    | val v =>
      cases v with
      | ref f =>
        have e : f = He.ma K (He.ga K "TreeError") "__init__" := of_decide_eq_true h0
        rw [e]
        rfl
      | _ => cases h0
    | get g a b c => cases h0
theorem more_of (T : Tx w K mg) : oexB K "BadValue" = true ∧ oexB K "NotDocument" = true ∧ initB K "BadValue" = true ∧ initB K "NotDocument" = true ∧ baseB K = true ∧ He.valsB K (He.ga K "NAMED_SIGNS") namedKvs = true := by
  have h := T.more
  unfold ex at h
  obtain ⟨h1, h⟩ := He.ba h
  obtain ⟨h2, h⟩ := He.ba h
  obtain ⟨h3, h⟩ := He.ba h
  obtain ⟨h4, h⟩ := He.ba h
  obtain ⟨h5, h⟩ := He.ba h
  obtain ⟨h6, _⟩ := He.ba h
  exact ⟨h1, h2, h3, h4, h5, h6⟩
theorem nb_of (T : Tx w K mg) : nbB K = true := by
  have h := T.more
  unfold ex at h
  obtain ⟨_, h⟩ := He.ba h
  obtain ⟨_, h⟩ := He.ba h
  obtain ⟨_, h⟩ := He.ba h
  obtain ⟨_, h⟩ := He.ba h
  obtain ⟨_, h⟩ := He.ba h
  obtain ⟨_, h⟩ := He.ba h
  exact h
theorem none_booked (T : Tx w K mg) : ∀ h : Heap, K.In h → NoneBooked h := by
  intro h hK
  have hb := nb_of T
  unfold nbB at hb
  cases e : List.lookup cStatics K with
  | none => rw [e] at hb; cases hb
  | some o =>
    rw [e] at hb
    dsimp only at hb
    cases e2 : o.data with
    | dict es ep =>
      rw [e2] at hb
      dsimp only at hb
      rw [Bool.and_eq_true] at hb
      refine ⟨nsFind es, ⟨o, es, ep, hK _ _ e, e2, fun x hx => ?_, fun _ => rfl⟩, ?_⟩
      · have h1 := List.all_eq_true.mp hb.1 x (Array.mem_toList_iff.mpr hx)
        cases e3 : x.key with
        | str n t => exact ⟨n, t, rfl⟩
        | _ => rw [e3] at h1; cases h1
      · have h2 := hb.2
        cases e4 : nsFind es sharingNotToldKey with
        | none => rfl
        | some v => rw [e4] at h2; cases h2
    | _ => rw [e2] at hb; cases hb
abbrev CN (K : PySem.W.Frag) : Addr := He.ga K "NotDocument"
abbrev CB (K : PySem.W.Frag) : Addr := He.ga K "BadValue"
/-- TreeError.__init__ -/
def spTE (K : PySem.W.Frag) : Sp := fun vs H Q _ => ∃ (a C : Addr) (y : V), vs = [.ref a, y] ∧ OexC K C ∧ PySem.W.findIn K (.ref C) "why" = some none ∧ H a = some (exo a C none) ∧
  ∀ dx, H dx = none → dx ≠ a → Q .non (upd (upd H dx (exd dx [("why", y)])) a (exo a C (some dx)))
theorem ok_TE (T : Tx w K mg) : ∃ fd ds, FnOk P w K mg base CX0 1 (He.fAd K d_TreeError_init.at_) fd p_TreeError_init (spTE K) ∧ Binds K fd p_TreeError_init ds ∧ Vals [] ds ∧ PySem.W.keepIn K (.ref (He.fAd K d_TreeError_init.at_)) = true := by
  obtain ⟨fd, F⟩ := f_TreeError_init T
  obtain ⟨ds, vd, bd⟩ := FunD.binds1 (ps := p_TreeError_init) F 2 1 (by intro h; cases h) rfl (fun T kV doc pm an cdv ct us its hl hi => match us, hl, its, hi with | [_, _], _, [_], _ => ⟨_, rfl, rfl⟩)
  refine ⟨fd, ds, ?_, bd, vd, F.kp⟩
  refine F.ok sc_TreeError_init (fun vs H Q E h => ?_) (fun cdv A outer s H vs Q E hr h => ?_)
  · obtain ⟨a, C, y, rfl, _⟩ := h
    rfl
  · obtain ⟨a, C, y, rfl, O, n, ha, k⟩ := h
    refine ⟨_, PSs.nox (pss_one (ps_ost (pv 0) (pv 1))), ?_⟩
    exact ⟨_, rfl, _, rfl, a, C, rfl, O, n, .inl ⟨ha, fun dx hd ne => k dx hd ne⟩⟩
/-- NotDocument.__init__ -/
def spND (K : PySem.W.Frag) : Sp := fun vs H Q _ => ∃ (a : Addr) (n : Int), vs = [.ref a, .int n] ∧ n.natAbs.log2 < 1920 ∧ H a = some (exo a (CN K) none) ∧
  ∀ dx y H', H dx = none → dx ≠ a → H' = upd (upd (upd H dx (exd dx [("why", y)])) a (exo a (CN K) (some dx))) dx (exd dx [("at", .int n), ("why", y)]) → Q .non H'
theorem ok_ND (T : Tx w K mg) : ∃ fd, FnOk P w K mg base CX0 2 (He.fAd K d_NotDocument_init.at_) fd p_NotDocument_init (spND K) ∧ Binds K fd p_NotDocument_init [] ∧ PySem.W.keepIn K (.ref (He.fAd K d_NotDocument_init.at_)) = true := by
  obtain ⟨fd, F⟩ := f_NotDocument_init T
  obtain ⟨mB, mN, iB, iN, bs, _⟩ := more_of T
  obtain ⟨fT, dT, GT, bT, vT, kT⟩ := ok_TE (P := P) (base := base) T
  obtain ⟨rd, cv⟩ := base_of bs
  obtain ⟨O, X⟩ := oex_of mN
  refine ⟨fd, ?_, b_NotDocument_init F, F.kp⟩
  refine F.ok sc_NotDocument_init (fun vs H Q E h => ?_) (fun cdv A outer s H vs Q E hr h => ?_)
  · obtain ⟨a, n, rfl, _⟩ := h
    rfl
  · obtain ⟨a, n, rfl, hn, ha, k⟩ := h
    refine ⟨_, PSs.nox (pss_cons (ps_expr (pe_cfn (pe_glob (v := .ref (He.ga K "TreeError")) rfl (g_TreeError T) rfl) rd cv kT GT hr bT vT pass0 (pa_cons (pv 0) (pa_cons (pe_joined (.cons pe_str (.cons (pe_fmt (pv 1)) .nil))) pa_nil)))) (pss_one (ps_ost (pv 0) (pv 1)))), ?_⟩
    refine ⟨rfl, _, rfl, _, rfl, ?_, _, rfl, .inr ⟨n, rfl, hn, _, rfl, ?_, ?_⟩⟩
    · decide +kernel
    · have e := int_text_length_le (k := 1920) (by decide) hn
      rw [Str.length_append, show sizeLine = 16777216 from sizeLine_eq]
      have e2 : (Str.empty ++ Str.ofString "no document goes on like this at ").length ≤ 100 := by decide +kernel
      rw [PySem.ofString_length]
      omega
    · refine ⟨a, CN K, _, rfl, O, na_NotDocument_why T, ha, fun dx hd ne => ?_⟩
      refine ⟨_, rfl, _, rfl, a, CN K, rfl, O, na_NotDocument_at T, .inr ⟨dx, _, upd_same, (upd_ne ne).trans upd_same, (by show 1 ≤ 900; decide), ?_⟩⟩
      exact k dx _ _ hd ne rfl

/-- BadValue.__init__ -/
def spBV (K : PySem.W.Frag) : Sp := fun vs H Q _ => ∃ (a : Addr) (y : V), vs = [.ref a, y] ∧ H a = some (exo a (CB K) none) ∧
  ∀ dx, H dx = none → dx ≠ a → Q .non (upd (upd H dx (exd dx [("why", y)])) a (exo a (CB K) (some dx)))
theorem ok_BV (T : Tx w K mg) : ∃ fd ds, FnOk P w K mg base CX0 2 (He.fAd K d_BadValue_init.at_) fd p_BadValue_init (spBV K) ∧ Binds K fd p_BadValue_init ds ∧ Vals [] ds ∧ PySem.W.keepIn K (.ref (He.fAd K d_BadValue_init.at_)) = true := by
  obtain ⟨fd, F⟩ := f_BadValue_init T
  obtain ⟨mB, mN, iB, iN, bs, _⟩ := more_of T
  obtain ⟨fT, dT, GT, bT, vT, kT⟩ := ok_TE (P := P) (base := base) T
  obtain ⟨rd, cv⟩ := base_of bs
  obtain ⟨O, X⟩ := oex_of mB
  obtain ⟨ds, vd, bd⟩ := FunD.binds1 (ps := p_BadValue_init) F 2 1 (by intro h; cases h) rfl (fun T kV doc pm an cdv ct us its hl hi => match us, hl, its, hi with | [_, _], _, [_], _ => ⟨_, rfl, rfl⟩)
  refine ⟨fd, ds, ?_, bd, vd, F.kp⟩
  refine F.ok sc_BadValue_init (fun vs H Q E h => ?_) (fun cdv A outer s H vs Q E hr h => ?_)
  · obtain ⟨a, n, rfl, _⟩ := h
    rfl
  · obtain ⟨a, y, rfl, ha, k⟩ := h
    refine ⟨_, PSs.nox (pss_one (ps_expr (pe_cfn (pe_glob (v := .ref (He.ga K "TreeError")) rfl (g_TreeError T) rfl) rd cv kT GT hr bT vT pass0 (pa_cons (pv 0) (pa_cons (pv 1) pa_nil))))), ?_⟩
    exact ⟨rfl, _, rfl, _, rfl, a, CB K, y, rfl, O, na_BadValue_why T, ha, fun dx hd ne => k dx hd ne⟩
end
/-! ### raise -/
section
variable {X : Cx} {W : WX} {e : Expr} {te : TE} {p p2 pos : Pos}
theorem back_eq {H1 H2 : Hp} {a d : Addr} {o : HO} (h1 : H1 a = none) (hd : d ≠ a) (h2 : ∀ b, b ≠ a → b ≠ d → H2 b = H1 b) : upd (del H2 a) d o = upd H1 d o := by
  funext b
  by_cases e : b = d
  · rw [e, upd_same, upd_same]
  · rw [upd_ne e, upd_ne e]
    by_cases e2 : b = a
    · rw [e2, del_same, h1]
    · rw [del_ne e2, h2 b e2 e]
/-- NotDocument(e) -/
theorem pmk_nd {ta : TA} (T : Tx X.w X.K X.mg) (hr : Room 3 X.A) (ha : PA X (e :: []) ta) (hg : Gl X "NotDocument" := by rfl)
    (hs : starEach (e :: []) X.env = (false, eval e X.env) :: starEach [] X.env := by rfl) (hpl : (backTo p2 (starEach [] X.env)).any (·.1) = false := by rfl) :
    PMk X (.Call (.Name "NotDocument" p) (e :: []) [] p2) (tMkO (CN X.K) (spND X.K) [] ta) := by
  obtain ⟨mB, mN, iB, iN, bs, _⟩ := more_of T
  obtain ⟨O, _⟩ := oex_of mN
  obtain ⟨i1, i2⟩ := init_of iN
  obtain ⟨fd, G, b, kp⟩ := ok_ND (P := X.prog) (base := X.base) T
  exact pmk_oex O i1 i2 G hr b .nil pass0 hg (g_NotDocument T) ha (by decide) hs hpl
theorem nd_ok {K : PySem.W.Frag} {H1 : Hp} {n : Int} {Q : XK} (hn : n.natAbs.log2 < 1920) (h : ∀ d y, H1 d = none → Q (.ref (CN K)) (some d) (upd H1 d (.xd [("at", .int n), ("why", y)]))) :
    ([V.int n] : List V).length ≤ 1000 ∧ ∀ a, H1 a = none → spND K (.ref a :: ([V.int n] ++ [])) (upd H1 a (exo a (CN K) none))
      (fun v H2 => v = .non ∧ ∃ (d : Addr) (fs : List (Str × V)), H2 a = some (exo a (CN K) (some d)) ∧ H2 d = some (exd d fs) ∧ H1 d = none ∧ Q (.ref (CN K)) (some d) (upd (del H2 a) d (.xd fs))) (fun _ _ _ => False) := by
  refine ⟨by show 1 ≤ 1000; decide, fun a ha => ⟨a, n, rfl, hn, upd_same, fun dx y H' hd ne e => ?_⟩⟩
  have hd1 : H1 dx = none := by rw [upd_ne ne] at hd; exact hd
  subst e
  refine ⟨rfl, dx, _, by rw [upd_ne (Ne.symm ne), upd_same], upd_same, hd1, ?_⟩
  rw [back_eq ha ne (fun b hb hb2 => by rw [upd_ne hb2, upd_ne hb, upd_ne hb2, upd_ne hb])]
  exact h dx y hd1
theorem pmk_bv {ta : TA} (T : Tx X.w X.K X.mg) (hr : Room 3 X.A) (ha : PA X (e :: []) ta) (hg : Gl X "BadValue" := by rfl)
    (hs : starEach (e :: []) X.env = (false, eval e X.env) :: starEach [] X.env := by rfl) (hpl : (backTo p2 (starEach [] X.env)).any (·.1) = false := by rfl) :
    PMk X (.Call (.Name "BadValue" p) (e :: []) [] p2) (tMkO (CB X.K) (spBV X.K) [] ta) := by
  obtain ⟨mB, mN, iB, iN, bs, _⟩ := more_of T
  obtain ⟨O, _⟩ := oex_of mB
  obtain ⟨i1, i2⟩ := init_of iB
  obtain ⟨fd, ds, G, b, vd, kp⟩ := ok_BV (P := X.prog) (base := X.base) T
  exact pmk_oex O i1 i2 G hr b vd pass0 hg (g_BadValue T) ha (by decide) hs hpl
theorem bv_ok {K : PySem.W.Frag} {H1 : Hp} {y : V} {Q : XK} (h : ∀ d, H1 d = none → Q (.ref (CB K)) (some d) (upd H1 d (.xd [("why", y)]))) :
    ([y] : List V).length ≤ 1000 ∧ ∀ a, H1 a = none → spBV K (.ref a :: ([y] ++ [])) (upd H1 a (exo a (CB K) none))
      (fun v H2 => v = .non ∧ ∃ (d : Addr) (fs : List (Str × V)), H2 a = some (exo a (CB K) (some d)) ∧ H2 d = some (exd d fs) ∧ H1 d = none ∧ Q (.ref (CB K)) (some d) (upd (del H2 a) d (.xd fs))) (fun _ _ _ => False) := by
  refine ⟨by show 1 ≤ 1000; decide, fun a ha => ⟨a, y, rfl, upd_same, fun dx hd ne => ?_⟩⟩
  have hd1 : H1 dx = none := by rw [upd_ne ne] at hd; exact hd
  refine ⟨rfl, dx, _, upd_same, by rw [upd_ne ne, upd_same], hd1, ?_⟩
  rw [back_eq ha ne (fun b hb hb2 => by rw [upd_ne hb, upd_ne hb2, upd_ne hb])]
  exact h dx hd1
end
end K2
/-! K02Spec -/
/-! What both readers do, on lists of codes: how many signs are taken, and whether the part is whole. Plain Lean. -/
namespace K2
def isBl (c : Nat) : Bool := c == 32 || c == 9 || c == 10
def isLt (c : Nat) : Bool := (97 ≤ c && c ≤ 122) || (65 ≤ c && c ≤ 90) || c == 95
def isWd (c : Nat) : Bool := isLt c || (48 ≤ c && c ≤ 57) || c == 45 || c == 46
def isSg (c : Nat) : Bool := (32 ≤ c && c ≤ 126) || c == 9 || c == 10
def blN (l : List Nat) : Nat := (l.takeWhile isBl).length
def wdN (l : List Nat) : Nat := (l.takeWhile isWd).length
/-- a word: its length, whether it is one -/
def wrN : List Nat → Nat × Bool
  | [] => (0, false)
  | c :: r => if isLt c then (1 + wdN r, true) else (0, false)
/-- a name -/
def nmN (l : List Nat) : Nat × Bool :=
  match wrN l with
  | (n, false) => (n, false)
  | (n, true) => if (l.drop n).head? = some 58 then (n + 1 + (wrN (l.drop (n + 1))).1, (wrN (l.drop (n + 1))).2) else (n, true)
def exN : List Nat → List Nat → Nat × Bool
  | [], _ => (0, true)
  | _ :: _, [] => (0, false)
  | d :: ds, c :: r => if c = d then ((exN ds r).1 + 1, (exN ds r).2) else (0, false)
/-- the numbers of signs that references stand for -/
def known (n : Nat) : Bool := n == 9 || n == 10 || (32 ≤ n && n ≤ 126 && n != 37)
def dig (b c : Nat) : Option Nat :=
  if 48 ≤ c ∧ c ≤ 57 then some (c - 48) else if b = 16 ∧ 97 ≤ c ∧ c ≤ 102 then some (c - 87) else if b = 16 ∧ 65 ≤ c ∧ c ≤ 70 then some (c - 55) else none
def leads (b n : Nat) : Bool := (List.range 127).any fun m => known m && (n == m || n == m / b || n == m / b / b)
/-- digits of a number, then a semicolon -/
def dgN (b : Nat) : Nat → Bool → List Nat → Nat × Bool
  | _, _, [] => (0, false)
  | acc, st, c :: r => match dig b c with
    | some d => if leads b (acc * b + d) then ((dgN b (acc * b + d) true r).1 + 1, (dgN b (acc * b + d) true r).2) else (0, false)
    | none => if c = 59 ∧ st = true ∧ known acc = true then (1, true) else (0, false)
/-- behind &# -/
def nrN : List Nat → Nat × Bool
  | 120 :: r => ((dgN 16 0 false r).1 + 1, (dgN 16 0 false r).2)
  | l => dgN 10 0 false l
/-- one of some words: what is left of them that may still stand here -/
def stepW (ws : List (List Nat)) (c : Nat) : List (List Nat) := ws.filterMap fun w => match w with
  | d :: r => if d = c then some r else none
  | [] => none
def oneN : List (List Nat) → List Nat → Nat × Bool
  | _, [] => (0, false)
  | ws, c :: r => if stepW ws c = [] then (0, false) else if [] ∈ stepW ws c then (1, true) else ((oneN (stepW ws c) r).1 + 1, (oneN (stepW ws c) r).2)
def namedW : List (List Nat) := [[108, 116, 59], [103, 116, 59], [97, 109, 112, 59], [113, 117, 111, 116, 59], [97, 112, 111, 115, 59]]
/-- behind & -/
def rfN : List Nat → Nat × Bool
  | 35 :: r => ((nrN r).1 + 1, (nrN r).2)
  | l => oneN namedW l
/-- behind the quotation mark q -/
def vbN (q : Nat) (l : List Nat) : Nat × Bool :=
  match h : l with
  | [] => (0, false)
  | c :: r => if c = q then (1, true) else if c = 38 then
      (if (rfN r).2 then ((vbN q (r.drop (rfN r).1)).1 + (rfN r).1 + 1, (vbN q (r.drop (rfN r).1)).2) else ((rfN r).1 + 1, false))
    else if c = 60 then (0, false) else ((vbN q r).1 + 1, (vbN q r).2)
termination_by l.length
decreasing_by all_goals (subst h; simp only [List.length_cons, List.length_drop]; omega)
def vlN : List Nat → Nat × Bool
  | c :: r => if c = 34 ∨ c = 39 then ((vbN c r).1 + 1, (vbN c r).2) else (0, false)
  | [] => (0, false)
/-- the first place of S -/
def fdN (S : List Nat) : List Nat → Option Nat
  | [] => if S = [] then some 0 else none
  | c :: r => if (c :: r).take S.length = S then some 0 else (fdN S r).map (· + 1)
/-- as far as S, and this -/
def upN (S l : List Nat) : Nat × Bool := match fdN S l with
  | some j => (j + S.length, true)
  | none => (l.length, false)
/-- an attribute behind its blanks, with the known names: its name, how far, whether -/
def atN (known : List (List Nat)) (l : List Nat) : Nat × Bool :=
  if (nmN l).2 = false then ((nmN l).1, false)
  else if l.take (nmN l).1 ∈ known then ((nmN l).1, false)
  else
    let l2 := l.drop (nmN l).1
    let k2 := blN l2
    match l2.drop k2 with
    | 61 :: r3 => ((vlN (r3.drop (blN r3))).1 + (blN r3) + 1 + k2 + (nmN l).1, (vlN (r3.drop (blN r3))).2)
    | _ => (k2 + (nmN l).1, false)
theorem nm_pos {l : List Nat} (h : (nmN l).2 = true) : 0 < (nmN l).1 := by
  unfold nmN at h ⊢
  cases l with
  | nil => simp [wrN] at h
  | cons c r =>
    unfold wrN at h ⊢
    by_cases hc : isLt c = true
    · simp only [hc, if_true] at h ⊢
      split <;> simp <;> omega
    · simp [hc] at h
theorem at_pos {ks : List (List Nat)} {l : List Nat} (h : (atN ks l).2 = true) : 0 < (atN ks l).1 := by
  unfold atN at h ⊢
  by_cases h1 : (nmN l).2 = false
  · simp [h1] at h
  · have h1' : (nmN l).2 = true := by cases e : (nmN l).2 <;> simp_all
    have := nm_pos h1'
    simp only [h1', Bool.true_eq_false, if_false] at h ⊢
    split
    · rename_i q; simp [q] at h
    · split <;> dsimp only <;> omega
/-- a tag behind its name: how far, whether, whether it is closed -/
def tgN (ks : List (List Nat)) (l : List Nat) : Nat × Bool × Bool :=
  let k := blN l
  match l.drop k with
  | 62 :: _ => (k + 1, true, false)
  | 47 :: r => if r.head? = some 62 then (k + 2, true, true) else (k + 1, false, true)
  | _ => if k = 0 then (0, false, true) else
    if h : (atN ks (l.drop k)).2 = true then
      ((tgN ((l.drop k).take (nmN (l.drop k)).1 :: ks) ((l.drop k).drop (atN ks (l.drop k)).1)).1 + (atN ks (l.drop k)).1 + k,
        (tgN ((l.drop k).take (nmN (l.drop k)).1 :: ks) ((l.drop k).drop (atN ks (l.drop k)).1)).2)
    else ((atN ks (l.drop k)).1 + k, false, true)
termination_by l.length
decreasing_by
  all_goals
    (have h1 := at_pos h
     have h2 : l ≠ [] := by
       intro e
       subst e
       simp [atN, nmN, wrN] at h
     have h3 : 0 < l.length := List.length_pos_iff.mpr h2
     simp only [List.length_drop]
     omega)
def lowC (c : Nat) : Nat := if 65 ≤ c ∧ c ≤ 90 then c + 32 else c
def isXml (l : List Nat) : Bool := l.map lowC == [120, 109, 108]
/-- an instruction behind <? -/
def inN (l : List Nat) : Nat × Bool :=
  if (nmN l).2 = false then ((nmN l).1, false)
  else if isXml (l.take (nmN l).1) then ((nmN l).1, false)
  else
    let r := l.drop (nmN l).1
    if blN r = 0 then ((exN [63, 62] r).1 + (nmN l).1, (exN [63, 62] r).2)
    else ((upN [63, 62] (r.drop (blN r))).1 + blN r + (nmN l).1, (upN [63, 62] (r.drop (blN r))).2)
/-- a comment behind <! -/
def cmN (l : List Nat) : Nat × Bool :=
  if (exN [45, 45] l).2 = false then ((exN [45, 45] l).1, false)
  else if (upN [45, 45] (l.drop 2)).2 = false then ((upN [45, 45] (l.drop 2)).1 + 2, false)
  else ((exN [62] ((l.drop 2).drop (upN [45, 45] (l.drop 2)).1)).1 + (upN [45, 45] (l.drop 2)).1 + 2, (exN [62] ((l.drop 2).drop (upN [45, 45] (l.drop 2)).1)).2)
/-- a CDATA part behind <! -/
def cdN (l : List Nat) : Nat × Bool :=
  if (exN [91, 67, 68, 65, 84, 65, 91] l).2 = false then ((exN [91, 67, 68, 65, 84, 65, 91] l).1, false)
  else ((upN [93, 93, 62] (l.drop 7)).1 + 7, (upN [93, 93, 62] (l.drop 7)).2)
/-- an end tag behind </ -/
def clN (nm l : List Nat) : Nat × Bool :=
  if (exN nm l).2 = false then ((exN nm l).1, false)
  else ((exN [62] ((l.drop nm.length).drop (blN (l.drop nm.length)))).1 + blN (l.drop nm.length) + nm.length, (exN [62] ((l.drop nm.length).drop (blN (l.drop nm.length)))).2)
def isPl (c : Nat) : Bool := c != 60 && c != 38
/-- plain signs -/
def plN (l : List Nat) : Nat × Bool := match fdN [93, 93, 62] (l.takeWhile isPl) with
  | some j => (j + 2, false)
  | none => ((l.takeWhile isPl).length, true)
/-- the whole tag behind <: how far, whether, its name, whether it is closed -/
def teN (l : List Nat) : Nat × Bool × Bool :=
  if (nmN l).2 = false then ((nmN l).1, false, true)
  else ((tgN [] (l.drop (nmN l).1)).1 + (nmN l).1, (tgN [] (l.drop (nmN l).1)).2)
/-- one step of a document: the names of the open elements (innermost first), whether the outermost was met; how far, the names behind it (none: a fault) -/
def step (st : List (List Nat)) (has : Bool) (l : List Nat) : Nat × Option (List (List Nat) × Bool) :=
  match st with
  | [] =>
    if blN l ≠ 0 then (blN l, some ([], has)) else
    match l with
    | 60 :: 33 :: r => if (cmN r).2 then ((cmN r).1 + 2, some ([], has)) else ((cmN r).1 + 2, none)
    | 60 :: 63 :: r => if (inN r).2 then ((inN r).1 + 2, some ([], has)) else ((inN r).1 + 2, none)
    | 60 :: r => if has then (1, none) else
      if (teN r).2.1 then ((teN r).1 + 1, some (if (teN r).2.2 then [] else [r.take (nmN r).1], true)) else ((teN r).1 + 1, none)
    | _ => (0, none)
  | nm :: st' =>
    match l with
    | 60 :: 47 :: r => if (clN nm r).2 then ((clN nm r).1 + 2, some (st', has)) else ((clN nm r).1 + 2, none)
    | 60 :: 33 :: 91 :: r => if (cdN (91 :: r)).2 then ((cdN (91 :: r)).1 + 2, some (st, has)) else ((cdN (91 :: r)).1 + 2, none)
    | 60 :: 33 :: r => if (cmN r).2 then ((cmN r).1 + 2, some (st, has)) else ((cmN r).1 + 2, none)
    | 60 :: 63 :: r => if (inN r).2 then ((inN r).1 + 2, some (st, has)) else ((inN r).1 + 2, none)
    | 60 :: r => if (teN r).2.1 then ((teN r).1 + 1, some (if (teN r).2.2 then st else r.take (nmN r).1 :: st, has)) else ((teN r).1 + 1, none)
    | 38 :: r => if (rfN r).2 then ((rfN r).1 + 1, some (st, has)) else ((rfN r).1 + 1, none)
    | _ => if (plN l).2 then ((plN l).1, some (st, has)) else ((plN l).1, none)
theorem blN_pos {c : Nat} {r : List Nat} (h : isBl c = true) : 0 < blN (c :: r) := by
  unfold blN
  rw [List.takeWhile_cons, h]
  simp
theorem plN_pos {c : Nat} {r : List Nat} (h1 : c ≠ 60) (h2 : c ≠ 38) : 0 < (plN (c :: r)).1 := by
  have hpl : isPl c = true := by simp [isPl, h1, h2]
  unfold plN
  rw [List.takeWhile_cons, hpl]
  simp only [if_true]
  split <;> simp
theorem step_pos {st : List (List Nat)} {has : Bool} {l : List Nat} {n : Nat} {s : List (List Nat) × Bool} (hl : l ≠ []) (h : step st has l = (n, some s)) : 0 < n := by
  unfold step at h
  split at h
  · by_cases hb : blN l ≠ 0
    · rw [if_pos hb] at h
      injection h with h1 h2
      omega
    · rw [if_neg hb] at h
      split at h
      · split at h <;> simp at h <;> omega
      · split at h <;> simp at h <;> omega
      · split at h
        · simp at h
        · split at h <;> simp at h <;> omega
      · simp at h
  · split at h
    · split at h <;> simp at h <;> omega
    · split at h <;> simp at h <;> omega
    · split at h <;> simp at h <;> omega
    · split at h <;> simp at h <;> omega
    · split at h <;> simp at h <;> omega
    · split at h <;> simp at h <;> omega
    · rename_i h60 h38
      cases l with
      | nil => exact absurd rfl hl
      | cons c r =>
        have h1 : c ≠ 60 := fun e => by
          subst e
          exact h60 r rfl
        have h2 : c ≠ 38 := fun e => by
          subst e
          exact h38 r rfl
        have z := plN_pos (r := r) h1 h2
        split at h <;> simp at h <;> omega
/-- the reading of the rest: how far, and whether it is a document -/
def run : Nat → List (List Nat) → Bool → List Nat → Nat × Bool
  | _, st, has, [] => (0, st.isEmpty && has)
  | 0, _, _, _ => (0, false)
  | f + 1, st, has, c :: r => match step st has (c :: r) with
    | (n, none) => (n, false)
    | (n, some s) => ((run f s.1 s.2 ((c :: r).drop n)).1 + n, (run f s.1 s.2 ((c :: r).drop n)).2)
theorem run_fuel : ∀ (f g : Nat) (st : List (List Nat)) (has : Bool) (l : List Nat), l.length ≤ f → l.length ≤ g → run f st has l = run g st has l
  | _, _, _, _, [], _, _ => by simp [run]
  | 0, _, _, _, c :: r, h, _ => by simp at h
  | _, 0, _, _, c :: r, _, h => by simp at h
  | f + 1, g + 1, st, has, c :: r, h1, h2 => by
    unfold run
    cases e : step st has (c :: r) with
    | mk n o =>
      cases o with
      | none => rfl
      | some s =>
        have hp := step_pos (by simp) e
        have e2 := run_fuel f g s.1 s.2 ((c :: r).drop n) (by simp only [List.length_drop, List.length_cons] at *; omega) (by simp only [List.length_drop, List.length_cons] at *; omega)
        dsimp only
        rw [e2]
/-- the declaration, if there is one -/
def dcN (l : List Nat) : Nat × Bool := match l with
  | 60 :: 63 :: 120 :: 109 :: 108 :: c :: r => if isBl c then upN [63, 62] l else (0, true)
  | _ => (0, true)
def docN (l : List Nat) : Nat × Bool :=
  if (dcN l).2 then ((run l.length [] false (l.drop (dcN l).1)).1 + (dcN l).1, (run l.length [] false (l.drop (dcN l).1)).2) else ((dcN l).1, false)
/-! ### how far at most -/
theorem tw_le {p : Nat → Bool} : ∀ l : List Nat, (l.takeWhile p).length ≤ l.length
  | [] => by simp
  | c :: r => by
    rw [List.takeWhile_cons]
    have := tw_le (p := p) r
    split <;> simp <;> omega
theorem blN_le (l : List Nat) : blN l ≤ l.length := tw_le l
theorem wdN_le (l : List Nat) : wdN l ≤ l.length := tw_le l
theorem wrN_le : ∀ l : List Nat, (wrN l).1 ≤ l.length
  | [] => by simp [wrN]
  | c :: r => by
    have := wdN_le r
    by_cases hc : isLt c = true
    · simp only [wrN, hc, if_true, List.length_cons]
      omega
    · simp [wrN, hc]
theorem nmN_le (l : List Nat) : (nmN l).1 ≤ l.length := by
  unfold nmN
  have h1 := wrN_le l
  split
  · rename_i n e
    rw [e] at h1
    exact h1
  · rename_i n e
    rw [e] at h1
    split
    · rename_i h
      have h2 := wrN_le (l.drop (n + 1))
      simp only [List.length_drop] at h2
      have h3 : n < l.length := by
        cases q : l.drop n with
        | nil => rw [q] at h; simp at h
        | cons c r =>
          have := congrArg List.length q
          simp only [List.length_drop, List.length_cons] at this
          omega
      dsimp only
      omega
    · exact h1
theorem exN_le : ∀ (s l : List Nat), (exN s l).1 ≤ l.length
  | [], l => by simp [exN]
  | d :: ds, [] => by simp [exN]
  | d :: ds, c :: r => by
    unfold exN
    have := exN_le ds r
    split <;> simp <;> omega
theorem exN_ok : ∀ (s l : List Nat), (exN s l).2 = true → (exN s l).1 = s.length
  | [], l, _ => by simp [exN]
  | d :: ds, [], h => by simp [exN] at h
  | d :: ds, c :: r, h => by
    unfold exN at h ⊢
    split
    · rename_i q
      rw [if_pos q] at h
      have := exN_ok ds r h
      simp [this]
    · rename_i q
      rw [if_neg q] at h
      cases h
theorem dgN_le (b : Nat) : ∀ (acc : Nat) (st : Bool) (l : List Nat), (dgN b acc st l).1 ≤ l.length
  | _, _, [] => by simp [dgN]
  | acc, st, c :: r => by
    unfold dgN
    split
    · rename_i d _
      have := dgN_le b (acc * b + d) true r
      split <;> simp <;> omega
    · split <;> simp
theorem nrN_le (l : List Nat) : (nrN l).1 ≤ l.length := by
  unfold nrN
  split
  · rename_i r
    have := dgN_le 16 0 false r
    simp
    omega
  · exact dgN_le 10 0 false l
theorem oneN_le : ∀ (ws : List (List Nat)) (l : List Nat), (oneN ws l).1 ≤ l.length
  | _, [] => by simp [oneN]
  | ws, c :: r => by
    unfold oneN
    have := oneN_le (stepW ws c) r
    split
    · simp
    · split <;> simp <;> omega
theorem rfN_le (l : List Nat) : (rfN l).1 ≤ l.length := by
  unfold rfN
  split
  · rename_i r
    have := nrN_le r
    simp
    omega
  · exact oneN_le namedW l
theorem vbN_le (q : Nat) : ∀ (k : Nat) (l : List Nat), l.length ≤ k → (vbN q l).1 ≤ l.length
  | _, [], _ => by simp [vbN]
  | 0, c :: r, h => by simp at h
  | k + 1, c :: r, h => by
    rw [vbN]
    have h0 : r.length ≤ k := by simpa using h
    split
    · simp
    · split
      · have h1 := rfN_le r
        split
        · have h2 := vbN_le q k (r.drop (rfN r).1) (by simp only [List.length_drop]; omega)
          simp only [List.length_drop] at h2
          simp
          omega
        · simp
          omega
      · split
        · simp
        · have := vbN_le q k r h0
          simp
          omega
theorem vlN_le (l : List Nat) : (vlN l).1 ≤ l.length := by
  unfold vlN
  split
  · rename_i c r
    have := vbN_le c r.length r (Nat.le_refl _)
    split <;> simp <;> omega
  · simp
theorem fdN_le {S : List Nat} : ∀ {l : List Nat} {j : Nat}, fdN S l = some j → j + S.length ≤ l.length
  | [], j, h => by
    unfold fdN at h
    split at h
    · rename_i e
      cases h
      simp [e]
    · cases h
  | c :: r, j, h => by
    unfold fdN at h
    split at h
    · rename_i e
      cases h
      have := congrArg List.length e
      simp only [List.length_take, List.length_cons] at this
      simp
      omega
    · cases q : fdN S r with
      | none => rw [q] at h; cases h
      | some k =>
        rw [q] at h
        cases h
        have := fdN_le q
        simp
        omega
theorem upN_le (S l : List Nat) : (upN S l).1 ≤ l.length := by
  unfold upN
  split
  · rename_i j e
    exact fdN_le e
  · simp
theorem plN_le (l : List Nat) : (plN l).1 ≤ l.length := by
  unfold plN
  have h := tw_le (p := isPl) l
  split
  · rename_i j e
    have := fdN_le e
    simp at this ⊢
    omega
  · exact h
theorem atN_le (ks : List (List Nat)) (l : List Nat) : (atN ks l).1 ≤ l.length := by
  unfold atN
  have h1 := nmN_le l
  split
  · exact h1
  · split
    · exact h1
    · have h2 := blN_le (l.drop (nmN l).1)
      simp only [List.length_drop] at h2
      dsimp only
      split
      · rename_i r3 e
        have h3 := congrArg List.length e
        simp only [List.length_drop, List.length_cons] at h3
        have h4 := vlN_le (r3.drop (blN r3))
        have h5 := blN_le r3
        simp only [List.length_drop] at h4
        dsimp only
        omega
      · dsimp only
        omega
end K2
/-! K02Str -/
namespace K2
open PySem PySem.Spec PyProof.Rows L2 TL
/-! ### texts by their codes -/
def mkS (l : List Nat) : Str := ⟨l.toArray⟩
theorem tl_mkS (l : List Nat) : tl (mkS l) = l := rfl
theorem mkS_tl (z : Str) : mkS (tl z) = z := mk_tl z
theorem mkS_len (l : List Nat) : (mkS l).length = l.length := by rw [len_tl, tl_mkS]
/-- the next sign, as a text -/
abbrev sg (l : List Nat) : Str := mkS (l.take 1)
theorem mkS_inj {a b : List Nat} (h : mkS a = mkS b) : a = b := by
  have e := congrArg tl h
  exact e
theorem lit {s : String} {l : List Nat} (h : s.toList.map Char.toNat = l := by rfl) : (Str.ofString s) = mkS l := ext_tl (by rw [tl_ofString, h, tl_mkS])
theorem dec_str (a b : Str) : decide (V.str a = V.str b) = decide (tl a = tl b) := by
  by_cases h : a = b
  · subst h
    simp
  · have h1 : ¬ V.str a = V.str b := fun e => h (V.str.inj e)
    have h2 : ¬ tl a = tl b := fun e => h (ext_tl e)
    simp [h1, h2]
theorem eqV_str (a b : Str) : eqV (.str a) (.str b) = decide (tl a = tl b) := by
  show (a == b) = _
  rw [← dec_str]
  by_cases h : a = b
  · subst h
    simp
  · have h1 : ¬ V.str a = V.str b := fun e => h (V.str.inj e)
    simp [h, h1]
def hB (p : Nat → Bool) : List Nat → Bool
  | c :: _ => p c
  | [] => false
theorem cut_nat (z : Str) (i j : Nat) : cutS z (some (i : Int)) (some (j : Int)) = mkS (((tl z).drop i).take (j - i)) := by
  refine ext_tl ?_
  show ((z.cps.toList.drop (HT.sIx z.length 0 (some (i : Int)))).take (HT.sIx z.length z.length (some (j : Int)) - HT.sIx z.length 0 (some (i : Int)))) = ((tl z).drop i).take (j - i)
  rw [HT.sIx_nat, HT.sIx_nat]
  have hl : z.length = (tl z).length := len_tl z
  rw [hl]
  show (((tl z).drop (min i (tl z).length)).take (min j (tl z).length - min i (tl z).length)) = _
  generalize tl z = t
  by_cases h : i ≤ t.length
  · rw [Nat.min_eq_left h]
    by_cases h2 : j ≤ t.length
    · rw [Nat.min_eq_left h2]
    · rw [Nat.min_eq_right (Nat.le_of_not_le h2), List.take_of_length_le (by rw [List.length_drop]; omega), List.take_of_length_le (by rw [List.length_drop]; omega)]
  · have h' := Nat.le_of_not_le h
    rw [Nat.min_eq_right h', List.drop_of_length_le (Nat.le_refl _), List.drop_of_length_le h']
    simp
theorem cut_one (z : Str) (i : Nat) : cutS z (some (i : Int)) (some ((i : Int) + 1)) = sg ((tl z).drop i) := by
  have e : ((i : Int) + 1) = ((i + 1 : Nat) : Int) := by omega
  rw [e, cut_nat, show i + 1 - i = 1 by omega]
theorem dec1 (a c : Nat) : decide ([a] = [c]) = (c == a) := by
  by_cases h : c = a
  · subst h
    simp
  · rw [decide_eq_false (fun e => h (List.cons.inj e).1.symm)]
    exact (beq_eq_false_iff_ne.mpr h).symm
theorem sg_cons (c : Nat) (r : List Nat) : sg (c :: r) = mkS [c] := rfl
theorem sg_nil : sg [] = mkS [] := rfl
/-! ### the signs -/
section
variable {P : Program} {w : World} {K : PySem.W.Frag} {mg : Str → Option Value} {base : Heap}
/-- a def of a text of one sign (or none) that tells a truth, and changes nothing -/
def spSg (p : Nat → Bool) : Sp := fun vs H Q _ => ∃ l : List Nat, vs = [.str (sg l)] ∧ ∀ H', Same H H' → Q (.bl (hB p l)) H'
theorem same_new {H : Hp} {p : Addr} {o : HO} (h : H p = none) : Same H (upd H p o) := fun b o' e => by rw [upd_ne (ne_of_none e h)]; exact e
theorem ok_is_blank (T : Tx w K mg) : ∃ fd, FnOk P w K mg base CX0 1 (He.fAd K d_is_blank.at_) fd p_is_blank (spSg isBl) ∧ Binds K fd p_is_blank [] ∧ PySem.W.keepIn K (.ref (He.fAd K d_is_blank.at_)) = true := by
  obtain ⟨fd, F⟩ := f_is_blank T
  refine ⟨fd, ?_, b_is_blank F, F.kp⟩
  refine F.ok sc_is_blank (fun vs H Q E h => ?_) (fun cdv A outer s H vs Q E hr h => ?_)
  · obtain ⟨l, rfl, _⟩ := h
    rfl
  · obtain ⟨l, rfl, k⟩ := h
    refine ⟨_, PSs.nox (pss_one (ps_ret (pe_cmpR op_in_seq (pv 0) (pe_tup (pa_cons pe_str (pa_cons pe_str (pa_cons pe_str pa_nil)))) (by rfl)))), ?_⟩
    refine ⟨_, rfl, (by show 3 ≤ sizeLine; decide), fun p hp => ⟨p, _, rfl, .inr (SqT.of upd_same), rfl, rfl, ?_⟩⟩
    have e : inV (.str (sg l)) [.str (Str.ofString " "), .str (Str.ofString "\t"), .str (Str.ofString "\n")] = hB isBl l := by
      show (eqV _ _ || (eqV _ _ || (eqV _ _ || false))) = _
      rw [eqV_str, eqV_str, eqV_str, lit (s := " ") (l := [32]), lit (s := "\t") (l := [9]), lit (s := "\n") (l := [10]), tl_mkS, tl_mkS, tl_mkS, tl_mkS]
      cases l with
      | nil => rfl
      | cons c r =>
        show (decide ([32] = [c]) || (decide ([9] = [c]) || (decide ([10] = [c]) || false))) = isBl c
        rw [dec1, dec1, dec1]
        unfold isBl
        cases c == 32 <;> cases c == 9 <;> cases c == 10 <;> rfl
    show Q (.bl (if false = true then !inV _ _ else inV _ _)) _
    rw [if_neg Bool.false_ne_true, e]
    exact k _ (same_new hp)
end
end K2
/-! K02Enum -/
namespace K2
open PySem PySem.Spec PyProof.Rows L2 TL
/-! ### enumerate(text) -/
def Itq (x : Str) : It := ⟨fun i _ => i < x.cps.size, fun i H v H' => ∃ T c, v = .ref T ∧ H T = none ∧ H' = upd H T (.tup [.int (i : Nat), .str ⟨#[c]⟩]) ∧ x.cps[i]? = some c, fun i _ => i = x.cps.size⟩
theorem turn_enumS {P : Program} {w : World} {K : PySem.W.Frag} {elts : List Expr} {kk : Nat} {tpos : Pos} (x : Str) (t : Tok) (e it : Addr) :
    Turn P w K (.Tuple elts kk tpos) (Itq x) [e, it] e (fun i h => (∃ old, IsEnum h e it ((i : Nat) : Int) old) ∧ h.IsStrIter it (strIterType x) x t i ∧ e ≠ it) where
  mem := by simp
  obj := fun i h st b hb => by
    obtain ⟨⟨old, he⟩, ⟨o, ho, hc, hd⟩, _⟩ := st
    have e' : b = e ∨ b = it := by simpa using hb
    rcases e' with z | z
    · rw [z]; exact ⟨_, he, fun v q => nomatch q⟩
    · rw [z]; exact ⟨o, ho, fun v q => by rw [hd] at q; cases q⟩
  keep := fun i h h' st k => let ⟨⟨old, he⟩, ⟨o, ho, r⟩, hne⟩ := st; ⟨⟨old, k e (by simp) _ he⟩, ⟨o, k it (by simp) o ho, r⟩, hne⟩
  item := by
    intro X hP hw hK hc i pins s σ H E I hf st hg
    subst hP hw hK
    obtain ⟨⟨old, he⟩, hit, hne⟩ := st
    have hel : e < s.heap.objs.size := Heap.lt_size he
    have hil : it < s.heap.objs.size := by obtain ⟨_, q, _⟩ := hit; exact Heap.lt_size q
    have D := Draws.text (prog := X.prog) (w := X.w) (A := X.A.in1) (I.ok.hd hc) it x t
    refine wpAny_pyNext_enum_itemD D he hit hg hne (by simpa using hne) fun v h' tk hv ho hit' hT hsz hk => ?_
    obtain ⟨c, u, hcx, rfl⟩ := hv
    refine ⟨_, rfl, wpAny_letOwnedTupleGo_enum (s := { s with heap := h', toks := tk + 1 }) ho fun h'' he' sb => ?_⟩
    have hT2 : h''.get? s.heap.objs.size = some { cls := .type "tuple", data := .seq #[.int i tk, .str ⟨#[c]⟩ u] } := (sb.2 _ (Nat.ne_of_gt hel)).trans hT
    have new : ObjOk X.prog X.w (upd H s.heap.objs.size (.tup [.int (i : Nat), .str ⟨#[c]⟩])) h'' s.heap.objs.size (.tup [.int (i : Nat), .str ⟨#[c]⟩]) :=
      ⟨by show 2 ≤ sizeLine; decide, [.int i tk, .str ⟨#[c]⟩ u], .cons ⟨_, rfl⟩ (.cons ⟨_, rfl⟩ .nil), ⟨_, hT2, rfl, _, rfl⟩⟩
    have I1 : Inv X pins σ (upd H s.heap.objs.size (.tup [.int (i : Nat), .str ⟨#[c]⟩])) { s with heap := h'', toks := tk + 1 } :=
      I.turnedNew (ch := [e, it]) (fun b ob hb q => (sb.2 b (fun z => hb (by simp [z]))).trans (hk b ob (fun z => hb (by simp [z])) (fun z => hb (by simp [z])) q)) hf (Nat.le_refl _) new
    refine ⟨.ref s.heap.objs.size, _, I1, rfl, ⟨_, c, rfl, I.hok.fresh (Nat.le_refl _), rfl, hcx⟩, ⟨⟨.str ⟨#[c]⟩ u, ?_⟩, ?_, hne⟩, fun b hb => ?_⟩
    · have e1 : ((i + 1 : Nat) : Int) = (i : Int) + 1 := by omega
      rw [e1]; exact he'
    · obtain ⟨o, q1, q2⟩ := hit'
      exact ⟨o, (sb.2 it (Ne.symm hne)).trans q1, q2⟩
    · have hb' : b < s.heap.objs.size := by
        have e' : b = e ∨ b = it := by simpa using hb
        rcases e' with z | z
        · rw [z]; exact hel
        · rw [z]; exact hil
      rw [upd_ne (Nat.ne_of_lt hb')]
      exact (hf b hb).1
  done := by
    intro X hP hw hK hc i pins s σ H E I hf st hg
    subst hP hw hK
    obtain ⟨⟨old, he⟩, hit, hne⟩ := st
    obtain ⟨f0, f1, f2, f3, f4, f5⟩ := hf it (by simp)
    have D := Draws.text (prog := X.prog) (w := X.w) (A := X.A.in1) (I.ok.hd hc) it x t
    have hg' : i = x.cps.size := hg
    subst hg'
    exact wpAny_pyNext_enum_endD D he hit fun h' eb => ⟨rfl, I.turned (t' := s.toks) (fun b o hb q => eb b o hb q) f0 f1 f3 f4 f5⟩
  self := fun A i s Q E st h => let ⟨⟨_, he⟩, _⟩ := st; wpAny_pyIter_enum he h
def iEnumS (ta : TA) : TI := fun σ H R => ta σ H fun vs H1 => ∃ x, vs = [.str x] ∧ R (Itq x) H1
theorem pi_enumS {X : Cx} {e : Expr} {ta : TA} {p pos tpos : Pos} {elts : List Expr} {kk : Nat} (hg : Gl X "enumerate") (hm : X.mg "enumerate" = none) (ha : PA X [e] ta) (hs : starEach [e] X.env = [(false, eval e X.env)] := by rfl) :
    PI X (.Tuple elts kk tpos) (.Call (.Name "enumerate" p) [e] [] pos) (iEnumS ta) := by
  refine ⟨fun pins s σ H R I h => ?_⟩
  refine Call_ (ld_blt I hg hm boot_enumerate (PyProof.Rows.callWith_type1 (thn (ha.run pos pins s σ H _ I h) fun us s1 ⟨vs, H1, I1, r1, q1⟩ => ?_) hs rfl))
  obtain ⟨x, ex, q⟩ := q1
  subst ex
  cases r1 with
  | cons r rr =>
    cases rr
    obtain ⟨t, rfl⟩ := r
    refine call_enumerate_str fun h' he hit hsz hk => wpAny_pyIter_enum he ?_
    have I2 : Inv X pins σ H1 { s1 with heap := h' } := I1.kept (t' := s1.toks) hk
    refine ⟨s1.heap.objs.size + 1, [s1.heap.objs.size + 1, s1.heap.objs.size], _, _, H1, rfl, I2, turn_enumS x t (s1.heap.objs.size + 1) s1.heap.objs.size, ⟨⟨.none, he⟩, hit, Nat.succ_ne_self _⟩, fun b hb => ?_, q⟩
    have e' : b = s1.heap.objs.size + 1 ∨ b = s1.heap.objs.size := by simpa using hb
    have hle : s1.heap.objs.size ≤ b := by
      rcases e' with z | z
      · rw [z]; exact Nat.le_add_right _ _
      · rw [z]; exact Nat.le_refl _
    exact I1.fpOk hle (I1.hok.fresh hle)
theorem walk_enumS {z : Str} : Walk (Itq z) z.cps.size (fun _ => True) (fun i H v H' => ∃ T c, v = .ref T ∧ H T = none ∧ H' = upd H T (.tup [.int (i : Nat), .str ⟨#[c]⟩]) ∧ z.cps[i]? = some c) :=
  ⟨fun _ _ hi _ => hi, fun _ _ => rfl, fun _ _ _ _ _ _ y => y⟩
end K2
/-! K02Sig -/
namespace K2
open PySem PySem.Spec PyProof.Rows L2 TL
theorem hB_sg {p : Nat → Bool} {c : Nat} {r : List Nat} : hB p (c :: r) = p c := rfl
theorem lt1 (a b : Nat) : decide ([a] < [b]) = decide (a < b) := by
  by_cases h : a < b
  · rw [decide_eq_true h, decide_eq_true (List.cons_lt_cons_iff.mpr (.inl h))]
  · rw [decide_eq_false h]
    refine decide_eq_false fun e => ?_
    rcases List.cons_lt_cons_iff.mp e with e | ⟨_, e⟩
    · exact h e
    · exact absurd e (by simp)
theorem lt0 (b : Nat) : decide (([] : List Nat) < [b]) = true := decide_eq_true (List.nil_lt_cons _ _)
theorem dec1r (a c : Nat) : decide ([c] = [a]) = (c == a) := by
  by_cases h : c = a
  · subst h
    simp
  · rw [decide_eq_false (fun e => h (List.cons.inj e).1)]
    exact (beq_eq_false_iff_ne.mpr h).symm
def spSgA (p : Nat → Bool) : Sp := fun vs H Q _ => ∃ l : List Nat, vs = [.str (sg l)] ∧ (∀ c r, l = c :: r → c < 128) ∧ ∀ H', Same H H' → Q (.bl (hB p l)) H'
abbrev Ok (P : Program) (w : World) (K : PySem.W.Frag) (mg : Str → Option Value) (base : Heap) (CX : CXT) (k : Nat) (f : Addr) (ps : List Str) (sp : Sp) : Prop :=
  ∃ fd, FnOk P w K mg base CX k f fd ps sp ∧ Binds K fd ps [] ∧ PySem.W.keepIn K (.ref f) = true
section
variable {P : Program} {w : World} {K : PySem.W.Frag} {mg : Str → Option Value} {base : Heap}
theorem ok_is_sign (T : Tx w K mg) : Ok P w K mg base CX0 1 (He.fAd K d_is_sign.at_) p_is_sign (spSg isSg) := by
  obtain ⟨fd, F⟩ := f_is_sign T
  refine ⟨fd, ?_, b_is_sign F, F.kp⟩
  refine F.ok sc_is_sign (fun vs H Q E h => ?_) (fun cdv A outer s H vs Q E hr h => ?_)
  · obtain ⟨l, rfl, _⟩ := h
    rfl
  · obtain ⟨l, rfl, k⟩ := h
    refine ⟨_, PSs.nox (pss_one (ps_ret (pe_or (pe_chain op_le_str op_le_str pe_str (pv 0) pe_str) (pe_one (pe_cmpR op_in_seq (pv 0) (pe_tup (pa_cons pe_str (pa_cons pe_str pa_nil))) (by rfl)))))), ?_⟩
    have tup : ∀ (B : Bool), (B = false → hB isSg l = (inV (.str (sg l)) [.str (Str.ofString "\t"), .str (Str.ofString "\n")])) → (B = true → hB isSg l = true) → ∃ c, V.bl B = .bl c ∧ if c = true then Q (.bl true) H else
        ∃ v, (start N_is_sign [V.str (sg l)])[0]? = some (some v) ∧ (2 ≤ sizeLine) ∧ ∀ p, H p = none → rIn K false v (.ref p) (upd H p (.tup [.str (Str.ofString "\t"), .str (Str.ofString "\n")])) Q := by
      intro B h1 h2
      refine ⟨B, rfl, ?_⟩
      cases B with
      | true =>
        rw [if_pos rfl]
        have e := k H (Same.refl H)
        rw [h2 rfl] at e
        exact e
      | false =>
        rw [if_neg Bool.false_ne_true]
        refine ⟨_, rfl, (by decide), fun p hp => ⟨p, _, rfl, .inr (SqT.of upd_same), rfl, rfl, ?_⟩⟩
        show Q (.bl (if false = true then !inV _ _ else inV _ _)) _
        rw [if_neg Bool.false_ne_true, ← h1 rfl]
        exact k _ (same_new hp)
    have e9 : ∀ c r, l = c :: r → inV (.str (sg l)) [.str (Str.ofString "\t"), .str (Str.ofString "\n")] = (c == 9 || c == 10) := by
      intro c r e
      show (eqV _ _ || (eqV _ _ || false)) = _
      rw [eqV_str, eqV_str, lit (s := "\t") (l := [9]), lit (s := "\n") (l := [10]), tl_mkS, tl_mkS, tl_mkS, e]
      show (decide ([9] = [c]) || (decide ([10] = [c]) || false)) = _
      rw [dec1, dec1, Bool.or_false]
    refine ⟨_, rfl, _, _, rfl, rfl, _, rfl, ?_⟩
    rw [show (Str.ofString " ").cps.toList = [32] by rfl, show (sg l).cps.toList = l.take 1 by rfl]
    cases l with
    | nil =>
      rw [show ([] : List Nat).take 1 = [] by rfl, lt0]
      show if (!true) = true then _ else _
      rw [if_neg (by decide)]
      exact tup false (fun _ => by rfl) (fun z => by cases z)
    | cons c r =>
      rw [show (c :: r).take 1 = [c] by rfl, lt1]
      by_cases h1 : c < 32
      · rw [decide_eq_true h1]
        show if (!true) = true then _ else _
        rw [if_neg (by decide)]
        refine tup false (fun _ => ?_) (fun z => by cases z)
        rw [e9 c r rfl, hB_sg]
        unfold isSg
        have : ¬ 32 ≤ c := by omega
        simp [this]
      · rw [decide_eq_false h1]
        show if (!false) = true then _ else _
        rw [if_pos (by decide)]
        refine ⟨_, _, rfl, rfl, ?_⟩
        rw [show (Str.ofString "~").cps.toList = [126] by rfl, show (sg (c :: r)).cps.toList = [c] by rfl, lt1]
        refine tup _ (fun z => ?_) (fun z => ?_)
        · rw [e9 c r rfl, hB_sg]
          unfold isSg
          have h2 : 126 < c := by
            have z2 : decide (126 < c) = true := by
              cases q : decide (126 < c) with
              | true => rfl
              | false => rw [q] at z; cases z
            exact of_decide_eq_true z2
          have : ¬ c ≤ 126 := by omega
          simp [this]
        · rw [hB_sg]
          unfold isSg
          have h2 : ¬ 126 < c := by
            have z2 : decide (126 < c) = false := by
              cases q : decide (126 < c) with
              | false => rfl
              | true => rw [q] at z; cases z
            exact of_decide_eq_false z2
          have h3 : c ≤ 126 := by omega
          have h4 : 32 ≤ c := by omega
          simp [h3, h4]

theorem lt_alpha : ∀ c, c < 128 → Unicode.isAlpha c = ((97 ≤ c && c ≤ 122) || (65 ≤ c && c ≤ 90)) := by decide +kernel
theorem lt_alnum : ∀ c, c < 128 → Unicode.isAlnum c = ((97 ≤ c && c ≤ 122) || (65 ≤ c && c ≤ 90) || (48 ≤ c && c ≤ 57)) := by decide +kernel
theorem ascii_one {c : Nat} (h : c < 128) : Txt.isascii (sg [c]) = true := by
  show (#[c].all (· < 128)) = true
  simp [h]
theorem alpha_one {c : Nat} : Txt.isalpha (sg [c]) = Unicode.isAlpha c := by
  show ((sg [c]).length > 0 && #[c].all Unicode.isAlpha) = _
  rw [show (sg [c]).length = 1 by rfl]
  simp
theorem alnum_one {c : Nat} : Txt.isalnum (sg [c]) = Unicode.isAlnum c := by
  show ((sg [c]).length > 0 && #[c].all Unicode.isAlnum) = _
  rw [show (sg [c]).length = 1 by rfl]
  simp
theorem ok_begins_word (T : Tx w K mg) : Ok P w K mg base CX0 1 (He.fAd K d_begins_word.at_) p_begins_word (spSgA isLt) := by
  obtain ⟨fd, F⟩ := f_begins_word T
  refine ⟨fd, ?_, b_begins_word F, F.kp⟩
  refine F.ok sc_begins_word (fun vs H Q E h => ?_) (fun cdv A outer s H vs Q E hr h => ?_)
  · obtain ⟨l, rfl, _⟩ := h
    rfl
  · obtain ⟨l, rfl, ha, k⟩ := h
    refine ⟨_, PSs.nox (pss_one (ps_ret (pe_or (pe_cmpR op_eq (pv 0) pe_str (nomark _)) (pe_one (pe_and (pe_m0 PySem.F.slot_str_isascii PySem.F.type_str_isascii mt_isascii (pv 0)) (pe_one (pe_m0 PySem.F.slot_str_isalpha PySem.F.type_str_isalpha mt_isalpha (pv 0)))))))), ?_⟩
    refine ⟨_, rfl, rfl, _, rfl, ?_⟩
    rw [dec_str, lit (s := "_") (l := [95]), tl_mkS, tl_mkS]
    cases l with
    | nil =>
      rw [show decide (([] : List Nat).take 1 = [95]) = false by decide]
      rw [if_neg Bool.false_ne_true]
      refine ⟨_, rfl, ⟨_, rfl⟩, _, rfl, rfl, trivial, _, rfl, ?_⟩
      rw [show Txt.isascii (sg []) = true by decide +kernel, if_pos rfl]
      refine ⟨_, rfl, ⟨_, rfl⟩, _, rfl, rfl, trivial, ?_⟩
      exact k H (Same.refl H)
    | cons c r =>
      have hc := ha c r rfl
      rw [show (c :: r).take 1 = [c] by rfl, dec1r]
      by_cases h1 : c = 95
      · rw [show (c == 95) = true by simp [h1], if_pos rfl]
        have e := k H (Same.refl H)
        rw [hB_sg, h1] at e
        exact e
      · rw [show (c == 95) = false by simp [h1], if_neg Bool.false_ne_true]
        refine ⟨_, rfl, ⟨_, rfl⟩, _, rfl, rfl, trivial, _, rfl, ?_⟩
        rw [sg_cons, show mkS [c] = sg [c] by rfl, ascii_one hc, if_pos rfl]
        refine ⟨_, rfl, ⟨_, rfl⟩, _, rfl, rfl, trivial, ?_⟩
        have e := k H (Same.refl H)
        rw [hB_sg] at e
        rw [alpha_one, lt_alpha c hc]
        unfold isLt at e
        rw [show (c == 95) = false by simp [h1], Bool.or_false] at e
        exact e
theorem ok_goes_on_in_word (T : Tx w K mg) : Ok P w K mg base CX0 1 (He.fAd K d_goes_on_in_word.at_) p_goes_on_in_word (spSgA isWd) := by
  obtain ⟨fd, F⟩ := f_goes_on_in_word T
  refine ⟨fd, ?_, b_goes_on_in_word F, F.kp⟩
  refine F.ok sc_goes_on_in_word (fun vs H Q E h => ?_) (fun cdv A outer s H vs Q E hr h => ?_)
  · obtain ⟨l, rfl, _⟩ := h
    rfl
  · obtain ⟨l, rfl, ha, k⟩ := h
    refine ⟨_, PSs.nox (pss_one (ps_ret (pe_or (pe_cmpR op_in_seq (pv 0) (pe_tup (pa_cons pe_str (pa_cons pe_str (pa_cons pe_str pa_nil)))) (by rfl)) (pe_one (pe_and (pe_m0 PySem.F.slot_str_isascii PySem.F.type_str_isascii mt_isascii (pv 0)) (pe_one (pe_m0 PySem.F.slot_str_isalnum PySem.F.type_str_isalnum mt_isalnum (pv 0)))))))), ?_⟩
    refine ⟨_, rfl, (by decide), fun p hp => ⟨p, _, rfl, .inr (SqT.of upd_same), rfl, rfl, ?_⟩⟩
    have kk := k _ (same_new hp (o := .tup [.str (Str.ofString "_"), .str (Str.ofString "-"), .str (Str.ofString ".")]))
    rw [if_neg Bool.false_ne_true]
    cases l with
    | nil =>
      refine ⟨_, rfl, ?_⟩
      rw [show inV (.str (sg [])) [.str (Str.ofString "_"), .str (Str.ofString "-"), .str (Str.ofString ".")] = false by rfl]
      rw [if_neg Bool.false_ne_true]
      refine ⟨_, rfl, ⟨_, rfl⟩, _, rfl, rfl, trivial, _, rfl, ?_⟩
      rw [show Txt.isascii (sg []) = true by decide +kernel, if_pos rfl]
      refine ⟨_, rfl, ⟨_, rfl⟩, _, rfl, rfl, trivial, ?_⟩
      exact kk
    | cons c r =>
      have hc := ha c r rfl
      have e9 : inV (.str (sg (c :: r))) [.str (Str.ofString "_"), .str (Str.ofString "-"), .str (Str.ofString ".")] = (c == 95 || (c == 45 || c == 46)) := by
        show (eqV _ _ || (eqV _ _ || (eqV _ _ || false))) = _
        rw [eqV_str, eqV_str, eqV_str, lit (s := "_") (l := [95]), lit (s := "-") (l := [45]), lit (s := ".") (l := [46]), tl_mkS, tl_mkS, tl_mkS, tl_mkS]
        show (decide ([95] = [c]) || (decide ([45] = [c]) || (decide ([46] = [c]) || false))) = _
        rw [dec1, dec1, dec1, Bool.or_false]
      refine ⟨_, rfl, ?_⟩
      rw [e9]
      rw [hB_sg] at kk
      cases q : (c == 95 || (c == 45 || c == 46)) with
      | true =>
        rw [if_pos rfl]
        have e : isWd c = true := by
          unfold isWd isLt
          revert q
          cases c == 95 <;> cases c == 45 <;> cases c == 46 <;> simp
        rw [e] at kk
        exact kk
      | false =>
        rw [if_neg Bool.false_ne_true]
        refine ⟨_, rfl, ⟨_, rfl⟩, _, rfl, rfl, trivial, _, rfl, ?_⟩
        rw [sg_cons, show mkS [c] = sg [c] by rfl, ascii_one hc, if_pos rfl]
        refine ⟨_, rfl, ⟨_, rfl⟩, _, rfl, rfl, trivial, ?_⟩
        rw [alnum_one, lt_alnum c hc]
        unfold isWd isLt at kk
        have q1 : (c == 95) = false ∧ (c == 45) = false ∧ (c == 46) = false := by
          revert q
          cases c == 95 <;> cases c == 45 <;> cases c == 46 <;> simp
        rw [q1.1, q1.2.1, q1.2.2, Bool.or_false, Bool.or_false, Bool.or_false] at kk
        exact kk

/-! ### numbers of signs -/
/-- is_beginning -/
def ibN (b n : Nat) : Nat → Bool
  | 0 => n == 0
  | m + 1 => if n < m + 1 then (if h : 2 ≤ b then ibN b n ((m + 1) / b) else false) else m + 1 == n
termination_by m => m
decreasing_by exact Nat.div_lt_self (Nat.succ_pos m) h
theorem ibN_gt {b n m : Nat} (hb : 2 ≤ b) (h : n < m) : ibN b n m = ibN b n (m / b) := by
  cases m with
  | zero => omega
  | succ m =>
    rw [ibN, if_pos h, dif_pos hb]
theorem ibN_le {b n m : Nat} (h : ¬ n < m) : ibN b n m = (m == n) := by
  cases m with
  | zero =>
    rw [ibN]
    cases n <;> rfl
  | succ m =>
    rw [ibN, if_neg h]
def spIB : Sp := fun vs H Q _ => ∃ n m b : Nat, vs = [.int n, .int m, .int b] ∧ 2 ≤ b ∧ b ≤ 16 ∧ Q (.bl (ibN b n m)) H
theorem ok_is_beginning (T : Tx w K mg) : Ok P w K mg base CX0 1 (He.fAd K d_is_beginning.at_) p_is_beginning spIB := by
  obtain ⟨fd, F⟩ := f_is_beginning T
  refine ⟨fd, ?_, b_is_beginning F, F.kp⟩
  refine F.ok sc_is_beginning (fun vs H Q E h => ?_) (fun cdv A outer s H vs Q E hr h => ?_)
  · obtain ⟨n, m, b, rfl, _⟩ := h
    rfl
  · obtain ⟨n, m, b, rfl, h2, h16, k⟩ := h
    refine ⟨_, PSs.nox (pss_cons (ps_while PassesOwn.never (pt_cmpR op_gt (pv 1) (pv 0) (nomark _)) (pss_one (ps_set (i := 1) sc_is_beginning.nd rfl (.inl rfl) (pe_op op_fdivN (pv 1) (pv 2))))) (pss_one (ps_ret (pe_cmpR op_eq (pv 1) (pv 0) (nomark _))))), ?_⟩
    refine ⟨fun j σ H1 => σ = [some (.int n), some (.int (j : Nat)), some (.int b)] ∧ H = H1 ∧ ibN b n j = ibN b n m, ⟨m, rfl, rfl, rfl⟩, ?_⟩
    rintro j σ _ ⟨rfl, rfl, e⟩
    refine ⟨_, rfl, _, rfl, _, _, rfl, rfl, _, rfl, ?_⟩
    refine ite2 (fun c => ?_) (fun c => ?_)
    · have c1 : n < j := by
        have := of_decide_eq_true c
        omega
      refine ⟨_, fun σ' H' z => z, ?_⟩
      refine ⟨_, rfl, _, rfl, _, _, rfl, rfl, ⟨by omega, by omega⟩, j / b, Nat.div_lt_self (by omega) h2, ?_, rfl, by rw [← e, ibN_gt h2 c1]⟩
      have e1 : ((j : Int)).fdiv (b : Int) = ((j / b : Nat) : Int) := by
        rw [Int.fdiv_eq_ediv_of_nonneg _ (by omega)]
        exact (Int.natCast_ediv j b).symm
      show [some (V.int (n : Int)), some (V.int (((j : Int)).fdiv (b : Int))), some (V.int (b : Int))] = _
      rw [e1]
    · have c1 : ¬ n < j := fun z => c (decide_eq_true (by omega))
      refine ⟨_, rfl, _, rfl, rfl, ?_⟩
      have e2 : decide (V.int (j : Int) = V.int (n : Int)) = ibN b n m := by
        rw [← e, ibN_le c1]
        by_cases q : j = n
        · subst q
          simp
        · have q2 : ¬ V.int (j : Int) = V.int (n : Int) := fun z => q (by have := V.int.inj z; omega)
          simp [q, q2]
      rw [e2]
      exact k

def refL : List Nat := (List.range 127).filter known
def ibF : Nat → Nat → Nat → Nat → Bool
  | 0, _, _, _ => false
  | f + 1, b, n, m => if n < m then ibF f b n (m / b) else m == n
theorem ibF_eq {b n : Nat} (hb : 2 ≤ b) : ∀ (f m : Nat), m < 2 ^ f → ibN b n m = ibF (f + 1) b n m
  | 0, m, h => by
    have : m = 0 := by
      simp at h
      omega
    subst this
    rw [ibN_le (by omega), ibF, if_neg (by omega)]
  | f + 1, m, h => by
    rw [ibF]
    by_cases c : n < m
    · rw [if_pos c, ibN_gt hb c]
      refine ibF_eq hb f (m / b) ?_
      have h1 : m / b ≤ m / 2 := Nat.div_le_div_left hb (by omega)
      have h2 : m / 2 < 2 ^ f := by
        rw [Nat.pow_succ] at h
        omega
      omega
    · rw [if_neg c, ibN_le c]
theorem leads_dec : ∀ b, (b = 10 ∨ b = 16) → ∀ n, n < 127 → ((List.range 127).any fun m => known m && ibF 8 b n m) = leads b n := by
  intro b hb
  rcases hb with rfl | rfl
  · decide +kernel
  · decide +kernel
theorem leads_ib (b : Nat) (hb : b = 10 ∨ b = 16) (n : Nat) : (refL.any fun m => ibN b n m) = leads b n := by
  have e1 : (refL.any fun m => ibN b n m) = (List.range 127).any fun m => known m && ibF 8 b n m := by
    unfold refL
    rw [List.any_filter]
    rw [Bool.eq_iff_iff, List.any_eq_true, List.any_eq_true]
    constructor
    · rintro ⟨m, hm, e⟩
      refine ⟨m, hm, ?_⟩
      rw [← ibF_eq (by omega) 7 m (by have := List.mem_range.mp hm; omega)]
      exact e
    · rintro ⟨m, hm, e⟩
      refine ⟨m, hm, ?_⟩
      rw [ibF_eq (by omega) 7 m (by have := List.mem_range.mp hm; omega)]
      exact e
  rw [e1]
  by_cases hn : n < 127
  · exact leads_dec b hb n hn
  · have l1 : ((List.range 127).any fun m => known m && ibF 8 b n m) = false := by
      rw [List.any_eq_false]
      intro m hm
      have := List.mem_range.mp hm
      rw [ibF, if_neg (by omega)]
      have : ¬ m = n := by omega
      simp [this]
    have l2 : leads b n = false := by
      unfold leads
      rw [List.any_eq_false]
      intro m hm
      have h1 := List.mem_range.mp hm
      have h2 : m / b ≤ m := Nat.div_le_self _ _
      have h3 : m / b / b ≤ m / b := Nat.div_le_self _ _
      have a1 : ¬ n = m := by omega
      have a2 : ¬ n = m / b := by omega
      have a3 : ¬ n = m / b / b := by omega
      simp [a1, a2, a3]
    rw [l1, l2]
/-- the constant -/
def refS : Str := "\t\n !\"#$&'()*+,-./0123456789:;<=>?@ABCDEFGHIJKLMNOPQRSTUVWXYZ[\\]^_`abcdefghijklmnopqrstuvwxyz{|}~"
theorem tl_ref : tl refS = refL := by decide +kernel
theorem ref_mem (c : Nat) : c ∈ refL ↔ known c = true := by
  unfold refL
  rw [List.mem_filter, List.mem_range]
  constructor
  · exact fun h => h.2
  · intro h
    refine ⟨?_, h⟩
    unfold known at h
    simp only [Bool.or_eq_true, Bool.and_eq_true, beq_iff_eq, decide_eq_true_eq] at h
    omega
theorem glob_ref {X : Cx} {pos : Pos} (T : Tx X.w X.K X.mg) (hg : Gl X "REFERABLE") : PE X (.Name "REFERABLE" pos) (tC (.str refS)) := by
  obtain ⟨t, e⟩ := c_REFERABLE T
  exact pe_glob hg e ⟨t, rfl⟩
def spRf : Sp := fun vs H Q _ => ∃ n : Nat, vs = [.int n] ∧ Q (.str (if known n then mkS [n] else mkS [])) H
theorem ok_referred_sign (T : Tx w K mg) : Ok P w K mg base CX0 1 (He.fAd K d_referred_sign.at_) p_referred_sign spRf := by
  obtain ⟨fd, F⟩ := f_referred_sign T
  refine ⟨fd, ?_, b_referred_sign F, F.kp⟩
  refine F.ok sc_referred_sign (fun vs H Q E h => ?_) (fun cdv A outer s H vs Q E hr h => ?_)
  · obtain ⟨n, rfl, _⟩ := h
    rfl
  · obtain ⟨n, rfl, k⟩ := h
    refine ⟨_, PSs.nox (pss_cons (ps_for PassesOwn.never rfl (pi_str (glob_ref T rfl)) (pg_name (i := 1) sc_referred_sign.nd rfl (.inl rfl))
      (pss_one (ps_if (pt_cmpR op_eq (pe_callB call_ord (by rfl) (n_ord T) (by decide +kernel) (pa_cons (pv 1) pa_nil)) (pv 0) (nomark _)) (pss_one (ps_ret (pv 1))) pss_nil))) (pss_one (ps_ret pe_str))), ?_⟩
    refine ⟨refS, rfl, for_it walk_str (fun i σ H1 => H1 = H ∧ (∃ v, σ = [some (.int n), v]) ∧ ∀ j, j < i → refL[j]? ≠ some n) ⟨rfl, ⟨none, rfl⟩, fun j hj => by omega⟩ (fun _ _ _ _ _ => trivial) ?_ ?_⟩
    · rintro i x σ H1 H2 hi ⟨rfl, ⟨v, rfl⟩, hj⟩ ⟨rfl, c, hc, rfl⟩
      have hc' : refL[i]? = some c := by
        rw [← tl_ref]
        show refS.cps.toList[i]? = some c
        rw [Array.getElem?_toList]
        exact hc
      refine ⟨_, rfl, _, rfl, rfl, _, rfl, rfl, _, rfl, ?_⟩
      show if decide (V.int ((c : Nat) : Int) = V.int (n : Int)) = true then _ else _
      refine ite2 (fun e => ?_) (fun e => ?_)
      · have e1 : c = n := by
          have := V.int.inj (of_decide_eq_true e)
          omega
        subst e1
        refine ⟨_, rfl, ?_⟩
        have kn : known c = true := (ref_mem c).mp (List.mem_of_getElem? hc')
        rw [kn, if_pos rfl] at k
        exact k
      · refine ⟨rfl, ⟨_, rfl⟩, fun j hj2 => ?_⟩
        by_cases q : j = i
        · subst q
          rw [hc']
          intro z
          have : c = n := Option.some.inj z
          exact e (decide_eq_true (by rw [this]))
        · exact hj j (by omega)
    · rintro σ H1 ⟨rfl, ⟨v, rfl⟩, hj⟩
      have kn : ¬ known n = true := fun z => by
        obtain ⟨i, hi, e⟩ := List.mem_iff_getElem.mp ((ref_mem n).mpr z)
        have hsz : refS.cps.size = refL.length := by
          rw [← tl_ref]
          simp
        refine hj i (by rw [hsz]; exact hi) ?_
        rw [List.getElem?_eq_getElem hi, e]
      rw [if_neg kn] at k
      exact k

def spLd : Sp := fun vs H Q _ => ∃ n b : Nat, vs = [.int n, .int b] ∧ (b = 10 ∨ b = 16) ∧ Q (.bl (leads b n)) H
theorem ok_leads_to_sign (T : Tx w K mg) : Ok P w K mg base CX0 2 (He.fAd K d_leads_to_sign.at_) p_leads_to_sign spLd := by
  obtain ⟨fd, F⟩ := f_leads_to_sign T
  obtain ⟨fI, GI, bI, kI⟩ := ok_is_beginning (P := P) (base := base) T
  refine ⟨fd, ?_, b_leads_to_sign F, F.kp⟩
  refine F.ok sc_leads_to_sign (fun vs H Q E h => ?_) (fun cdv A outer s H vs Q E hr h => ?_)
  · obtain ⟨n, b, rfl, _⟩ := h
    rfl
  · obtain ⟨n, b, rfl, hb, k⟩ := h
    refine ⟨_, PSs.nox (pss_cons (ps_for PassesOwn.never rfl (pi_str (glob_ref T rfl)) (pg_name (i := 2) sc_leads_to_sign.nd rfl (.inl rfl))
      (pss_one (ps_if (pt_val (pe_call GI hr rfl (g_is_beginning T) kI bI .nil pass0 (pa_cons (pv 0) (pa_cons (pe_callB call_ord (by rfl) (n_ord T) (by decide +kernel) (pa_cons (pv 2) pa_nil)) (pa_cons (pv 1) pa_nil))))) (pss_one (ps_ret pe_bl)) pss_nil))) (pss_one (ps_ret pe_bl))), ?_⟩
    refine ⟨refS, rfl, for_it walk_str (fun i σ H1 => H1 = H ∧ (∃ v, σ = [some (.int n), some (.int b), v]) ∧ ∀ j c, j < i → refL[j]? = some c → ibN b n c = false) ⟨rfl, ⟨none, rfl⟩, fun j c hj => by omega⟩ (fun _ _ _ _ _ => trivial) ?_ ?_⟩
    · rintro i x σ H1 H2 hi ⟨rfl, ⟨v, rfl⟩, hj⟩ ⟨rfl, c, hc, rfl⟩
      have hc' : refL[i]? = some c := by
        rw [← tl_ref]
        show refS.cps.toList[i]? = some c
        rw [Array.getElem?_toList]
        exact hc
      refine ⟨_, rfl, _, rfl, _, rfl, rfl, _, rfl, n, c, b, rfl, by omega, by omega, _, rfl, ?_⟩
      refine ite2 (fun e => ?_) (fun e => ?_)
      · have kn : leads b n = true := by
          rw [← leads_ib b hb n, List.any_eq_true]
          exact ⟨c, List.mem_of_getElem? hc', e⟩
        rw [kn] at k
        exact k
      · refine ⟨rfl, ⟨_, rfl⟩, fun j c2 hj2 q => ?_⟩
        by_cases z : j = i
        · subst z
          rw [hc'] at q
          cases q
          cases y : ibN b n c with
          | true => exact absurd y e
          | false => rfl
        · exact hj j c2 (by omega) q
    · rintro σ H1 ⟨rfl, ⟨v, rfl⟩, hj⟩
      have kn : leads b n = false := by
        rw [← leads_ib b hb n, List.any_eq_false]
        intro c hc
        obtain ⟨i, hi, e⟩ := List.mem_iff_getElem.mp hc
        have hsz : refS.cps.size = refL.length := by
          rw [← tl_ref]
          simp
        rw [hj i c (by rw [hsz]; exact hi) (by rw [List.getElem?_eq_getElem hi, e])]
        decide
      rw [kn] at k
      exact k
/-- of a text of signs alone: its length -/
def spEnd : Sp := fun vs H Q _ => ∃ z : Str, vs = [.str z] ∧ (∀ c ∈ tl z, isSg c = true) ∧ z.length ≤ sizeLine ∧ ∀ H', Same H H' → Q (.int (z.length : Nat)) H'
theorem ok_end_of_signs (T : Tx w K mg) : Ok P w K mg base CX0 2 (He.fAd K d_end_of_signs.at_) p_end_of_signs spEnd := by
  obtain ⟨fd, F⟩ := f_end_of_signs T
  obtain ⟨fI, GI, bI, kI⟩ := ok_is_sign (P := P) (base := base) T
  refine ⟨fd, ?_, b_end_of_signs F, F.kp⟩
  refine F.ok sc_end_of_signs (fun vs H Q E h => ?_) (fun cdv A outer s H vs Q E hr h => ?_)
  · obtain ⟨z, rfl, _⟩ := h
    rfl
  · obtain ⟨z, rfl, hz, hl, k⟩ := h
    refine ⟨_, PSs.nox (pss_cons (ps_for PassesOwn.never rfl (pi_enumS (by rfl) (n_enumerate T) (pa_cons (pv 0) pa_nil)) (pg_tup (by rfl) (pgs_cons (pg_name (i := 1) sc_end_of_signs.nd rfl (.inl rfl)) (pgs_cons (pg_name (i := 2) sc_end_of_signs.nd rfl (.inl rfl)) pgs_nil)))
      (pss_one (ps_if (pt_not (pt_val (pe_call GI hr rfl (g_is_sign T) kI bI .nil pass0 (pa_cons (pv 2) pa_nil)))) (pss_one (ps_ret (pv 1))) pss_nil))) (pss_one (ps_ret (pe_callB call_len (by rfl) (n_len T) PySem.boot_len (pa_cons (pv 0) pa_nil))))), ?_⟩
    refine ⟨_, rfl, z, rfl, for_it walk_enumS (fun i σ H1 => Same H H1 ∧ ∃ u v, σ = [some (.str z), u, v]) ⟨Same.refl H, none, none, rfl⟩ (fun _ _ _ _ _ => trivial) ?_ ?_⟩
    · rintro i x σ H1 H2 hi ⟨s0, u, v, rfl⟩ ⟨T', c, rfl, hT, rfl, hc⟩
      have hm : isSg c = true := hz c (by
        show c ∈ z.cps.toList
        exact List.mem_of_getElem? (i := i) (by rw [Array.getElem?_toList]; exact hc))
      refine ⟨T', _, rfl, SqT.of upd_same, rfl, _, _, rfl, _, _, rfl, rfl, ?_⟩
      refine ⟨_, rfl, [c], rfl, fun H3 s3 => ⟨_, rfl, ?_⟩⟩
      rw [hB_sg, hm]
      exact iteF ⟨s0.trans ((same_new hT).trans s3), _, _, rfl⟩
    · rintro σ H1 ⟨s0, u, v, rfl⟩
      exact ⟨_, rfl, _, _, rfl, ⟨hl, rfl⟩, k _ s0⟩
end
end K2
/-! K02Scan -/
namespace K2
open PySem PySem.Spec PyProof.Rows L2 TL
/-! ### a scanner -/
abbrev CSc (K : PySem.W.Frag) : Addr := He.ga K "Scanner"
def scF (z : Str) (i : Nat) : List (Str × V) := [("text", .str z), ("at", .int (i : Int))]
theorem at_text : (("at" : Str) == "text") = false := by decide +kernel
theorem text_at : ¬ (("text" : Str) = "at") := by decide +kernel
theorem sc_text {z : Str} {i : Nat} : (scF z i).lookup ("text" : Str) = some (.str z) := by
  unfold scF
  rw [List.lookup_cons, beq_self_eq_true]
theorem sc_at {z : Str} {i : Nat} : (scF z i).lookup ("at" : Str) = some (.int (i : Int)) := by
  unfold scF
  rw [List.lookup_cons, at_text]
  show List.lookup ("at" : Str) [(("at" : Str), V.int (i : Int))] = _
  rw [List.lookup_cons, beq_self_eq_true]
theorem sc_no {z : Str} {i : Nat} {m : Str} (h1 : (m == ("text" : Str)) = false) (h2 : (m == ("at" : Str)) = false) : (scF z i).lookup m = none := by
  unfold scF
  rw [List.lookup_cons, h1]
  show List.lookup m [(("at" : Str), V.int (i : Int))] = _
  rw [List.lookup_cons, h2]
  rfl
theorem sc_put {z : Str} {i : Nat} {n : Int} {j : Nat} (h : n = (j : Int)) : putF "at" (.int n) (scF z i) = scF z j := by
  subst h
  show (if ("text" : Str) = "at" then [(("text" : Str), V.int (j : Int)), _] else (("text" : Str), V.str z) :: (if ("at" : Str) = "at" then [(("at" : Str), V.int (j : Int))] else _)) = _
  rw [if_neg text_at, if_pos rfl]
  rfl
/-- all but p stands -/
def SameB (p : Addr) (H H' : Hp) : Prop := ∀ b o, b ≠ p → H b = some o → H' b = some o
theorem SameB.refl (p : Addr) (H : Hp) : SameB p H H := fun _ _ _ h => h
theorem SameB.trans {p : Addr} {H H1 H2 : Hp} (a : SameB p H H1) (b : SameB p H1 H2) : SameB p H H2 := fun c o n h => b c o n (a c o n h)
theorem SameB.of {p : Addr} {H H1 : Hp} (a : Same H H1) : SameB p H H1 := fun c o _ h => a c o h
theorem SameB.up {p : Addr} {H : Hp} {o : HO} : SameB p H (upd H p o) := fun c o' n h => by rw [upd_ne n]; exact h
theorem SameB.new {p d : Addr} {H : Hp} {o : HO} (h : H d = none) : SameB p H (upd H d o) := .of (same_new h)
/-- the scanner at p: dx its dict, the text z, the place i -/
def At (K : PySem.W.Frag) (H : Hp) (p dx : Addr) (z : Str) (i : Nat) : Prop := H p = some (.ins (CSc K) dx (scF z i))
/-- behind a step: the scanner has moved to j, all else stands -/
def Mv (K : PySem.W.Frag) (H H' : Hp) (p dx : Addr) (z : Str) (j : Nat) : Prop := SameB p H H' ∧ At K H' p dx z j
/-- an error with the place n -/
def Fl (H H' : Hp) (p d : Addr) (n : Nat) : Prop := SameB p H H' ∧ H d = none ∧ ∃ y, H' d = some (.xd [("at", .int (n : Int)), ("why", y)])
theorem Mv.same {K : PySem.W.Frag} {H H1 : Hp} {p dx : Addr} {z : Str} {j : Nat} (a : At K H p dx z j) (s : Same H H1) : Mv K H H1 p dx z j := ⟨.of s, s _ _ a⟩
theorem Mv.trans {K : PySem.W.Frag} {H H1 H2 : Hp} {p dx : Addr} {z : Str} {i j : Nat} (a : Mv K H H1 p dx z i) (b : Mv K H1 H2 p dx z j) : Mv K H H2 p dx z j := ⟨a.1.trans b.1, b.2⟩
theorem SameB.free {p d : Addr} {H H' : Hp} (s : SameB p H H') (hp : H p ≠ none) (hp' : H' p ≠ none) (h : H' d = none) : H d = none := by
  by_cases e : d = p
  · subst e
    exact absurd h hp'
  · cases q : H d with
    | none => rfl
    | some o =>
      have := s d o e q
      rw [h] at this
      cases this
theorem Mv.fl {K : PySem.W.Frag} {H H1 H2 : Hp} {p dx d : Addr} {z : Str} {i n : Nat} (h0 : H p ≠ none) (a : Mv K H H1 p dx z i) (b : Fl H1 H2 p d n) : Fl H H2 p d n :=
  ⟨a.1.trans b.1, a.1.free h0 (by rw [a.2]; intro z; cases z) b.2.1, b.2.2⟩
theorem At.ne {K : PySem.W.Frag} {H : Hp} {p dx : Addr} {z : Str} {i : Nat} (a : At K H p dx z i) : H p ≠ none := by
  rw [a]
  intro z
  cases z
/-- the texts that are read -/
structure Gd (z : Str) : Prop where
  sg : ∀ c ∈ tl z, isSg c = true
  len : z.length ≤ 400000
theorem Gd.lt {z : Str} (g : Gd z) {i : Nat} {c : Nat} {r : List Nat} (h : (tl z).drop i = c :: r) : c < 128 := by
  have m : c ∈ tl z := List.mem_of_mem_drop (i := i) (by rw [h]; exact List.mem_cons_self)
  have := g.sg c m
  unfold isSg at this
  simp only [Bool.or_eq_true, Bool.and_eq_true, decide_eq_true_eq, beq_iff_eq] at this
  omega
theorem Gd.log {z : Str} (g : Gd z) {n : Nat} (h : n ≤ z.length) : ((n : Int)).natAbs.log2 < 1920 := by
  have h1 := g.len
  have h2 : n < 2 ^ 20 := by omega
  rw [Int.natAbs_natCast]
  by_cases h0 : n = 0
  · subst h0
    decide
  · have := (Nat.log2_lt h0).mpr h2
    omega
theorem drop_cons {l : List Nat} {i c : Nat} {r : List Nat} (h : l.drop i = c :: r) : i < l.length ∧ l.drop (i + 1) = r := by
  constructor
  · have := congrArg List.length h
    simp only [List.length_drop, List.length_cons] at this
    omega
  · rw [← List.drop_drop, h]
    rfl
/-- a scanner's method: f what it takes of the rest, v what it hands back -/
def spS (K : PySem.W.Frag) (as : List V) (z : Str) (i : Nat) (f : Nat × Bool) (v : V → Prop) (vs : List V) (H : Hp) (Q : VK) (E : XK) : Prop :=
  ∃ (p dx : Addr), vs = .ref p :: as ∧ At K H p dx z i ∧ Gd z ∧ i ≤ z.length ∧ (f.2 = true → ∀ H' y, v y → Mv K H H' p dx z (i + f.1) → Q y H') ∧
    (f.2 = false → ∀ H' d, Fl H H' p d (i + f.1) → E (.ref (CN K)) (some d) H')
section
variable {P : Program} {w : World} {K : PySem.W.Frag} {mg : Str → Option Value} {base : Heap}
def spScInit (K : PySem.W.Frag) : Sp := fun vs H Q _ => ∃ (p dx : Addr) (z : Str), vs = [.ref p, .str z] ∧ H p = some (.ins (CSc K) dx []) ∧ Q .non (upd (upd H p (.ins (CSc K) dx [("text", .str z)])) p (.ins (CSc K) dx (scF z 0)))
theorem ok_Scanner_init (T : Tx w K mg) : Ok P w K mg base CX0 1 (He.fAd K d_Scanner_init.at_) p_Scanner_init (spScInit K) := by
  obtain ⟨fd, F⟩ := f_Scanner_init T
  refine ⟨fd, ?_, b_Scanner_init F, F.kp⟩
  refine F.ok sc_Scanner_init (fun vs H Q E h => ?_) (fun cdv A outer s H vs Q E hr h => ?_)
  · obtain ⟨p, dx, z, rfl, _⟩ := h
    rfl
  · obtain ⟨p, dx, z, rfl, hp, k⟩ := h
    refine ⟨_, PSs.nox (pss_cons (ps_fld (pv 0) (pv 1) rfl) (pss_one (ps_fld (pv 0) pe_int rfl))), ?_⟩
    refine ⟨_, rfl, _, rfl, p, CSc K, dx, _, rfl, hp, cls_Scanner T, na_Scanner_text T, (by decide), _, rfl, p, CSc K, dx, _, rfl, upd_same, cls_Scanner T, na_Scanner_at T, (by show 1 < 1000; decide), ?_⟩
    exact k
def spPeek (K : PySem.W.Frag) : Sp := fun vs H Q _ => ∃ (p dx : Addr) (z : Str) (i : Nat), vs = [.ref p] ∧ At K H p dx z i ∧ Gd z ∧ Q (.str (sg ((tl z).drop i))) H
theorem ok_peek (T : Tx w K mg) : Ok P w K mg base CX0 1 (He.fAd K d_Scanner_peek.at_) p_Scanner_peek (spPeek K) := by
  obtain ⟨fd, F⟩ := f_Scanner_peek T
  refine ⟨fd, ?_, b_Scanner_peek F, F.kp⟩
  refine F.ok sc_Scanner_peek (fun vs H Q E h => ?_) (fun cdv A outer s H vs Q E hr h => ?_)
  · obtain ⟨p, dx, z, i, rfl, _⟩ := h
    rfl
  · obtain ⟨p, dx, z, i, rfl, hp, g, k⟩ := h
    refine ⟨_, PSs.nox (pss_one (ps_ret (pe_slice sl_str (pe_fld (pv 0) rfl) (po_some (pe_fld (pv 0) rfl)) (po_some (pe_op op_add (pe_fld (pv 0) rfl) pe_int))))), ?_⟩
    refine ⟨_, rfl, p, CSc K, dx, _, _, rfl, hp, cls_Scanner T, na_Scanner_text T, sc_text, _, rfl, p, CSc K, dx, _, _, rfl, hp, cls_Scanner T, na_Scanner_at T, sc_at, _, rfl, _, rfl, p, CSc K, dx, _, _, rfl, hp, cls_Scanner T, na_Scanner_at T, sc_at, _, _, rfl, rfl, _, rfl, ?_⟩
    refine ⟨z, rfl, by have := g.len; rw [sizeLine_eq]; omega, ?_⟩
    rw [cut_one]
    exact k
def spDone (K : PySem.W.Frag) : Sp := fun vs H Q _ => ∃ (p dx : Addr) (z : Str) (i : Nat), vs = [.ref p] ∧ At K H p dx z i ∧ Gd z ∧ Q (.bl (decide (i = z.length))) H
theorem ok_is_done (T : Tx w K mg) : Ok P w K mg base CX0 1 (He.fAd K d_Scanner_is_done.at_) p_Scanner_is_done (spDone K) := by
  obtain ⟨fd, F⟩ := f_Scanner_is_done T
  refine ⟨fd, ?_, b_Scanner_is_done F, F.kp⟩
  refine F.ok sc_Scanner_is_done (fun vs H Q E h => ?_) (fun cdv A outer s H vs Q E hr h => ?_)
  · obtain ⟨p, dx, z, i, rfl, _⟩ := h
    rfl
  · obtain ⟨p, dx, z, i, rfl, hp, g, k⟩ := h
    refine ⟨_, PSs.nox (pss_one (ps_ret (pe_cmpR op_eq (pe_fld (pv 0) rfl) (pe_callB call_len (by rfl) (n_len T) PySem.boot_len (pa_cons (pe_fld (pv 0) rfl) pa_nil)) (nomark _)))), ?_⟩
    refine ⟨_, rfl, p, CSc K, dx, _, _, rfl, hp, cls_Scanner T, na_Scanner_at T, sc_at, _, rfl, p, CSc K, dx, _, _, rfl, hp, cls_Scanner T, na_Scanner_text T, sc_text, _, _, rfl, ⟨by have := g.len; rw [sizeLine_eq]; omega, rfl⟩, rfl, ?_⟩
    have e : decide (V.int (i : Int) = V.int ((z.length : Nat) : Int)) = decide (i = z.length) := by
      by_cases h : i = z.length
      · rw [h]
        simp
      · have h2 : ¬ V.int (i : Int) = V.int ((z.length : Nat) : Int) := fun q => h (by have := V.int.inj q; omega)
        rw [decide_eq_false h, decide_eq_false h2]
    rw [e]
    exact k

/-! ### the next sign against a written one -/
theorem sg_is (l : List Nat) (c : Nat) : decide (V.str (sg l) = V.str ⟨#[c]⟩) = hB (· == c) l := by
  rw [dec_str]
  show decide (l.take 1 = [c]) = _
  cases l with
  | nil => rfl
  | cons d r => exact dec1r c d
theorem sg_lit (l : List Nat) {s : String} {c : Nat} (h : s.toList.map Char.toNat = [c] := by rfl) : decide (V.str (sg l) = V.str (Str.ofString s)) = hB (· == c) l := by
  rw [lit h]
  exact sg_is l c
theorem hB_true {c : Nat} {l : List Nat} (h : hB (· == c) l = true) : ∃ r, l = c :: r := by
  cases l with
  | nil => cases h
  | cons d r =>
    have e : d = c := by simpa [hB] using h
    exact ⟨r, by rw [e]⟩
theorem hB_false {c : Nat} {l : List Nat} (h : ¬ hB (· == c) l = true) : ∀ r, l ≠ c :: r := fun r e => h (by rw [e]; simp [hB])
theorem Mv.up {K : PySem.W.Frag} {H H1 : Hp} {p dx : Addr} {z : Str} {i j : Nat} (m : Mv K H H1 p dx z i) : Mv K H (upd H1 p (.ins (CSc K) dx (scF z j))) p dx z j := ⟨m.1.trans .up, upd_same⟩
theorem Mv.raise {K : PySem.W.Frag} {H H1 : Hp} {p dx d : Addr} {y : V} {z : Str} {i n : Nat} (h0 : H p ≠ none) (m : Mv K H H1 p dx z i) (hd : H1 d = none) : Fl H (upd H1 d (.xd [("at", .int (n : Int)), ("why", y)])) p d n :=
  ⟨m.1.trans (.new hd), m.1.free h0 m.2.ne hd, y, upd_same⟩
theorem inc_ok {C p dx : Addr} {H : Hp} {z : Str} {i : Nat} {R : Hp → Prop} (h : R (upd H p (.ins C dx (scF z (i + 1))))) : R (upd H p (.ins C dx (putF "at" (.int ((i : Int) + 1)) (scF z i)))) := by
  rw [sc_put (j := i + 1) (by omega)]
  exact h
section
variable {P : Program} {w : World} {K : PySem.W.Frag} {mg : Str → Option Value} {base : Heap}
theorem exN_nil (d : Nat) (ds : List Nat) : exN (d :: ds) [] = (0, false) := rfl
theorem exN_cons (d : Nat) (ds : List Nat) (c : Nat) (r : List Nat) : exN (d :: ds) (c :: r) = if c = d then ((exN ds r).1 + 1, (exN ds r).2) else (0, false) := rfl
def spExpect (K : PySem.W.Frag) : Sp := fun vs H Q E => ∃ (z W : Str) (i : Nat), spS K [.str W] z i (exN (tl W) ((tl z).drop i)) (· = .non) vs H Q E
theorem ok_expect (T : Tx w K mg) : Ok P w K mg base (L2.CX P w) 4 (He.fAd K d_Scanner_expect.at_) p_Scanner_expect (spExpect K) := by
  obtain ⟨fd, F⟩ := f_Scanner_expect T
  obtain ⟨fP, GP, bP, kP⟩ := ok_peek (P := P) (base := base) T
  refine ⟨fd, ?_, b_Scanner_expect F, F.kp⟩
  refine F.ok sc_Scanner_expect (fun vs H Q E h => ?_) (fun cdv A outer s H vs Q E hr h => ?_)
  · obtain ⟨z, W, i, p, dx, rfl, _⟩ := h
    rfl
  · obtain ⟨z, W, i, p, dx, rfl, a, g, hi, kok, kno⟩ := h
    refine ⟨_, pss_one (ps_for (passes_of rfl) rfl (pi_str (pv 1)) (pg_name (i := 2) sc_Scanner_expect.nd rfl (.inl rfl))
      (pss_cons (ps_if (pt_cmpR op_ne (pe_meth0 (E := E0) (pv 0) (cls_Scanner T) (m_Scanner_peek T) GP (hr.mono (by decide)) bP .nil pass0) (pv 2) (nomark _))
        (pss_one (ps_raise rfl (takes_of rfl rfl rfl rfl) (pmk_nd T (hr.mono (by decide)) (pa_cons (pe_fld (pv 0) rfl) pa_nil)))) pss_nil)
      (pss_one (ps_fldaug (pv 0) pe_int ip_add)))), ?_⟩
    have hlen : z.length = (tl z).length := len_tl z
    refine ⟨_, rfl, W, rfl, for_it walk_str (fun k σ H1 => Mv K H H1 p dx z (i + k) ∧ (∃ v, σ = [some (.ref p), some (.str W), v]) ∧ i + k ≤ z.length ∧
      exN (tl W) ((tl z).drop i) = ((exN ((tl W).drop k) ((tl z).drop (i + k))).1 + k, (exN ((tl W).drop k) ((tl z).drop (i + k))).2)) ⟨Mv.same a (Same.refl H), ⟨none, rfl⟩, hi, rfl⟩ (fun _ _ _ _ _ => trivial) ?_ ?_⟩
    · rintro k x σ H1 H2 hk ⟨m, ⟨v, rfl⟩, hb, e⟩ ⟨rfl, c, hc, rfl⟩
      have hW : (tl W).drop k = c :: (tl W).drop (k + 1) := by
        have h1 : (tl W)[k]? = some c := by
          show W.cps.toList[k]? = some c
          rw [Array.getElem?_toList]
          exact hc
        have h2 : k < (tl W).length := by
          cases q : (tl W)[k]? with
          | none => rw [q] at h1; cases h1
          | some y => exact (List.getElem?_eq_some_iff.mp q).1
        rw [List.drop_eq_getElem_cons h2]
        congr 1
        rw [List.getElem?_eq_getElem h2] at h1
        exact Option.some.inj h1
      refine ⟨_, rfl, p, dx, _, rfl, m.2, sc_no (by decide +kernel) (by decide +kernel), p, dx, z, _, rfl, m.2, g, ?_⟩
      refine ⟨_, rfl, rfl, _, rfl, ?_⟩
      show if (!decide (V.str (sg ((tl z).drop (i + k))) = V.str ⟨#[c]⟩)) = true then _ else _
      rw [sg_is]
      refine ite2 (fun q => ?_) (fun q => ?_)
      · have q1 : ¬ hB (· == c) ((tl z).drop (i + k)) = true := by
          intro z2
          rw [z2] at q
          cases q
        have e2 : exN (tl W) ((tl z).drop i) = (k, false) := by
          rw [e, hW]
          cases y : (tl z).drop (i + k) with
          | nil => simp [exN]
          | cons d r =>
            have : ¬ d = c := fun z3 => hB_false q1 r (by rw [y, z3])
            simp [exN, this]
        refine ⟨_, rfl, p, CSc K, dx, _, _, rfl, m.2, cls_Scanner T, na_Scanner_at T, sc_at, (nd_ok (g.log hb) fun d y hd => ?_)⟩
        rw [e2] at kno
        exact kno rfl _ d (m.raise a.ne hd)
      · have q1 : hB (· == c) ((tl z).drop (i + k)) = true := by
          cases y : hB (· == c) ((tl z).drop (i + k)) with
          | true => rfl
          | false =>
            rw [y] at q
            exact absurd rfl q
        obtain ⟨r, hr2⟩ := hB_true q1
        obtain ⟨h1, h2⟩ := drop_cons hr2
        refine ⟨_, rfl, p, CSc K, dx, _, _, rfl, m.2, cls_Scanner T, na_Scanner_at T, sc_at, _, _, rfl, rfl, dx, _, m.2, (by show 2 < 1000; decide), inc_ok ?_⟩
        refine ⟨m.up, ⟨_, rfl⟩, by omega, ?_⟩
        rw [e, hW, hr2, exN_cons, if_pos rfl, show i + (k + 1) = i + k + 1 by omega, h2]
        dsimp only
        rw [show (exN ((tl W).drop (k + 1)) r).1 + 1 + k = (exN ((tl W).drop (k + 1)) r).1 + (k + 1) by omega]
    · rintro σ H1 ⟨m, ⟨v, rfl⟩, hb, e⟩
      have hW : (tl W).drop W.cps.size = [] := by
        rw [show W.cps.size = (tl W).length by simp]
        exact List.drop_length
      rw [hW] at e
      have e2 : exN (tl W) ((tl z).drop i) = (W.cps.size, true) := by
        rw [e]
        simp [exN]
      rw [e2] at kok
      exact kok rfl _ _ rfl m
end
end
end K2
/-! K02Sc2 -/
namespace K2
open PySem PySem.Spec PyProof.Rows L2 TL
section
variable {P : Program} {w : World} {K : PySem.W.Frag} {mg : Str → Option Value} {base : Heap}
theorem blN_nil : blN [] = 0 := rfl
theorem blN_cons (c : Nat) (r : List Nat) : blN (c :: r) = if isBl c then blN r + 1 else 0 := by
  unfold blN
  rw [List.takeWhile_cons]
  cases isBl c <;> simp
theorem wdN_cons (c : Nat) (r : List Nat) : wdN (c :: r) = if isWd c then wdN r + 1 else 0 := by
  unfold wdN
  rw [List.takeWhile_cons]
  cases isWd c <;> simp
theorem wrN_cons (c : Nat) (r : List Nat) : wrN (c :: r) = if isLt c then (1 + wdN r, true) else (0, false) := rfl
theorem hB_cases (p : Nat → Bool) (l : List Nat) : (hB p l = true ∧ ∃ c r, l = c :: r ∧ p c = true) ∨ (hB p l = false ∧ (l = [] ∨ ∃ c r, l = c :: r ∧ p c = false)) := by
  cases l with
  | nil => exact .inr ⟨rfl, .inl rfl⟩
  | cons c r =>
    cases e : p c with
    | true => exact .inl ⟨e, c, r, rfl, e⟩
    | false => exact .inr ⟨e, .inr ⟨c, r, rfl, e⟩⟩
theorem SameB.mv {K : PySem.W.Frag} {H H1 H2 : Hp} {p dx : Addr} {z : Str} {j : Nat} (m : Mv K H H1 p dx z j) (s : Same H1 H2) : Mv K H H2 p dx z j := ⟨m.1.trans (.of s), s _ _ m.2⟩
/-- while p(self.peek()): self.at += 1 -/
theorem walk_while (T : Tx w K mg) {pr : Nat → Bool} {n : List Nat → Nat} (hn : n [] = 0) (hc : ∀ c r, n (c :: r) = if pr c then n r + 1 else 0) {H : Hp} {p dx : Addr} {z : Str} {i : Nat} {rest : L2.St} {D : Ends} {c : TT} {tb : TS}
    (a : At K H p dx z i) (g : Gd z) (hi : i ≤ z.length)
    (ht : ∀ H1 j (Q : Bool → Hp → Prop), At K H1 p dx z j → (∀ H2, Same H1 H2 → Q (hB pr ((tl z).drop j)) H2) → c (some (.ref p) :: rest) H1 Q)
    (hb : ∀ H1 j D, At K H1 p dx z j → D.nx (some (.ref p) :: rest) (upd H1 p (.ins (CSc K) dx (scF z (j + 1)))) → tb D (some (.ref p) :: rest) H1)
    (hD : ∀ H1, Mv K H H1 p dx z (i + n ((tl z).drop i)) → D.nx (some (.ref p) :: rest) H1) : tWhile c tb D (some (.ref p) :: rest) H := by
  refine ⟨fun m σ H1 => ∃ j, m = z.length - j ∧ σ = some (.ref p) :: rest ∧ j ≤ z.length ∧ Mv K H H1 p dx z j ∧ j + n ((tl z).drop j) = i + n ((tl z).drop i), ⟨z.length - i, i, rfl, rfl, hi, Mv.same a (Same.refl H), rfl⟩, ?_⟩
  rintro m σ H1 ⟨j, rfl, rfl, hj, mv, e⟩
  refine ht H1 j _ mv.2 fun H2 s2 => ?_
  rcases hB_cases pr ((tl z).drop j) with ⟨h1, c, r, h2, h3⟩ | ⟨h1, h2⟩
  · rw [h1, if_pos rfl]
    have hl := drop_cons h2
    have hlen : z.length = (tl z).length := len_tl z
    refine ⟨fun σ' H' => σ' = some (.ref p) :: rest ∧ Mv K H H' p dx z (j + 1), ?_, ?_⟩
    · rintro σ' H' ⟨rfl, mv'⟩
      refine ⟨z.length - (j + 1), by omega, j + 1, rfl, rfl, by omega, mv', ?_⟩
      rw [← e, h2, hc, h3, if_pos rfl, hl.2]
      omega
    · exact hb H2 j _ (s2 _ _ mv.2) ⟨rfl, (SameB.mv mv s2).up⟩
  · rw [h1, if_neg Bool.false_ne_true]
    have e0 : n ((tl z).drop j) = 0 := by
      rcases h2 with h2 | ⟨c, r, h2, h3⟩
      · rw [h2, hn]
      · rw [h2, hc, h3, if_neg Bool.false_ne_true]
    refine hD H2 ?_
    rw [← e, e0]
    exact SameB.mv mv s2
def spBlanks (K : PySem.W.Frag) : Sp := fun vs H Q E => ∃ (z : Str) (i : Nat), spS K [] z i (blN ((tl z).drop i), true) (· = .bl (decide (0 < blN ((tl z).drop i)))) vs H Q E
theorem ok_read_blanks (T : Tx w K mg) : Ok P w K mg base CX0 3 (He.fAd K d_Scanner_read_blanks.at_) p_Scanner_read_blanks (spBlanks K) := by
  obtain ⟨fd, F⟩ := f_Scanner_read_blanks T
  obtain ⟨fP, GP, bP, kP⟩ := ok_peek (P := P) (base := base) T
  obtain ⟨fI, GI, bI, kI⟩ := ok_is_blank (P := P) (base := base) T
  refine ⟨fd, ?_, b_Scanner_read_blanks F, F.kp⟩
  refine F.ok sc_Scanner_read_blanks (fun vs H Q E h => ?_) (fun cdv A outer s H vs Q E hr h => ?_)
  · obtain ⟨z, i, p, dx, rfl, _⟩ := h
    rfl
  · obtain ⟨z, i, p, dx, rfl, a, g, hi, kok, _⟩ := h
    refine ⟨_, PSs.nox (pss_cons (ps_set (i := 1) sc_Scanner_read_blanks.nd rfl (.inl rfl) (pe_fld (pv 0) rfl))
      (pss_cons (ps_while PassesOwn.never (pt_val (pe_call (E := E0) GI (hr.mono (by decide)) rfl (g_is_blank T) kI bI .nil pass0 (pa_cons (pe_meth0 (E := E0) (pv 0) (cls_Scanner T) (m_Scanner_peek T) GP (hr.mono (by decide)) bP .nil pass0) pa_nil))) (pss_one (ps_fldaug (pv 0) pe_int ip_add)))
      (pss_one (ps_ret (pe_cmpR op_gt (pe_fld (pv 0) rfl) (pv 1) (nomark _)))))), ?_⟩
    refine ⟨_, rfl, p, CSc K, dx, _, _, rfl, a, cls_Scanner T, na_Scanner_at T, sc_at, ?_⟩
    refine walk_while T (pr := isBl) blN_nil blN_cons (rest := [some (V.int (i : Int))]) a g hi (fun H1 j Q a1 k => ?_) (fun H1 j D a1 k => ?_) (fun H1 m => ?_)
    · refine ⟨_, rfl, p, dx, _, rfl, a1, sc_no (by decide +kernel) (by decide +kernel), p, dx, z, _, rfl, a1, g, _, rfl, fun H2 s2 => ⟨_, rfl, k H2 s2⟩⟩
    · exact ⟨_, rfl, p, CSc K, dx, _, _, rfl, a1, cls_Scanner T, na_Scanner_at T, sc_at, _, _, rfl, rfl, dx, _, a1, (by show 2 < 1000; decide), inc_ok k⟩
    · refine ⟨_, rfl, p, CSc K, dx, _, _, rfl, m.2, cls_Scanner T, na_Scanner_at T, sc_at, _, rfl, _, _, rfl, rfl, ?_⟩
      have e : decide ((i : Int) < ((i + blN ((tl z).drop i) : Nat) : Int)) = decide (0 < blN ((tl z).drop i)) := by
        by_cases h : 0 < blN ((tl z).drop i)
        · rw [decide_eq_true h, decide_eq_true (by omega)]
        · rw [decide_eq_false h, decide_eq_false (by omega)]
      refine kok rfl _ _ ?_ m
      show V.bl (decide ((i : Int) < ((i + blN ((tl z).drop i) : Nat) : Int))) = _
      rw [e]
def spWord (K : PySem.W.Frag) : Sp := fun vs H Q E => ∃ (z : Str) (i : Nat), spS K [] z i (wrN ((tl z).drop i)) (· = .non) vs H Q E
theorem ok_read_word (T : Tx w K mg) : Ok P w K mg base (L2.CX P w) 4 (He.fAd K d_Scanner_read_word.at_) p_Scanner_read_word (spWord K) := by
  obtain ⟨fd, F⟩ := f_Scanner_read_word T
  obtain ⟨fP, GP, bP, kP⟩ := ok_peek (P := P) (base := base) T
  obtain ⟨fB, GB, bB, kB⟩ := ok_begins_word (P := P) (base := base) T
  obtain ⟨fG, GG, bG, kG⟩ := ok_goes_on_in_word (P := P) (base := base) T
  refine ⟨fd, ?_, b_Scanner_read_word F, F.kp⟩
  refine F.ok sc_Scanner_read_word (fun vs H Q E h => ?_) (fun cdv A outer s H vs Q E hr h => ?_)
  · obtain ⟨z, i, p, dx, rfl, _⟩ := h
    rfl
  · obtain ⟨z, i, p, dx, rfl, a, g, hi, kok, kno⟩ := h
    refine ⟨_, pss_cons (ps_if (pt_not (pt_val (pe_call (E := E0) GB (hr.mono (by decide)) rfl (g_begins_word T) kB bB .nil pass0 (pa_cons (pe_meth0 (E := E0) (pv 0) (cls_Scanner T) (m_Scanner_peek T) GP (hr.mono (by decide)) bP .nil pass0) pa_nil)))) (pss_one (ps_raise rfl (takes_of rfl rfl rfl rfl) (pmk_nd T (hr.mono (by decide)) (pa_cons (pe_fld (pv 0) rfl) pa_nil)))) pss_nil)
      (pss_one (ps_while (passes_of rfl) (pt_val (pe_call (E := E0) GG (hr.mono (by decide)) rfl (g_goes_on_in_word T) kG bG .nil pass0 (pa_cons (pe_meth0 (E := E0) (pv 0) (cls_Scanner T) (m_Scanner_peek T) GP (hr.mono (by decide)) bP .nil pass0) pa_nil))) (pss_one (ps_fldaug (pv 0) pe_int ip_add)))), ?_⟩
    refine ⟨_, rfl, p, dx, _, rfl, a, sc_no (by decide +kernel) (by decide +kernel), p, dx, z, _, rfl, a, g, _, rfl, fun c r e => g.lt e, fun H2 s2 => ⟨_, rfl, ?_⟩⟩
    have a2 : At K H2 p dx z i := s2 _ _ a
    rcases hB_cases isLt ((tl z).drop i) with ⟨h1, c, r, h2, h3⟩ | ⟨h1, h2⟩
    · rw [h1]
      refine iteF ?_
      have hw : isWd c = true := by simp [isWd, h3]
      refine walk_while T (pr := isWd) (n := wdN) rfl wdN_cons (rest := []) a2 g hi (fun H1 j Q a1 k => ?_) (fun H1 j D a1 k => ?_) (fun H1 m => ?_)
      · refine ⟨_, rfl, p, dx, _, rfl, a1, sc_no (by decide +kernel) (by decide +kernel), p, dx, z, _, rfl, a1, g, _, rfl, fun c r e => g.lt e, fun H2 s2 => ⟨_, rfl, k H2 s2⟩⟩
      · exact ⟨_, rfl, p, CSc K, dx, _, _, rfl, a1, cls_Scanner T, na_Scanner_at T, sc_at, _, _, rfl, rfl, dx, _, a1, (by show 2 < 1000; decide), inc_ok k⟩
      · have e : wrN ((tl z).drop i) = (wdN ((tl z).drop i), true) := by
          rw [h2, wdN_cons, hw]
          rw [wrN_cons, if_pos h3, if_pos rfl, Nat.add_comm]
        rw [e] at kok
        exact kok rfl _ _ rfl ((Mv.same a s2).trans m)
    · rw [h1]
      refine iteT ?_
      have e : wrN ((tl z).drop i) = (0, false) := by
        rcases h2 with h2 | ⟨c, r, h2, h3⟩
        · rw [h2]
          rfl
        · rw [h2]
          rw [wrN_cons, if_neg (by rw [h3]; exact Bool.false_ne_true)]
      rw [e] at kno
      refine ⟨_, rfl, p, CSc K, dx, _, _, rfl, a2, cls_Scanner T, na_Scanner_at T, sc_at, nd_ok (g.log hi) fun d y hd => ?_⟩
      exact kno rfl _ d ((Mv.same a s2).raise a.ne hd)
def spName (K : PySem.W.Frag) : Sp := fun vs H Q E => ∃ (z : Str) (i : Nat), spS K [] z i (nmN ((tl z).drop i)) (· = .str (mkS (((tl z).drop i).take (nmN ((tl z).drop i)).1))) vs H Q E
end
end K2
/-! K02Fd -/
namespace K2
open PySem PySem.Spec PyProof.Rows L2 TL
theorem fdN_some {S : List Nat} : ∀ {l : List Nat} {j : Nat}, fdN S l = some j → (l.drop j).take S.length = S ∧ ∀ k, k < j → (l.drop k).take S.length ≠ S
  | [], j, h => by
    unfold fdN at h
    split at h
    · rename_i e
      cases h
      subst e
      exact ⟨rfl, fun k hk => by omega⟩
    · cases h
  | c :: r, j, h => by
    unfold fdN at h
    split at h
    · rename_i e
      cases h
      exact ⟨e, fun k hk => by omega⟩
    · rename_i e
      cases q : fdN S r with
      | none => rw [q] at h; cases h
      | some m =>
        rw [q] at h
        cases h
        obtain ⟨h1, h2⟩ := fdN_some q
        refine ⟨h1, fun k hk => ?_⟩
        cases k with
        | zero => exact e
        | succ k =>
          have hk' : k + 1 < m + 1 := hk
          exact h2 k (by omega)
theorem fdN_none {S : List Nat} (hS : S ≠ []) : ∀ {l : List Nat}, fdN S l = none → ∀ k, (l.drop k).take S.length ≠ S
  | [], h, k => by
    intro e
    simp at e
    exact hS e
  | c :: r, h, k => by
    unfold fdN at h
    split at h
    · cases h
    · rename_i e
      have q : fdN S r = none := by
        cases q : fdN S r with
        | none => rfl
        | some m => rw [q] at h; cases h
      cases k with
      | zero => exact e
      | succ k => exact fdN_none hS q k
theorem fdN_of {S l : List Nat} {j : Nat} (hS : S ≠ []) (h1 : (l.drop j).take S.length = S) (h2 : ∀ k, k < j → (l.drop k).take S.length ≠ S) : fdN S l = some j := by
  cases q : fdN S l with
  | none => exact absurd h1 (fdN_none hS q j)
  | some m =>
    obtain ⟨a, b⟩ := fdN_some q
    have : m = j := by
      rcases Nat.lt_trichotomy m j with h | h | h
      · exact absurd a (h2 m h)
      · exact h
      · exact absurd h1 (b j h)
    rw [this]
open StrLaws Builtin.Str in
theorem occ_fd (x y : Str) (lo hi : Nat) (h1 : lo ≤ hi) (h2 : hi ≤ x.length) (hy : tl y ≠ []) :
    (fdN (tl y) (((tl x).drop lo).take (hi - lo)) = none ∧ occurrences x y lo hi 1 = []) ∨ ∃ j r, fdN (tl y) (((tl x).drop lo).take (hi - lo)) = some j ∧ occurrences x y lo hi 1 = (lo + j) :: r := by
  have hx := len_tl x
  have hl := len_tl y
  have hp : 0 < (tl y).length := List.length_pos_iff.mpr hy
  have conv : ∀ j, ((((tl x).drop lo).take (hi - lo)).drop j).take (tl y).length = tl y ↔ StrLaws.At x y hi (lo + j) := by
    intro j
    unfold StrLaws.At
    rw [subAt_eq, beq_iff_eq]
    show _ ↔ _ ∧ ((tl x).drop (lo + j)).take y.length = tl y
    rw [hl, List.drop_take, List.drop_drop, List.take_take]
    constructor
    · intro e
      have e1 := congrArg List.length e
      rw [List.length_take, List.length_drop] at e1
      have e2 : min (tl y).length (hi - lo - j) = (tl y).length := by omega
      rw [e2] at e
      exact ⟨by omega, e⟩
    · rintro ⟨a, b⟩
      rw [Nat.min_eq_left (by omega)]
      exact b
  rw [occ_eq]
  rcases occ_first x y hi 1 (Nat.le_refl _) (List.range' lo (hi + 1 - lo)) lo (fun i h => by simp [List.mem_range'] at h; omega) with ⟨h0, hn⟩ | ⟨pre, a, post, e, h0, ha, hn⟩
  · refine .inl ⟨?_, by rw [h0]⟩
    cases q : fdN (tl y) (((tl x).drop lo).take (hi - lo)) with
    | none => rfl
    | some j =>
      have z := (conv j).mp (fdN_some q).1
      have z2 := z.1
      exact absurd z (hn (lo + j) (by simp [List.mem_range']; omega))
  · have hmem : a ∈ List.range' lo (hi + 1 - lo) := by rw [e]; simp
    have hlo : lo ≤ a := by simp [List.mem_range'] at hmem; omega
    have hall : ∀ k, lo ≤ k → k < a → k ∈ pre := by
      intro k k1 k2
      have hL : hi + 1 - lo = pre.length + (post.length + 1) := by
        have := congrArg List.length e
        simpa using this
      have hlen : lo + pre.length = a := by
        have h1 : (List.range' lo (hi + 1 - lo))[pre.length]? = some a := by rw [e]; simp
        rw [List.getElem?_range'] at h1
        · simpa using h1
        · omega
      have h2 : (List.range' lo (hi + 1 - lo))[k - lo]? = pre[k - lo]? := by rw [e, List.getElem?_append_left (by omega)]
      rw [List.getElem?_range'] at h2
      · have h3 : pre[k - lo]? = some k := by
          rw [← h2]
          simp
          omega
        exact List.mem_of_getElem? h3
      · omega
    refine .inr ⟨a - lo, ((forIn (List.range' lo (hi + 1 - lo)) ((#[] : Array Nat), lo) (occBody x y hi 1)).run.fst.toList).tail, ?_, ?_⟩
    · refine fdN_of hy ((conv _).mpr (by rw [show lo + (a - lo) = a by omega]; exact ha)) fun k hk z => ?_
      exact hn (lo + k) (hall _ (by omega) (by omega)) ((conv k).mp z)
    · rw [show lo + (a - lo) = a by omega]
      generalize (forIn (List.range' lo (hi + 1 - lo)) ((#[] : Array Nat), lo) (occBody x y hi 1)).run.fst = arr at h0
      have h1 : arr.toList[0]? = some a := by simpa using h0
      cases hL : arr.toList with
      | nil => rw [hL] at h1; cases h1
      | cons b t => rw [hL] at h1; simp at h1; rw [h1]; rfl
open Builtin.Str in
theorem from_nat (n i : Nat) (h : i ≤ n) : fromIndex n (i : Int) = i := by
  unfold fromIndex
  split <;> omega
open Builtin.Str in
theorem to_nat (n i : Nat) (h : i ≤ n) : toIndexW n (i : Int) = i := by
  unfold toIndexW
  split <;> omega
/-- text.find(sub, i) -/
theorem find3_fd (x y : Str) (i : Nat) (h : i ≤ x.length) (hy : tl y ≠ []) : Txt.find3 x y (i : Int) = match fdN (tl y) ((tl x).drop i) with
    | some j => ((i + j : Nat) : Int)
    | none => -1 := by
  have e : ((tl x).drop i).take (x.length - i) = (tl x).drop i := List.take_of_length_le (by rw [List.length_drop, len_tl x]; omega)
  unfold Txt.find3
  rw [from_nat _ _ h]
  rcases occ_fd x y i x.length h (Nat.le_refl _) hy with ⟨h1, h2⟩ | ⟨j, r, h1, h2⟩
  · rw [e] at h1
    rw [h1, h2]
  · rw [e] at h1
    rw [h1, h2]
/-- text.find(sub, i, j) -/
theorem find4_fd (x y : Str) (i j : Nat) (h : i ≤ j) (h2 : j ≤ x.length) (hy : tl y ≠ []) : Txt.findIn x y (i : Int) (j : Int) = match fdN (tl y) (((tl x).drop i).take (j - i)) with
    | some m => ((i + m : Nat) : Int)
    | none => -1 := by
  unfold Txt.findIn
  rw [from_nat _ _ (by omega), to_nat _ _ h2]
  rcases occ_fd x y i j h h2 hy with ⟨h1, h2⟩ | ⟨m, r, h1, h2⟩
  · rw [h1, h2]
  · rw [h1, h2]
/-- text.startswith(sub, i) -/
theorem starts3 (x y : Str) (i : Nat) (h : i ≤ x.length) : Txt.startswith3 x y (i : Int) = decide (((tl x).drop i).take (tl y).length = tl y) := by
  unfold Txt.startswith3
  rw [from_nat _ _ h, StrLaws.subAt_eq, ← len_tl y]
  show (decide _ && (((tl x).drop i).take y.length == tl y)) = _
  by_cases q : ((tl x).drop i).take y.length = tl y
  · have e := congrArg List.length q
    rw [List.length_take, List.length_drop, ← len_tl x, ← len_tl y] at e
    rw [decide_eq_true q, q, decide_eq_true (by omega)]
    simp
  · rw [decide_eq_false q, show (((tl x).drop i).take y.length == tl y) = false by simp [q], Bool.and_false]
end K2
/-! K02Sc3 -/
namespace K2
open PySem PySem.Spec PyProof.Rows L2 TL
theorem nm_bad {l : List Nat} (h : (wrN l).2 = false) : nmN l = ((wrN l).1, false) := by
  unfold nmN
  cases e : wrN l with
  | mk n b =>
    rw [e] at h
    cases h
    rfl
theorem nm_colon {l : List Nat} (h : (wrN l).2 = true) (hc : (l.drop (wrN l).1).head? = some 58) : nmN l = ((wrN l).1 + 1 + (wrN (l.drop ((wrN l).1 + 1))).1, (wrN (l.drop ((wrN l).1 + 1))).2) := by
  unfold nmN
  cases e : wrN l with
  | mk n b =>
    rw [e] at h hc
    cases h
    dsimp only at hc ⊢
    rw [if_pos hc]
theorem nm_plain {l : List Nat} (h : (wrN l).2 = true) (hc : ¬ (l.drop (wrN l).1).head? = some 58) : nmN l = ((wrN l).1, true) := by
  unfold nmN
  cases e : wrN l with
  | mk n b =>
    rw [e] at h hc
    cases h
    dsimp only at hc ⊢
    rw [if_neg hc]
theorem Fl.eq {H H' : Hp} {p d : Addr} {n m : Nat} (f : Fl H H' p d n) (h : n = m) : Fl H H' p d m := h ▸ f
theorem Mv.eq {K : PySem.W.Frag} {H H1 : Hp} {p dx : Addr} {z : Str} {i j : Nat} (m : Mv K H H1 p dx z i) (h : i = j) : Mv K H H1 p dx z j := h ▸ m
section
variable {P : Program} {w : World} {K : PySem.W.Frag} {mg : Str → Option Value} {base : Heap}
theorem ok_read_name (T : Tx w K mg) : Ok P w K mg base (L2.CX P w) 5 (He.fAd K d_Scanner_read_name.at_) p_Scanner_read_name (spName K) := by
  obtain ⟨fd, F⟩ := f_Scanner_read_name T
  obtain ⟨fP, GP, bP, kP⟩ := ok_peek (P := P) (base := base) T
  obtain ⟨fW, GW, bW, kW⟩ := ok_read_word (P := P) (base := base) T
  refine ⟨fd, ?_, b_Scanner_read_name F, F.kp⟩
  refine F.ok sc_Scanner_read_name (fun vs H Q E h => ?_) (fun cdv A outer s H vs Q E hr h => ?_)
  · obtain ⟨z, i, p, dx, rfl, _⟩ := h
    rfl
  · obtain ⟨z, i, p, dx, rfl, a, g, hi, kok, kno⟩ := h
    have hlen : z.length = (tl z).length := len_tl z
    refine ⟨_, pss_cons (ps_set (i := 1) sc_Scanner_read_name.nd rfl (.inl rfl) (pe_fld (pv 0) rfl))
      (pss_cons (ps_expr (pe_meth0 (E := E) (pv 0) (cls_Scanner T) (m_Scanner_read_word T) GW hr bW .nil (passes_call (takes_of rfl rfl rfl rfl) (fun _ _ _ _ h => h))))
      (pss_cons (ps_if (pt_cmpR op_eq (pe_meth0 (E := E0) (pv 0) (cls_Scanner T) (m_Scanner_peek T) GP (hr.mono (by decide)) bP .nil pass0) pe_str (nomark _)) (pss_cons (ps_fldaug (pv 0) pe_int ip_add) (pss_one (ps_expr (pe_meth0 (E := E) (pv 0) (cls_Scanner T) (m_Scanner_read_word T) GW hr bW .nil (passes_call (takes_of rfl rfl rfl rfl) (fun _ _ _ _ h => h)))))) pss_nil)
      (pss_one (ps_ret (pe_slice sl_str (pe_fld (pv 0) rfl) (po_some (pv 1)) (po_some (pe_fld (pv 0) rfl))))))), ?_⟩
    have fin : ∀ H1 n, Mv K H H1 p dx z (i + n) → nmN ((tl z).drop i) = (n, true) → Q (.str (cutS z (some (i : Int)) (some ((i + n : Nat) : Int)))) H1 := by
      intro H1 n m e
      rw [cut_nat, show i + n - i = n by omega]
      rw [e] at kok
      exact kok rfl _ _ rfl m
    have ret : ∀ H1 n, Mv K H H1 p dx z (i + n) → nmN ((tl z).drop i) = (n, true) → (tRet (tSl rSlS (tFld K (tVar 0) "text") (tPart (tVar 1)) (tPart (tFld K (tVar 0) "at")))) { nx := fun x H' => Q V.non H', rt := Q } [some (.ref p), some (.int (i : Int))] H1 := by
      intro H1 n m e
      exact ⟨_, rfl, p, CSc K, dx, _, _, rfl, m.2, cls_Scanner T, na_Scanner_text T, sc_text, _, rfl, _, rfl, _, rfl, p, CSc K, dx, _, _, rfl, m.2, cls_Scanner T, na_Scanner_at T, sc_at, _, rfl, z, rfl, by have := g.len; rw [sizeLine_eq]; omega, fin H1 n m e⟩
    refine ⟨_, rfl, p, CSc K, dx, _, _, rfl, a, cls_Scanner T, na_Scanner_at T, sc_at, _, rfl, p, dx, _, rfl, a, sc_no (by decide +kernel) (by decide +kernel), z, i, p, dx, rfl, a, g, hi, fun e1 H1 y hy m => ?_, fun e1 H1 d f => ?_⟩
    · refine ⟨_, rfl, p, dx, _, rfl, m.2, sc_no (by decide +kernel) (by decide +kernel), p, dx, z, _, rfl, m.2, g, rfl, _, rfl, ?_⟩
      rw [sg_lit _ (c := 58)]
      have hd : (tl z).drop (i + (wrN ((tl z).drop i)).1) = ((tl z).drop i).drop (wrN ((tl z).drop i)).1 := by rw [List.drop_drop]
      refine ite2 (fun q => ?_) (fun q => ?_)
      · obtain ⟨r, hr2⟩ := hB_true q
        have hdc := drop_cons hr2
        have hc : (((tl z).drop i).drop (wrN ((tl z).drop i)).1).head? = some 58 := by rw [← hd, hr2]; rfl
        have en := nm_colon e1 hc
        have hd2 : ((tl z).drop i).drop ((wrN ((tl z).drop i)).1 + 1) = (tl z).drop (i + (wrN ((tl z).drop i)).1 + 1) := by rw [List.drop_drop, Nat.add_assoc]
        rw [hd2] at en
        refine ⟨_, rfl, p, CSc K, dx, _, _, rfl, m.2, cls_Scanner T, na_Scanner_at T, sc_at, _, _, rfl, rfl, dx, _, m.2, (by show 2 < 1000; decide), inc_ok ?_⟩
        have m2 := m.up (j := i + (wrN ((tl z).drop i)).1 + 1)
        refine ⟨_, rfl, p, dx, _, rfl, m2.2, sc_no (by decide +kernel) (by decide +kernel), z, _, p, dx, rfl, m2.2, g, by omega, fun e3 H3 y3 hy3 m3 => ?_, fun e3 H3 d f => ?_⟩
        · rw [e3] at en
          exact ret H3 _ ((m2.trans m3).eq (by omega)) en
        · rw [e3] at en
          rw [en] at kno
          exact kno rfl _ d ((m2.fl a.ne f).eq (by show _ = i + (_ + 1 + _); omega))
      · have hc : ¬ (((tl z).drop i).drop (wrN ((tl z).drop i)).1).head? = some 58 := by
          intro q2
          rw [← hd] at q2
          cases y : (tl z).drop (i + (wrN ((tl z).drop i)).1) with
          | nil => rw [y] at q2; cases q2
          | cons c r =>
            rw [y] at q2
            have : c = 58 := Option.some.inj q2
            exact hB_false q r (by rw [y, this])
        exact ret H1 _ m (nm_plain e1 hc)
    · rw [nm_bad e1] at kno
      exact kno rfl _ d f
end
end K2
/-! K02Sc4 -/
namespace K2
open PySem PySem.Spec PyProof.Rows L2 TL
theorem Gd.line {z : Str} (g : Gd z) : z.length ≤ sizeLine := by
  have := g.len
  rw [sizeLine_eq]
  omega
theorem while_x {c : TT} {tb : TS} {D : Ends} {σ : L2.St} {H : Hp} (Pv : Nat → L2.St → Hp → Prop) (Fin : L2.St → Hp → Prop) (h0 : ∃ m, Pv m σ H) (hf : ∀ σ H, Fin σ H → D.nx σ H)
    (hs : (∀ σ H, Fin σ H → D.nx σ H) → ∀ m σ H (R : Bool → Hp → Prop), Pv m σ H → (∀ H1, Fin σ H1 → R false H1) →
      (∀ H1, tb { D with nx := fun σ' H' => ∃ m', m' < m ∧ Pv m' σ' H', ct := fun σ' H' => ∃ m', m' < m ∧ Pv m' σ' H', bk := D.nx } σ H1 → R true H1) → c σ H R) : tWhile c tb D σ H :=
  ⟨Pv, h0, fun m σ H p => hs hf m σ H _ p (fun H1 f => by rw [if_neg Bool.false_ne_true]; exact hf _ _ f) (fun H1 b => by rw [if_pos rfl]; exact ⟨_, fun _ _ z => z, b⟩)⟩
section
variable {P : Program} {w : World} {K : PySem.W.Frag} {mg : Str → Option Value} {base : Heap}
def spUp (K : PySem.W.Frag) : Sp := fun vs H Q E => ∃ (z W : Str) (i : Nat), tl W ≠ [] ∧ W.length ≤ 10 ∧ spS K [.str W] z i (upN (tl W) ((tl z).drop i)) (fun v => ∃ y : Str, v = .str y ∧ y.length ≤ (upN (tl W) ((tl z).drop i)).1) vs H Q E
theorem up_some {S l : List Nat} {j : Nat} (h : fdN S l = some j) : upN S l = (j + S.length, true) := by
  unfold upN
  rw [h]
theorem up_none {S l : List Nat} (h : fdN S l = none) : upN S l = (l.length, false) := by
  unfold upN
  rw [h]
theorem ok_read_up_to (T : Tx w K mg) : Ok P w K mg base (L2.CX P w) 4 (He.fAd K d_Scanner_read_up_to.at_) p_Scanner_read_up_to (spUp K) := by
  obtain ⟨fd, F⟩ := f_Scanner_read_up_to T
  refine ⟨fd, ?_, b_Scanner_read_up_to F, F.kp⟩
  refine F.ok sc_Scanner_read_up_to (fun vs H Q E h => ?_) (fun cdv A outer s H vs Q E hr h => ?_)
  · obtain ⟨z, W, i, _, _, p, dx, rfl, _⟩ := h
    rfl
  · obtain ⟨z, W, i, hW, hW2, p, dx, rfl, a, g, hi, kok, kno⟩ := h
    have hlen : z.length = (tl z).length := len_tl z
    have hlW : W.length = (tl W).length := len_tl W
    refine ⟨_, pss_cons (ps_set (i := 2) sc_Scanner_read_up_to.nd rfl (.inl rfl) (pe_bm PySem.F.plainAttrs_str PySem.F.slot_str_find PySem.F.type_str_find mt_find3 (pe_fld (pv 0) rfl) (pa_cons (pv 1) (pa_cons (pe_fld (pv 0) rfl) pa_nil))))
      (pss_cons (ps_if (pt_cmpR op_lt (pv 2) pe_int (nomark _)) (pss_one (ps_raise rfl (takes_of rfl rfl rfl rfl) (pmk_nd T (hr.mono (by decide)) (pa_cons (pe_callB call_len (by rfl) (n_len T) PySem.boot_len (pa_cons (pe_fld (pv 0) rfl) pa_nil)) pa_nil)))) pss_nil)
      (pss_cons (ps_set (i := 3) sc_Scanner_read_up_to.nd rfl (.inl rfl) (pe_slice sl_str (pe_fld (pv 0) rfl) (po_some (pe_fld (pv 0) rfl)) (po_some (pv 2))))
      (pss_cons (ps_fld (pv 0) (pe_op op_add (pv 2) (pe_callB call_len (by rfl) (n_len T) PySem.boot_len (pa_cons (pv 1) pa_nil))) rfl)
      (pss_one (ps_ret (pv 3)))))), ?_⟩
    refine ⟨_, rfl, p, CSc K, dx, _, _, rfl, a, cls_Scanner T, na_Scanner_text T, sc_text, rfl, _, rfl, _, rfl, p, CSc K, dx, _, _, rfl, a, cls_Scanner T, na_Scanner_at T, sc_at, z, W, (i : Int), rfl, rfl, ?_⟩
    rw [find3_fd z W i hi hW]
    refine ⟨_, rfl, _, _, rfl, rfl, _, rfl, ?_⟩
    cases q : fdN (tl W) ((tl z).drop i) with
    | none =>
      refine iteT ?_
      rw [up_none q] at kno
      refine ⟨_, rfl, p, CSc K, dx, _, _, rfl, a, cls_Scanner T, na_Scanner_text T, sc_text, _, _, rfl, ⟨g.line, rfl⟩, nd_ok (g.log (Nat.le_refl _)) fun d y hd => ?_⟩
      exact kno rfl _ d (((Mv.same a (Same.refl H)).raise a.ne hd).eq (by show z.length = i + ((tl z).drop i).length; rw [List.length_drop]; omega))
    | some j =>
      rw [up_some q] at kok
      have hle := fdN_le q
      rw [List.length_drop] at hle
      show if decide (((i + j : Nat) : Int) < 0) = true then _ else _
      rw [decide_eq_false (by omega)]
      refine iteF ?_
      refine ⟨_, rfl, p, CSc K, dx, _, _, rfl, a, cls_Scanner T, na_Scanner_text T, sc_text, _, rfl, p, CSc K, dx, _, _, rfl, a, cls_Scanner T, na_Scanner_at T, sc_at, _, rfl, _, rfl, _, rfl, z, rfl, g.line, ?_⟩
      refine ⟨_, rfl, _, rfl, _, _, rfl, ⟨by rw [sizeLine_eq]; omega, rfl⟩, _, _, rfl, rfl, _, rfl, p, CSc K, dx, _, rfl, a, cls_Scanner T, na_Scanner_at T, (by show 2 < 1000; decide), ?_⟩
      rw [sc_put (j := i + j + W.length) (by show ((i + j : Nat) : Int) + ((W.length : Nat) : Int) = _; omega)]
      refine ⟨_, rfl, ?_⟩
      refine kok rfl _ _ ⟨_, rfl, ?_⟩ ⟨.up, (upd_same).trans ?_⟩
      · show (cutS z (some (i : Int)) (some ((i + j : Nat) : Int))).length ≤ j + (tl W).length
        rw [cut_nat, mkS_len, List.length_take]
        omega
      · rw [hlW, Nat.add_assoc]
def spPlain (K : PySem.W.Frag) : Sp := fun vs H Q E => ∃ (z : Str) (i : Nat), spS K [] z i (plN ((tl z).drop i)) (fun v => ∃ y : Str, v = .str y ∧ y.length ≤ (plN ((tl z).drop i)).1) vs H Q E
theorem tw_cons {p : Nat → Bool} {c : Nat} {r : List Nat} : ((c :: r).takeWhile p).length = if p c then (r.takeWhile p).length + 1 else 0 := by
  rw [List.takeWhile_cons]
  cases p c <;> simp
theorem tw_take {p : Nat → Bool} : ∀ l : List Nat, l.takeWhile p = l.take (l.takeWhile p).length
  | [] => rfl
  | c :: r => by
    rw [List.takeWhile_cons]
    cases p c
    · rfl
    · simp only [if_true, List.length_cons, List.take_succ_cons]
      rw [← tw_take r]
theorem ok_read_plain (T : Tx w K mg) : Ok P w K mg base (L2.CX P w) 4 (He.fAd K d_Scanner_read_plain.at_) p_Scanner_read_plain (spPlain K) := by
  obtain ⟨fd, F⟩ := f_Scanner_read_plain T
  refine ⟨fd, ?_, b_Scanner_read_plain F, F.kp⟩
  refine F.ok sc_Scanner_read_plain (fun vs H Q E h => ?_) (fun cdv A outer s H vs Q E hr h => ?_)
  · obtain ⟨z, i, p, dx, rfl, _⟩ := h
    rfl
  · obtain ⟨z, i, p, dx, rfl, a, g, hi, kok, kno⟩ := h
    have hlen : z.length = (tl z).length := len_tl z
    refine ⟨_, pss_cons (ps_set (i := 1) sc_Scanner_read_plain.nd rfl (.inl rfl) (pe_fld (pv 0) rfl))
      (pss_cons (ps_while (passes_of rfl) (PW.pt (pw_and (pt_cmpR op_lt (pv 1) (pe_callB call_len (by rfl) (n_len T) PySem.boot_len (pa_cons (pe_fld (pv 0) rfl) pa_nil)) (nomark _)) (pw_and1 (pt_cmpR op_notIn_seq (pe_item_str (pe_fld (pv 0) rfl) (pv 1) (fun _ _ => rfl)) (pe_tup (pa_cons pe_str (pa_cons pe_str pa_nil))) (by rfl)))))
        (pss_one (ps_aug (i := 1) sc_Scanner_read_plain.nd rfl (.inl rfl) pe_int ip_add)))
      (pss_cons (ps_set (i := 2) sc_Scanner_read_plain.nd rfl (.inl rfl) (pe_bm PySem.F.plainAttrs_str PySem.F.slot_str_find PySem.F.type_str_find mt_find4 (pe_fld (pv 0) rfl) (pa_cons pe_str (pa_cons (pe_fld (pv 0) rfl) (pa_cons (pv 1) pa_nil)))))
      (pss_cons (ps_if (pt_cmpR op_ge (pv 2) pe_int (nomark _)) (pss_one (ps_raise rfl (takes_of rfl rfl rfl rfl) (pmk_nd T (hr.mono (by decide)) (pa_cons (pe_op op_add (pv 2) pe_int) pa_nil)))) pss_nil)
      (pss_cons (ps_set (i := 3) sc_Scanner_read_plain.nd rfl (.inl rfl) (pe_slice sl_str (pe_fld (pv 0) rfl) (po_some (pe_fld (pv 0) rfl)) (po_some (pv 1))))
      (pss_cons (ps_fld (pv 0) (pv 1) rfl)
      (pss_one (ps_ret (pv 3)))))))), ?_⟩
    refine ⟨_, rfl, p, CSc K, dx, _, _, rfl, a, cls_Scanner T, na_Scanner_at T, sc_at, ?_⟩
    refine while_x (fun m σ H1 => ∃ j u v, m = z.length - j ∧ σ = [some (V.ref p), some (.int (j : Nat)), u, v] ∧ i ≤ j ∧ j ≤ z.length ∧ Same H H1 ∧ j + (((tl z).drop j).takeWhile isPl).length = i + (((tl z).drop i).takeWhile isPl).length)
      (fun σ H1 => ∃ u v, σ = [some (V.ref p), some (.int ((i + (((tl z).drop i).takeWhile isPl).length : Nat) : Int)), u, v] ∧ Same H H1) ⟨z.length - i, i, none, none, rfl, rfl, Nat.le_refl _, hi, Same.refl H, rfl⟩ ?_ ?_
    · rintro σ H1 ⟨u, v, rfl, s1⟩
      have a1 : At K H1 p dx z i := s1 _ _ a
      have hn : (((tl z).drop i).takeWhile isPl).length ≤ ((tl z).drop i).length := tw_le _
      rw [List.length_drop] at hn
      have e9 := find4_fd z (Str.ofString "]]>") i (i + (((tl z).drop i).takeWhile isPl).length) (Nat.le_add_right _ _) (by omega) (by rw [lit (s := "]]>") (l := [93, 93, 62]), tl_mkS]; decide)
      rw [show i + (((tl z).drop i).takeWhile isPl).length - i = (((tl z).drop i).takeWhile isPl).length by omega, ← tw_take, lit (s := "]]>") (l := [93, 93, 62]), tl_mkS] at e9
      refine ⟨_, rfl, p, CSc K, dx, _, _, rfl, a1, cls_Scanner T, na_Scanner_text T, sc_text, rfl, _, rfl, p, CSc K, dx, _, _, rfl, a1, cls_Scanner T, na_Scanner_at T, sc_at, _, rfl, z, _, _, _, rfl, rfl, ?_⟩
      rw [lit (s := "]]>") (l := [93, 93, 62]), e9]
      refine ⟨_, rfl, _, _, rfl, rfl, _, rfl, ?_⟩
      cases q : fdN [93, 93, 62] (((tl z).drop i).takeWhile isPl) with
      | some j =>
        show if decide ((0 : Int) ≤ ((i + j : Nat) : Int)) = true then _ else _
        rw [decide_eq_true (by omega)]
        refine iteT ?_
        have e : plN ((tl z).drop i) = (j + 2, false) := by
          unfold plN
          rw [q]
        have hj := fdN_le q
        rw [e] at kno
        refine ⟨_, rfl, _, _, rfl, rfl, ?_⟩
        have e2 : ((i + j : Nat) : Int) + 2 = ((i + (j + 2) : Nat) : Int) := by omega
        refine nd_ok (n := ((i + j : Nat) : Int) + 2) (by rw [e2]; exact g.log (by simp at hj; omega)) fun d y hd => ?_
        rw [e2]
        exact kno rfl _ d ((Mv.same a s1).raise a.ne hd)
      | none =>
        refine iteF ?_
        have e : plN ((tl z).drop i) = ((((tl z).drop i).takeWhile isPl).length, true) := by
          unfold plN
          rw [q]
        rw [e] at kok
        refine ⟨_, rfl, p, CSc K, dx, _, _, rfl, a1, cls_Scanner T, na_Scanner_text T, sc_text, _, rfl, p, CSc K, dx, _, _, rfl, a1, cls_Scanner T, na_Scanner_at T, sc_at, _, rfl, _, rfl, _, rfl, z, rfl, g.line, ?_⟩
        refine ⟨_, rfl, _, rfl, p, CSc K, dx, _, rfl, a1, cls_Scanner T, na_Scanner_at T, (by show 2 < 1000; decide), ?_⟩
        rw [sc_put (j := i + (((tl z).drop i).takeWhile isPl).length) rfl]
        refine ⟨_, rfl, ?_⟩
        refine kok rfl _ _ ⟨_, rfl, ?_⟩ (Mv.same a s1).up
        rw [cut_nat, mkS_len, List.length_take]
        omega
    · rintro - m σ H1 R ⟨j, u, v, rfl, rfl, hij, hj, s1, e⟩ hfin hbody
      have a1 : At K H1 p dx z i := s1 _ _ a
      refine ⟨_, rfl, _, rfl, p, CSc K, dx, _, _, rfl, a1, cls_Scanner T, na_Scanner_text T, sc_text, _, _, rfl, ⟨g.line, rfl⟩, _, _, rfl, rfl, _, rfl, ?_⟩
      refine ite2 (fun q => ?_) (fun q => ?_)
      · have q1 : j < z.length := by
          have := of_decide_eq_true q
          omega
        obtain ⟨c, r, hc⟩ : ∃ c r, (tl z).drop j = c :: r := by
          cases y : (tl z).drop j with
          | nil =>
            have := congrArg List.length y
            rw [List.length_drop, List.length_nil] at this
            omega
          | cons c r => exact ⟨c, r, rfl⟩
        have hget : z.cps[j]? = some c := by
          have : (tl z)[j]? = some c := by
            have h1 := congrArg List.head? hc
            rw [List.head?_drop] at h1
            exact h1
          show z.cps[j]? = some c
          rw [← Array.getElem?_toList]
          exact this
        refine ⟨_, rfl, p, CSc K, dx, _, _, rfl, a1, cls_Scanner T, na_Scanner_text T, sc_text, _, rfl, z, (j : Int), c, rfl, rfl, by omega, by have := g.len; omega, by omega, by rw [Int.toNat_natCast]; exact hget, (by decide), fun b hb => ⟨b, _, rfl, .inr (SqT.of upd_same), rfl, rfl, ?_⟩⟩
        have e3 : inV (.str ⟨#[c]⟩) [.str (Str.ofString "<"), .str (Str.ofString "&")] = (c == 60 || c == 38) := by
          show (eqV _ _ || (eqV _ _ || false)) = _
          rw [eqV_str, eqV_str, lit (s := "<") (l := [60]), lit (s := "&") (l := [38]), tl_mkS, tl_mkS]
          show (decide ([60] = [c]) || (decide ([38] = [c]) || false)) = _
          rw [dec1, dec1, Bool.or_false]
        rw [if_pos rfl]
        refine ⟨_, rfl, ?_⟩
        rw [e3]
        have e4 : (!(c == 60 || c == 38)) = isPl c := by
          unfold isPl
          simp [bne]
        rw [e4]
        have s2 := s1.trans (same_new hb (o := .tup [.str (Str.ofString "<"), .str (Str.ofString "&")]))
        cases y : isPl c with
        | true =>
          refine hbody _ ?_
          refine ⟨_, rfl, _, _, rfl, rfl, z.length - (j + 1), by omega, j + 1, u, v, rfl, ?_, by omega, by omega, s2, ?_⟩
          · show [some (V.ref p), some (V.int ((j : Int) + 1)), u, v] = _
            rfl
          · have hd := (drop_cons hc).2
            rw [hc, tw_cons, y, if_pos rfl] at e
            rw [← e, hd]
            omega
        | false =>
          refine hfin _ ⟨u, v, ?_, s2⟩
          rw [← e, hc, tw_cons, y, if_neg Bool.false_ne_true, Nat.add_zero]
      · have q1 : z.length ≤ j := Nat.le_of_not_lt fun h => q (decide_eq_true (by omega))
        refine hfin _ ⟨u, v, ?_, s1⟩
        rw [← e, List.drop_of_length_le (by omega)]
        rfl
end
end K2
/-! K02Sc5 -/
namespace K2
open PySem PySem.Spec PyProof.Rows L2 TL
/-! ### a list or a tuple walked -/
def SqA (H : Hp) (a : Addr) (xs : List V) : Prop := H a = some (.lst xs) ∨ H a = some (.tup xs)
theorem SqA.at {H H1 : Hp} {a : Addr} {xs : List V} (h : SqA H a xs) (e : ∀ o, H a = some o → H1 a = some o) : SqA H1 a xs := h.elim (fun z => .inl (e _ z)) (fun z => .inr (e _ z))
def iSeq (tl : TE) : TI := fun σ H R => tl σ H fun x H1 => ∃ a xs, x = .ref a ∧ SqA H1 a xs ∧ ∀ J, Walk J xs.length (fun H => ∀ o, H1 a = some o → H a = some o) (YAt xs) → R J H1
theorem pi_seq {X : Cx} {tg l : Expr} {tl : TE} (hl : PE X l tl) : PI X tg l (iSeq tl) := by
  refine ⟨fun pins s σ H R I h => ?_⟩
  refine thn (hl.run pins s σ H _ I h) fun v s1 ⟨x, H1, I1, r1, q1⟩ => ?_
  obtain ⟨a, xs, e, hq, q⟩ := q1
  subst e
  cases r1
  rcases hq with hq | hq
  · have q2 := q (Itl X.K a) (walk_list.mono (fun H e => SqL.of (e _ hq)) fun _ _ _ _ _ _ y => y)
    obtain ⟨its, rv, p, hz⟩ := I1.list (SqL.of hq)
    refine wpAny_pyIter_list p.isList ?_
    refine ⟨s1.heap.objs.size, [s1.heap.objs.size], _, _, H1, rfl, I1.kept (t' := s1.toks) fun b o e => Heap.get?_push_of_some _ e, turn_list a _, ⟨_, Heap.get?_push_size _ rfl, rfl, rfl⟩, fun b hb => ?_, q2⟩
    have e : b = s1.heap.objs.size := by simpa using hb
    subst e
    exact I1.fpOk (Nat.le_refl _) (I1.hok.fresh (Nat.le_refl _))
  · have q2 := q (Itt X.K a) (walk_tup.mono (fun H e => SqT.of (e _ hq)) fun _ _ _ _ _ _ y => y)
    obtain ⟨its, rv, p, hz⟩ := I1.tuple (SqT.of hq)
    refine wpAny_pyIter_tuple (show s1.heap.IsTuple a its.toArray from p) ?_
    refine ⟨s1.heap.objs.size, [s1.heap.objs.size], _, _, H1, rfl, I1.kept (t' := s1.toks) fun b o e => Heap.get?_push_of_some _ e, turn_tuple a _, ⟨_, Heap.get?_push_size _ rfl, rfl, rfl⟩, fun b hb => ?_, q2⟩
    have e : b = s1.heap.objs.size := by simpa using hb
    subst e
    exact I1.fpOk (Nat.le_refl _) (I1.hok.fresh (Nat.le_refl _))
/-! ### words that may stand -/
def fw : List (List Nat) → List Nat → List (List Nat)
  | ws, [] => ws
  | ws, c :: r => fw (stepW ws c) r
theorem mem_step {ws : List (List Nat)} {c : Nat} {t : List Nat} : t ∈ stepW ws c ↔ c :: t ∈ ws := by
  unfold stepW
  rw [List.mem_filterMap]
  constructor
  · rintro ⟨w, hw, e⟩
    cases w with
    | nil => cases e
    | cons d r =>
      dsimp only at e
      split at e
      · rename_i h
        cases e
        rw [← h]
        exact hw
      · cases e
  · intro h
    exact ⟨_, h, by simp⟩
theorem mem_fw : ∀ {pc : List Nat} {ws : List (List Nat)} {t : List Nat}, t ∈ fw ws pc ↔ pc ++ t ∈ ws
  | [], _, _ => Iff.rfl
  | c :: r, ws, t => by
    show t ∈ fw (stepW ws c) r ↔ _
    rw [mem_fw, mem_step]
    rfl
theorem fw_snoc : ∀ (pc : List Nat) (ws : List (List Nat)) (c : Nat), fw ws (pc ++ [c]) = stepW (fw ws pc) c
  | [], _, _ => rfl
  | d :: r, ws, c => fw_snoc r (stepW ws d) c
theorem starts0 (x y : Str) : Txt.startswith x y = decide ((tl x).take (tl y).length = tl y) := by
  unfold Txt.startswith
  rw [StrLaws.subAt_eq, ← len_tl y]
  show (decide _ && (((tl x).drop 0).take y.length == tl y)) = _
  rw [List.drop_zero]
  by_cases q : (tl x).take y.length = tl y
  · have e := congrArg List.length q
    rw [List.length_take, ← len_tl x, ← len_tl y] at e
    rw [decide_eq_true q, q, decide_eq_true (by omega)]
    simp
  · rw [decide_eq_false q, show ((tl x).take y.length == tl y) = false by simp [q], Bool.and_false]
theorem take_snoc : ∀ {L : List Nat} {k c : Nat} {r : List Nat}, L.drop k = c :: r → L.take (k + 1) = L.take k ++ [c]
  | [], k, c, r, h => by simp at h
  | d :: L, 0, c, r, h => by
    have : d = c := (List.cons.inj h).1
    simp [this]
  | d :: L, k + 1, c, r, h => by
    have h1 : L.drop k = c :: r := h
    rw [List.take_succ_cons, List.take_succ_cons, take_snoc h1]
    rfl
theorem takes_pre {w pc : List Nat} : w.take pc.length = pc ↔ ∃ t, pc ++ t = w := by
  constructor
  · intro h
    refine ⟨w.drop pc.length, ?_⟩
    have := List.take_append_drop pc.length w
    rw [h] at this
    exact this
  · rintro ⟨t, rfl⟩
    simp
section
variable {P : Program} {w : World} {K : PySem.W.Frag} {mg : Str → Option Value} {base : Heap}
def spOne (K : PySem.W.Frag) : Sp := fun vs H Q E => ∃ (z : Str) (i : Nat) (q : Addr) (ws : List Str), SqA H q (ws.map V.str) ∧ ws.length ≤ 100 ∧
  spS K [.ref q] z i (oneN (ws.map tl) ((tl z).drop i)) (· = .str (mkS (((tl z).drop i).take (oneN (ws.map tl) ((tl z).drop i)).1))) vs H Q E
theorem ok_read_one_of (T : Tx w K mg) : Ok P w K mg base (L2.CX P w) 4 (He.fAd K d_Scanner_read_one_of.at_) p_Scanner_read_one_of (spOne K) := by
  obtain ⟨fd, F⟩ := f_Scanner_read_one_of T
  obtain ⟨fD, GD, bD, kD⟩ := ok_is_done (P := P) (base := base) T
  refine ⟨fd, ?_, b_Scanner_read_one_of F, F.kp⟩
  refine F.ok sc_Scanner_read_one_of (fun vs H Q E h => ?_) (fun cdv A outer s H vs Q E hr h => ?_)
  · obtain ⟨z, i, q, ws, _, _, p, dx, rfl, _⟩ := h
    rfl
  · obtain ⟨z, i, q, ws, hq, hw, p, dx, rfl, a, g, hi, kok, kno⟩ := h
    have hlen : z.length = (tl z).length := len_tl z
    refine ⟨_, pss_cons (ps_set (i := 2) sc_Scanner_read_one_of.nd rfl (.inl rfl) (pe_fld (pv 0) rfl))
      (pss_cons (ps_while (passes_of rfl) (pt_not (pt_val (pe_meth0 (E := E0) (pv 0) (cls_Scanner T) (m_Scanner_is_done T) GD (hr.mono (by decide)) bD .nil pass0)))
        (pss_cons (ps_set (i := 3) sc_Scanner_read_one_of.nd rfl (.inr rfl) (pe_slice sl_str (pe_fld (pv 0) rfl) (po_some (pv 2)) (po_some (pe_op op_add (pe_fld (pv 0) rfl) pe_int))))
        (pss_cons (ps_if (pt_not (pt_truth (pe_lc (own := [("word", 4)]) (g := gName 4) (by rfl) sc_Scanner_read_one_of.nd (pi_seq (pv 1)) (blkOk_by (own := [("word", 4)]) (N := N_Scanner_read_one_of) (sc := defScope s_Scanner_read_one_of) (by decide +kernel))
            (fun _ _ _ _ _ => pg_name (i := 4) sc_Scanner_read_one_of.nd rfl (Or.inl rfl)) (fun _ _ _ _ _ => pts_one (pt_val (pe_m1 PySem.F.slot_str_startswith PySem.F.type_str_startswith mt_startswith (pv 4) (pv 3)))) (fun _ _ _ _ _ => pv 4)) (by intro _; rfl)))
          (pss_one ps_break) pss_nil)
        (pss_cons (ps_fldaug (pv 0) pe_int ip_add)
        (pss_one (ps_if (pt_cmpR op_in_seq (pv 3) (pv 1) (by rfl)) (pss_one (ps_ret (pv 3))) pss_nil))))))
      (pss_one (ps_raise rfl (takes_of rfl rfl rfl rfl) (pmk_nd T (hr.mono (by decide)) (pa_cons (pe_fld (pv 0) rfl) pa_nil))))), ?_⟩
    have hqp : q ≠ p := fun e => by
      subst e
      rcases hq with hq | hq <;> (rw [a] at hq; cases hq)
    refine ⟨_, rfl, p, CSc K, dx, _, _, rfl, a, cls_Scanner T, na_Scanner_at T, sc_at, ?_⟩
    refine while_x (fun m σ H1 => ∃ k v3 v4, m = z.length - (i + k) ∧ σ = [some (V.ref p), some (.ref q), some (.int (i : Int)), v3, v4] ∧ i + k ≤ z.length ∧ Mv K H H1 p dx z (i + k) ∧
        oneN (ws.map tl) ((tl z).drop i) = ((oneN (fw (ws.map tl) (((tl z).drop i).take k)) ((tl z).drop (i + k))).1 + k, (oneN (fw (ws.map tl) (((tl z).drop i).take k)) ((tl z).drop (i + k))).2))
      (fun σ H1 => ∃ k v3 v4, σ = [some (V.ref p), some (.ref q), some (.int (i : Int)), v3, v4] ∧ i + k ≤ z.length ∧ Mv K H H1 p dx z (i + k) ∧ oneN (ws.map tl) ((tl z).drop i) = (k, false))
      ⟨z.length - (i + 0), 0, none, none, rfl, rfl, hi, Mv.same a (Same.refl H), rfl⟩ ?_ ?_
    · rintro σ H1 ⟨k, v3, v4, rfl, hk, m, e⟩
      rw [e] at kno
      exact ⟨_, rfl, p, CSc K, dx, _, _, rfl, m.2, cls_Scanner T, na_Scanner_at T, sc_at, nd_ok (g.log hk) fun d y hd => kno rfl _ d (m.raise a.ne hd)⟩
    · rintro hbk mm σ H1 R ⟨k, v3, v4, rfl, rfl, hk, m, e⟩ hfin hbody
      refine ⟨_, rfl, p, dx, _, rfl, m.2, sc_no (by decide +kernel) (by decide +kernel), p, dx, z, _, rfl, m.2, g, _, rfl, ?_⟩
      by_cases hd : i + k = z.length
      · rw [decide_eq_true hd]
        refine hfin _ ⟨k, v3, v4, rfl, hk, m, ?_⟩
        have dz : (tl z).drop (i + k) = [] := List.drop_of_length_le (by omega)
        rw [e, dz]
        simp [oneN]
      · rw [decide_eq_false hd]
        refine hbody _ ?_
        obtain ⟨c, r, hc⟩ : ∃ c r, (tl z).drop (i + k) = c :: r := by
          cases y : (tl z).drop (i + k) with
          | nil =>
            have := congrArg List.length y
            rw [List.length_drop, List.length_nil] at this
            omega
          | cons c r => exact ⟨c, r, rfl⟩
        have hdc := drop_cons hc
        have hpc : ((tl z).drop i).take (k + 1) = ((tl z).drop i).take k ++ [c] := by
          have h1 : ((tl z).drop i).drop k = c :: r := by rw [List.drop_drop]; exact hc
          exact take_snoc h1
        have hq1 : SqA H1 q (ws.map V.str) := hq.at fun o ho => m.1 _ _ hqp ho
        refine ⟨_, rfl, p, CSc K, dx, _, _, rfl, m.2, cls_Scanner T, na_Scanner_text T, sc_text, _, rfl, _, rfl, _, rfl, p, CSc K, dx, _, _, rfl, m.2, cls_Scanner T, na_Scanner_at T, sc_at, _, _, rfl, rfl, _, rfl, z, rfl, g.line, ?_⟩
        have epc : cutS z (some (i : Int)) (some (((i + k : Nat) : Int) + 1)) = mkS (((tl z).drop i).take (k + 1)) := by
          rw [show ((i + k : Nat) : Int) + 1 = ((i + k + 1 : Nat) : Int) by omega, cut_nat, show i + k + 1 - i = k + 1 by omega]
        rw [epc]
        refine ⟨_, rfl, q, _, rfl, hq1, fun J wk D hD => ?_⟩
        refine lc_it wk (fun t H2 => Same H1 H2 ∧ ∃ acc, H2 D = some (.lst acc) ∧ acc.length ≤ t ∧ (acc = [] ↔ ∀ j wd, j < t → ws[j]? = some wd → Txt.startswith wd (mkS (((tl z).drop i).take (k + 1))) = false))
          ⟨same_new hD, [], upd_same, Nat.le_refl _, Iff.intro (fun _ j wd hj => by omega) fun _ => rfl⟩ (fun t H2 _ h o ho => h.1 _ _ ho) ?_ ?_
        · rintro t x H2 H3 ht ⟨s2, acc, hacc, hal, hiff⟩ ⟨rfl, hx⟩
          obtain ⟨wd, hwd, rfl⟩ : ∃ wd, ws[t]? = some wd ∧ x = .str wd := by
            rw [List.getElem?_map] at hx
            cases y : ws[t]? with
            | none => rw [y] at hx; cases hx
            | some wd => rw [y] at hx; exact ⟨wd, rfl, (Option.some.inj hx).symm⟩
          refine ⟨rfl, _, rfl, ⟨_, rfl⟩, _, rfl, _, _, rfl, rfl, _, rfl, ?_⟩
          refine ite2 (fun y => ?_) (fun y => ?_)
          · refine ⟨_, rfl, acc, hacc, ?_, (fun b o h => by rw [upd_ne (ne_of_none h hD)]; exact s2 b o h), _, upd_same, ?_, ?_⟩
            · rw [List.length_map] at ht
              rw [sizeLine_eq]
              omega
            · rw [List.length_append]
              simp
              omega
            · refine Iff.intro (fun h => ?_) (fun h => ?_)
              · simp at h
              · have := h t wd (by omega) hwd
                rw [y] at this
                cases this
          · refine ⟨s2, acc, hacc, by omega, hiff.trans (Iff.intro (fun h j wd2 hj hw2 => ?_) (fun h j wd2 hj hw2 => h j wd2 (by omega) hw2))⟩
            by_cases jt : j = t
            · subst jt
              rw [hwd] at hw2
              cases hw2
              cases y2 : Txt.startswith wd (mkS (((tl z).drop i).take (k + 1))) with
              | true => exact absurd y2 y
              | false => rfl
            · exact h j wd2 (by omega) hw2
        · rintro H2 ⟨s2, acc, hacc, hal, hiff⟩
          refine ⟨!acc.isEmpty, .inl ⟨acc, SqL.of hacc, rfl⟩, ?_⟩
          have m2 := SameB.mv m s2
          have hst : ∀ wd : Str, Txt.startswith wd (mkS (((tl z).drop i).take (k + 1))) = true ↔ ∃ t, ((tl z).drop i).take (k + 1) ++ t = tl wd := by
            intro wd
            rw [starts0, tl_mkS, decide_eq_true_iff]
            exact takes_pre
          have hfw : fw (ws.map tl) (((tl z).drop i).take (k + 1)) = stepW (fw (ws.map tl) (((tl z).drop i).take k)) c := by rw [hpc, fw_snoc]
          have hnil : acc = [] ↔ stepW (fw (ws.map tl) (((tl z).drop i).take k)) c = [] := by
            rw [← hfw, hiff, List.eq_nil_iff_forall_not_mem]
            constructor
            · intro h t ht
              obtain ⟨wd, hw1, hw2⟩ := List.mem_map.mp (mem_fw.mp ht)
              obtain ⟨j, hj, e5⟩ := List.mem_iff_getElem.mp hw1
              have := h j wd (by rw [List.length_map]; exact hj) (by rw [List.getElem?_eq_getElem hj, e5])
              rw [(hst wd).mpr ⟨t, hw2.symm⟩] at this
              cases this
            · intro h j wd hj hwd
              cases y : Txt.startswith wd (mkS (((tl z).drop i).take (k + 1))) with
              | false => rfl
              | true =>
                obtain ⟨t, ht⟩ := (hst wd).mp y
                exact absurd (mem_fw.mpr (by rw [ht]; exact List.mem_map.mpr ⟨wd, List.mem_of_getElem? hwd, rfl⟩)) (h t)
          by_cases he : acc = []
          · rw [he]
            refine iteT ?_
            refine hbk _ _ ⟨k, _, _, rfl, hk, m2, ?_⟩
            rw [e, hc]
            unfold oneN
            rw [if_pos (hnil.mp he), Nat.zero_add]
          · have he2 : (!(!acc.isEmpty)) = false := by
              cases acc with
              | nil => exact absurd rfl he
              | cons _ _ => rfl
            show if (!(!acc.isEmpty)) = true then _ else _
            rw [he2]
            refine iteF ?_
            have hns : ¬ stepW (fw (ws.map tl) (((tl z).drop i).take k)) c = [] := fun h => he (hnil.mpr h)
            refine ⟨_, rfl, p, CSc K, dx, _, _, rfl, m2.2, cls_Scanner T, na_Scanner_at T, sc_at, _, _, rfl, rfl, dx, _, m2.2, (by show 2 < 1000; decide), inc_ok ?_⟩
            have m3 := m2.up (j := i + k + 1)
            have hq3 : SqA (upd H2 p (.ins (CSc K) dx (scF z (i + k + 1)))) q (ws.map V.str) := hq.at fun o ho => m3.1 _ _ hqp ho
            have hin : inV (.str (mkS (((tl z).drop i).take (k + 1)))) (ws.map V.str) = decide (mkS (((tl z).drop i).take (k + 1)) ∈ ws) := by
              unfold inV
              rw [Bool.eq_iff_iff, List.any_eq_true, decide_eq_true_iff]
              constructor
              · rintro ⟨y, hy, ey⟩
                obtain ⟨wd, hwd, rfl⟩ := List.mem_map.mp hy
                rw [eqV_str, decide_eq_true_iff] at ey
                rw [← ext_tl ey]
                exact hwd
              · intro h
                exact ⟨_, List.mem_map.mpr ⟨_, h, rfl⟩, by rw [eqV_str]; simp⟩
            have hmem : [] ∈ stepW (fw (ws.map tl) (((tl z).drop i).take k)) c ↔ mkS (((tl z).drop i).take (k + 1)) ∈ ws := by
              rw [← hfw, mem_fw, List.append_nil]
              constructor
              · intro h
                obtain ⟨wd, h1, h2⟩ := List.mem_map.mp h
                rw [← h2, mkS_tl]
                exact h1
              · intro h
                exact List.mem_map.mpr ⟨_, h, rfl⟩
            refine ⟨_, rfl, _, rfl, q, _, rfl, hq3.elim (fun h => .inl (SqL.of h)) (fun h => .inr (SqT.of h)), rfl, ?_, _, rfl, ?_⟩
            · simp [flatV]
            rw [if_neg Bool.false_ne_true, hin]
            refine ite2 (fun y => ?_) (fun y => ?_)
            · have e6 : oneN (ws.map tl) ((tl z).drop i) = (k + 1, true) := by
                rw [e, hc]
                unfold oneN
                rw [if_neg hns, if_pos (hmem.mpr (of_decide_eq_true y)), Nat.add_comm]
              rw [e6] at kok
              exact ⟨_, rfl, kok rfl _ _ rfl m3⟩
            · refine ⟨z.length - (i + (k + 1)), by omega, k + 1, _, _, rfl, rfl, by omega, m3, ?_⟩
              rw [e, hc]
              conv => lhs; unfold oneN
              rw [if_neg hns, if_neg (fun h => y (decide_eq_true (hmem.mp h))), hfw, show i + (k + 1) = i + k + 1 by omega, hdc.2]
              dsimp only
              rw [show (oneN (stepW (fw (ws.map tl) (((tl z).drop i).take k)) c) r).1 + 1 + k = (oneN (stepW (fw (ws.map tl) (((tl z).drop i).take k)) c) r).1 + (k + 1) by omega]
end
end K2
/-! K02Sc6 -/
namespace K2
open PySem PySem.Spec PyProof.Rows L2 TL
def dgS (b : Nat) : Str := if b = 16 then Str.ofString "0123456789abcdef" else Str.ofString "0123456789"
theorem lower_one : ∀ c, c < 128 → tl (Txt.lower (mkS [c])) = [lowC c] := by decide +kernel
theorem dg_find : ∀ b, (b = 10 ∨ b = 16) → ∀ c, c < 128 → fdN [lowC c] (tl (dgS b)) = dig b c ∧ decide (lowC c ∈ tl (dgS b)) = (dig b c).isSome := by
  intro b hb
  rcases hb with rfl | rfl
  · decide +kernel
  · decide +kernel
theorem dg_len (b : Nat) (hb : b = 10 ∨ b = 16) : (dgS b).length = b := by
  rcases hb with rfl | rfl
  · decide +kernel
  · decide +kernel
theorem dig_lt {b c d : Nat} (hb : b = 10 ∨ b = 16) (h : dig b c = some d) : d < b := by
  unfold dig at h
  split at h
  · cases h
    omega
  · split at h
    · cases h
      omega
    · split at h
      · cases h
        omega
      · cases h
theorem find_fd (x y : Str) (hy : tl y ≠ []) : Txt.find x y = match fdN (tl y) (tl x) with
    | some j => ((j : Nat) : Int)
    | none => -1 := by
  have e : ((tl x).drop 0).take (x.length - 0) = tl x := by
    rw [List.drop_zero]
    exact List.take_of_length_le (by rw [len_tl x]; omega)
  unfold Txt.find
  rcases occ_fd x y 0 x.length (Nat.zero_le _) (Nat.le_refl _) hy with ⟨h1, h2⟩ | ⟨j, r, h1, h2⟩
  · rw [e] at h1
    rw [h1, h2]
  · rw [e] at h1
    rw [h1, h2, Nat.zero_add]
/-- one digit -/
def dgF (b n : Nat) : List Nat → Nat × Bool
  | [] => (0, false)
  | c :: _ => match dig b c with
    | some d => if leads b (n * b + d) then (1, true) else (0, false)
    | none => (0, false)
theorem dgF_cons (b n c : Nat) (r : List Nat) : dgF b n (c :: r) = match dig b c with
    | some d => if leads b (n * b + d) then (1, true) else (0, false)
    | none => (0, false) := rfl
section
variable {P : Program} {w : World} {K : PySem.W.Frag} {mg : Str → Option Value} {base : Heap}
def spDig (K : PySem.W.Frag) : Sp := fun vs H Q E => ∃ (z : Str) (i n b : Nat), (b = 10 ∨ b = 16) ∧ spS K [.int n, .str (dgS b)] z i (dgF b n ((tl z).drop i)) (fun v => ∃ c r d, (tl z).drop i = c :: r ∧ dig b c = some d ∧ v = .int ((n * b + d : Nat) : Int)) vs H Q E
theorem ok_read_digit (T : Tx w K mg) : Ok P w K mg base (L2.CX P w) 4 (He.fAd K d_Scanner_read_digit.at_) p_Scanner_read_digit (spDig K) := by
  obtain ⟨fd, F⟩ := f_Scanner_read_digit T
  obtain ⟨fP, GP, bP, kP⟩ := ok_peek (P := P) (base := base) T
  obtain ⟨fL, GL, bL, kL⟩ := ok_leads_to_sign (P := P) (base := base) T
  refine ⟨fd, ?_, b_Scanner_read_digit F, F.kp⟩
  refine F.ok sc_Scanner_read_digit (fun vs H Q E h => ?_) (fun cdv A outer s H vs Q E hr h => ?_)
  · obtain ⟨z, i, n, b, _, p, dx, rfl, _⟩ := h
    rfl
  · obtain ⟨z, i, n, b, hb, p, dx, rfl, a, g, hi, kok, kno⟩ := h
    have hlen : z.length = (tl z).length := len_tl z
    refine ⟨_, pss_cons (ps_set (i := 3) sc_Scanner_read_digit.nd rfl (.inl rfl) (pe_m0 PySem.F.slot_str_lower PySem.F.type_str_lower mt_lower (pe_meth0 (E := E0) (pv 0) (cls_Scanner T) (m_Scanner_peek T) GP (hr.mono (by decide)) bP .nil pass0)))
      (pss_cons (ps_if (PW.pt (pw_or (pt_cmpR op_eq (pv 3) pe_str (nomark _)) (pw_or1 (pt_cmpR op_notIn_sign (pv 3) (pv 2) (by rfl))))) (pss_one (ps_raise rfl (takes_of rfl rfl rfl rfl) (pmk_nd T (hr.mono (by decide)) (pa_cons (pe_fld (pv 0) rfl) pa_nil)))) pss_nil)
      (pss_cons (ps_set (i := 1) sc_Scanner_read_digit.nd rfl (.inl rfl) (pe_op op_add (pe_op op_mul (pv 1) (pe_callB call_len (by rfl) (n_len T) PySem.boot_len (pa_cons (pv 2) pa_nil))) (pe_m1 PySem.F.slot_str_find PySem.F.type_str_find mt_find (pv 2) (pv 3))))
      (pss_cons (ps_if (pt_not (pt_val (pe_call (E := E0) GL (hr.mono (by decide)) rfl (g_leads_to_sign T) kL bL .nil pass0 (pa_cons (pv 1) (pa_cons (pe_callB call_len (by rfl) (n_len T) PySem.boot_len (pa_cons (pv 2) pa_nil)) pa_nil))))) (pss_one (ps_raise rfl (takes_of rfl rfl rfl rfl) (pmk_nd T (hr.mono (by decide)) (pa_cons (pe_fld (pv 0) rfl) pa_nil)))) pss_nil)
      (pss_cons (ps_fldaug (pv 0) pe_int ip_add)
      (pss_one (ps_ret (pv 1))))))), ?_⟩
    have no : dgF b n ((tl z).drop i) = (0, false) → ∀ d y, H d = none → E (.ref (CN K)) (some d) (upd H d (.xd [("at", .int (i : Int)), ("why", y)])) := by
      intro e d y hd
      rw [e] at kno
      exact kno rfl _ d ((Mv.same a (Same.refl H)).raise a.ne hd)
    have hbl : (dgS b).length ≤ sizeLine := by rw [dg_len b hb, sizeLine_eq]; omega
    refine ⟨_, rfl, p, dx, _, rfl, a, sc_no (by decide +kernel) (by decide +kernel), p, dx, z, _, rfl, a, g, ⟨_, rfl⟩, _, rfl, rfl, ?_, ?_⟩
    · rw [mkS_len, List.length_take]
      omega
    cases hc : (tl z).drop i with
    | nil =>
      rw [hc] at no
      refine ⟨_, rfl, rfl, _, rfl, ?_⟩
      rw [show decide (V.str (Txt.lower (sg [])) = V.str (Str.ofString "")) = true by decide +kernel]
      refine iteT ?_
      refine iteT ?_
      exact ⟨_, rfl, p, CSc K, dx, _, _, rfl, a, cls_Scanner T, na_Scanner_at T, sc_at, nd_ok (g.log hi) fun d y hd => no rfl d y hd⟩
    | cons c r =>
      rw [hc] at no kok
      have c128 := g.lt hc
      have el : Txt.lower (sg (c :: r)) = mkS [lowC c] := ext_tl (by rw [sg_cons, lower_one c c128, tl_mkS])
      obtain ⟨f1, f2⟩ := dg_find b hb c c128
      refine ⟨_, rfl, rfl, _, rfl, ?_⟩
      rw [el]
      rw [show decide (V.str (mkS [lowC c]) = V.str (Str.ofString "")) = false by rw [dec_str, tl_mkS]; rfl]
      refine iteF ?_
      refine ⟨_, rfl, _, rfl, lowC c, dgS b, rfl, rfl, _, rfl, ?_⟩
      show if (!decide (lowC c ∈ tl (dgS b))) = true then _ else _
      rw [f2]
      cases hd : dig b c with
      | none =>
        refine iteT ?_
        have e : dgF b n (c :: r) = (0, false) := by
          rw [dgF_cons, hd]
        exact ⟨_, rfl, p, CSc K, dx, _, _, rfl, a, cls_Scanner T, na_Scanner_at T, sc_at, nd_ok (g.log hi) fun d y hd => no e d y hd⟩
      | some d =>
        refine iteF ?_
        rw [hd] at f1
        have hd2 := dig_lt hb hd
        have ln : LenV K (.str (dgS b)) H b := ⟨hbl, (dg_len b hb).symm⟩
        have efind : Txt.find (dgS b) (mkS [lowC c]) = (d : Int) := by
          rw [find_fd _ _ (by rw [tl_mkS]; simp), tl_mkS, f1]
        refine ⟨_, rfl, _, rfl, _, b, rfl, ln, _, _, rfl, rfl, .inr ⟨by omega, by omega⟩, _, rfl, ⟨_, rfl⟩, _, rfl, dgS b, mkS [lowC c], rfl, rfl, ?_⟩
        rw [efind]
        refine ⟨_, _, rfl, rfl, ?_⟩
        have en : (n : Int) * (b : Int) + (d : Int) = ((n * b + d : Nat) : Int) := by
          rw [Int.natCast_add, Int.natCast_mul]
        refine ⟨_, rfl, _, rfl, _, b, rfl, ln, n * b + d, b, (by show [V.int ((n : Int) * (b : Int) + (d : Int)), V.int (b : Int)] = _; rw [en]), hb, _, rfl, ?_⟩
        cases hl : leads b (n * b + d) with
        | false =>
          refine iteT ?_
          have e : dgF b n (c :: r) = (0, false) := by
            rw [dgF_cons, hd]
            show (if leads b (n * b + d) then (1, true) else (0, false)) = _
            rw [hl]
            rfl
          exact ⟨_, rfl, p, CSc K, dx, _, _, rfl, a, cls_Scanner T, na_Scanner_at T, sc_at, nd_ok (g.log hi) fun d y hd => no e d y hd⟩
        | true =>
          refine iteF ?_
          have e : dgF b n (c :: r) = (1, true) := by
            rw [dgF_cons, hd]
            show (if leads b (n * b + d) then (1, true) else (0, false)) = _
            rw [hl]
            rfl
          rw [e] at kok
          refine ⟨_, rfl, p, CSc K, dx, _, _, rfl, a, cls_Scanner T, na_Scanner_at T, sc_at, _, _, rfl, rfl, dx, _, a, (by show 2 < 1000; decide), inc_ok ?_⟩
          exact ⟨_, rfl, kok rfl _ _ ⟨c, r, d, rfl, hd, (by show V.int ((n : Int) * (b : Int) + (d : Int)) = _; rw [en])⟩ (Mv.same a (Same.refl H)).up⟩
end
end K2
/-! K02Sc7 -/
namespace K2
open PySem PySem.Spec PyProof.Rows L2 TL
theorem dgF_ok {b n : Nat} {l : List Nat} (h : (dgF b n l).2 = true) : ∃ c r d, l = c :: r ∧ dig b c = some d ∧ leads b (n * b + d) = true ∧ dgF b n l = (1, true) := by
  cases l with
  | nil => cases h
  | cons c r =>
    rw [dgF_cons] at h
    cases e : dig b c with
    | none => rw [e] at h; cases h
    | some d =>
      rw [e] at h
      cases e2 : leads b (n * b + d) with
      | false =>
        have h2 : (if leads b (n * b + d) then ((1, true) : Nat × Bool) else (0, false)).2 = true := h
        rw [e2] at h2
        cases h2
      | true =>
        refine ⟨c, r, d, rfl, e, e2, ?_⟩
        rw [dgF_cons, e]
        show (if leads b (n * b + d) then (1, true) else (0, false)) = _
        rw [e2]
        rfl
theorem dgF_no {b n : Nat} {l : List Nat} (h : (dgF b n l).2 = false) : dgF b n l = (0, false) := by
  cases l with
  | nil => rfl
  | cons c r =>
    rw [dgF_cons] at h ⊢
    cases e : dig b c with
    | none => rfl
    | some d =>
      rw [e] at h
      have h2 : (if leads b (n * b + d) then ((1, true) : Nat × Bool) else (0, false)).2 = false := h
      show (if leads b (n * b + d) then ((1, true) : Nat × Bool) else (0, false)) = _
      cases e2 : leads b (n * b + d) with
      | false => rfl
      | true => rw [e2] at h2; cases h2
theorem dgN_cons (b acc : Nat) (st : Bool) (c : Nat) (r : List Nat) : dgN b acc st (c :: r) = match dig b c with
    | some d => if leads b (acc * b + d) then ((dgN b (acc * b + d) true r).1 + 1, (dgN b (acc * b + d) true r).2) else (0, false)
    | none => if c = 59 ∧ st = true ∧ known acc = true then (1, true) else (0, false) := rfl
theorem dgN_go {b acc c d : Nat} {st : Bool} {r : List Nat} (h : dig b c = some d) (hl : leads b (acc * b + d) = true) : dgN b acc st (c :: r) = ((dgN b (acc * b + d) true r).1 + 1, (dgN b (acc * b + d) true r).2) := by
  rw [dgN_cons, h]
  show (if leads b (acc * b + d) then _ else _) = _
  rw [hl, if_pos rfl]
theorem dgN_bad {b acc : Nat} {st : Bool} {l : List Nat} (h : (dgF b acc l).2 = false) (hs : st = false ∨ ∀ r, l ≠ 59 :: r) : dgN b acc st l = (0, false) := by
  cases l with
  | nil => rfl
  | cons c r =>
    rw [dgN_cons]
    have h1 := dgF_no h
    rw [dgF_cons] at h1
    cases e : dig b c with
    | none =>
      show (if c = 59 ∧ st = true ∧ known acc = true then _ else _) = _
      refine if_neg ?_
      rintro ⟨rfl, h3, _⟩
      rcases hs with hs | hs
      · rw [hs] at h3
        cases h3
      · exact hs r rfl
    | some d =>
      rw [e] at h1
      have h2 : (if leads b (acc * b + d) then ((1, true) : Nat × Bool) else (0, false)) = (0, false) := h1
      show (if leads b (acc * b + d) then _ else _) = _
      cases e2 : leads b (acc * b + d) with
      | false => rfl
      | true => rw [e2] at h2; cases h2
theorem dgN_end {b acc : Nat} {r : List Nat} : dgN b acc true (59 :: r) = if known acc = true then (1, true) else (0, false) := by
  have e : dig b 59 = none := by simp [dig]
  rw [dgN_cons, e]
  show (if 59 = 59 ∧ true = true ∧ known acc = true then _ else _) = _
  by_cases h : known acc = true
  · rw [if_pos ⟨rfl, rfl, h⟩, if_pos h]
  · rw [if_neg (fun z => h z.2.2), if_neg h]
theorem glob_dec {X : Cx} {pos : Pos} (T : Tx X.w X.K X.mg) (hg : Gl X "DECIMAL") : PE X (.Name "DECIMAL" pos) (tC (.str (dgS 10))) := by
  obtain ⟨t, e⟩ := c_DECIMAL T
  exact pe_glob hg e ⟨t, rfl⟩
theorem glob_hex {X : Cx} {pos : Pos} (T : Tx X.w X.K X.mg) (hg : Gl X "HEXADECIMAL") : PE X (.Name "HEXADECIMAL" pos) (tC (.str (dgS 16))) := by
  obtain ⟨t, e⟩ := c_HEXADECIMAL T
  exact pe_glob hg e ⟨t, rfl⟩
theorem exN_one {c : Nat} {r : List Nat} : exN [c] (c :: r) = (1, true) := by
  unfold exN
  rw [if_pos rfl]
  rfl
theorem nrN_x (r : List Nat) : nrN (120 :: r) = ((dgN 16 0 false r).1 + 1, (dgN 16 0 false r).2) := rfl
theorem nrN_d {l : List Nat} (h : ∀ r, l ≠ 120 :: r) : nrN l = dgN 10 0 false l := by
  unfold nrN
  split
  · rename_i r
    exact absurd rfl (h r)
  · rfl
section
variable {P : Program} {w : World} {K : PySem.W.Frag} {mg : Str → Option Value} {base : Heap}
def spNum (K : PySem.W.Frag) : Sp := fun vs H Q E => ∃ (z : Str) (i : Nat) (r : List Nat), (tl z).drop i = 35 :: r ∧ spS K [] z i ((nrN r).1 + 1, (nrN r).2) (fun v => ∃ y : Str, v = .str y ∧ y.length ≤ 1) vs H Q E
theorem ok_read_numbered (T : Tx w K mg) : Ok P w K mg base (L2.CX P w) 5 (He.fAd K d_Scanner_read_numbered_reference.at_) p_Scanner_read_numbered_reference (spNum K) := by
  obtain ⟨fd, F⟩ := f_Scanner_read_numbered_reference T
  obtain ⟨fP, GP, bP, kP⟩ := ok_peek (P := P) (base := base) T
  obtain ⟨fX, GX, bX, kX⟩ := ok_expect (P := P) (base := base) T
  obtain ⟨fD, GD, bD, kD⟩ := ok_read_digit (P := P) (base := base) T
  obtain ⟨fR, GR, bR, kR⟩ := ok_referred_sign (P := P) (base := base) T
  refine ⟨fd, ?_, b_Scanner_read_numbered_reference F, F.kp⟩
  refine F.ok sc_Scanner_read_numbered_reference (fun vs H Q E h => ?_) (fun cdv A outer s H vs Q E hr h => ?_)
  · obtain ⟨z, i, r, _, p, dx, rfl, _⟩ := h
    rfl
  · obtain ⟨z, i, r, h35, p, dx, rfl, a, g, hi, kok, kno⟩ := h
    have hlen : z.length = (tl z).length := len_tl z
    have nd := sc_Scanner_read_numbered_reference.nd
    refine ⟨_, pss_cons (ps_expr (pe_meth (E := E) (pv 0) (cls_Scanner T) (m_Scanner_expect T) GX (hr.mono (by decide)) bX .nil (passes_call (takes_of rfl rfl rfl rfl) (fun _ _ _ _ h => h)) (pa_cons pe_str pa_nil)))
      (pss_cons (ps_set (i := 1) nd rfl (.inl rfl) (glob_dec T rfl))
      (Evl.pss_cut (ps_if (pt_cmpR op_eq (pe_meth0 (E := E0) (pv 0) (cls_Scanner T) (m_Scanner_peek T) GP (hr.mono (by decide)) bP .nil pass0) pe_str (nomark _)) (pss_cons (ps_fldaug (pv 0) pe_int ip_add) (pss_one (ps_set (i := 1) nd rfl (.inl rfl) (glob_hex T rfl)))) pss_nil)
      (pss_cons (ps_set (i := 2) nd rfl (.inl rfl) (pe_meth (E := E) (pv 0) (cls_Scanner T) (m_Scanner_read_digit T) GD (hr.mono (by decide)) bD .nil (passes_call (takes_of rfl rfl rfl rfl) (fun _ _ _ _ h => h)) (pa_cons pe_int (pa_cons (pv 1) pa_nil))))
      (pss_cons (ps_while (passes_of rfl) (pt_cmpR op_ne (pe_meth0 (E := E0) (pv 0) (cls_Scanner T) (m_Scanner_peek T) GP (hr.mono (by decide)) bP .nil pass0) pe_str (nomark _))
        (pss_one (ps_set (i := 2) nd rfl (.inl rfl) (pe_meth (E := E) (pv 0) (cls_Scanner T) (m_Scanner_read_digit T) GD (hr.mono (by decide)) bD .nil (passes_call (takes_of rfl rfl rfl rfl) (fun _ _ _ _ h => h)) (pa_cons (pv 2) (pa_cons (pv 1) pa_nil))))))
      (pss_cons (ps_set (i := 3) nd rfl (.inl rfl) (pe_call (E := E0) GR (hr.mono (by decide)) rfl (g_referred_sign T) kR bR .nil pass0 (pa_cons (pv 2) pa_nil)))
      (pss_cons (ps_if (pt_cmpR op_eq (pv 3) pe_str (nomark _)) (pss_one (ps_raise rfl (takes_of rfl rfl rfl rfl) (pmk_nd T (hr.mono (by decide)) (pa_cons (pe_fld (pv 0) rfl) pa_nil)))) pss_nil)
      (pss_cons (ps_fldaug (pv 0) pe_int ip_add)
      (pss_one (ps_ret (pv 3)))))))))), ?_⟩
    have ex : exN (tl (Str.ofString "#")) ((tl z).drop i) = (1, true) := by
      rw [h35]
      exact exN_one
    have hdc := drop_cons h35
    refine ⟨_, rfl, p, dx, _, rfl, a, sc_no (by decide +kernel) (by decide +kernel), z, Str.ofString "#", i, p, dx, rfl, a, g, hi, fun e1 H1 y hy m => ?_, fun e1 H1 d f => ?_⟩
    · rw [ex] at m
      have m1 : Mv K H H1 p dx z (i + 1) := m
      refine ⟨fun σ H1 => ∃ b k u v, (b = 10 ∨ b = 16) ∧ σ = [some (V.ref p), some (.str (dgS b)), u, v] ∧ Mv K H H1 p dx z (i + 1 + k) ∧ i + 1 + k ≤ z.length ∧ nrN r = ((dgN b 0 false ((tl z).drop (i + 1 + k))).1 + k, (dgN b 0 false ((tl z).drop (i + 1 + k))).2), ?_, ?_⟩
      · refine ⟨_, rfl, p, dx, _, rfl, m1.2, sc_no (by decide +kernel) (by decide +kernel), p, dx, z, _, rfl, m1.2, g, rfl, _, rfl, ?_⟩
        rw [sg_lit _ (c := 120), hdc.2]
        refine ite2 (fun q => ?_) (fun q => ?_)
        · obtain ⟨r', hr'⟩ := hB_true q
          have hd2 := drop_cons (hdc.2.trans hr')
          refine ⟨_, rfl, p, CSc K, dx, _, _, rfl, m1.2, cls_Scanner T, na_Scanner_at T, sc_at, _, _, rfl, rfl, dx, _, m1.2, (by show 2 < 1000; decide), inc_ok ?_⟩
          refine ⟨16, 1, none, none, .inr rfl, rfl, m1.up, by omega, ?_⟩
          rw [hd2.2, hr', nrN_x]
        · refine ⟨10, 0, none, none, .inl rfl, rfl, m1, by omega, ?_⟩
          rw [Nat.add_zero, Nat.add_zero, hdc.2]
          exact nrN_d (hB_false q)
      · rintro σ H2 ⟨b, k, u, v, hb, rfl, m2, hk, e⟩
        refine ⟨_, rfl, p, dx, _, rfl, m2.2, sc_no (by decide +kernel) (by decide +kernel), _, rfl, z, i + 1 + k, 0, b, hb, p, dx, rfl, m2.2, g, hk, fun e3 H3 y3 hy3 m3 => ?_, fun e3 H3 d f => ?_⟩
        · obtain ⟨c, r9, d, h1, h2, h3, h4⟩ := dgF_ok e3
          obtain ⟨c', r', d', h1', h2', rfl⟩ := hy3
          rw [h1] at h1'
          cases h1'
          rw [h2] at h2'
          cases h2'
          rw [h4] at m3
          have hd4 := drop_cons h1
          have e4 : nrN r = ((dgN b (0 * b + d) true ((tl z).drop (i + 1 + k + 1))).1 + (i + 1 + k + 1 - (i + 1)), (dgN b (0 * b + d) true ((tl z).drop (i + 1 + k + 1))).2) := by
            rw [e, h1, dgN_go h2 h3, hd4.2]
            dsimp only
            rw [show (dgN b (0 * b + d) true r9).1 + 1 + k = (dgN b (0 * b + d) true r9).1 + (i + 1 + k + 1 - (i + 1)) by omega]
          refine while_x (fun mm σ H1 => ∃ (j acc : Nat) (v : Option V), mm = z.length - j ∧ σ = [some (V.ref p), some (.str (dgS b)), some (.int (acc : Int)), v] ∧ j ≤ z.length ∧ Mv K H H1 p dx z j ∧ i + 1 ≤ j ∧ nrN r = ((dgN b acc true ((tl z).drop j)).1 + (j - (i + 1)), (dgN b acc true ((tl z).drop j)).2))
            (fun σ H1 => ∃ (j acc : Nat) (v : Option V) (r9 : List Nat), σ = [some (V.ref p), some (.str (dgS b)), some (.int (acc : Int)), v] ∧ j ≤ z.length ∧ Mv K H H1 p dx z j ∧ i + 1 ≤ j ∧ nrN r = ((dgN b acc true ((tl z).drop j)).1 + (j - (i + 1)), (dgN b acc true ((tl z).drop j)).2) ∧ (tl z).drop j = 59 :: r9)
            ⟨_, i + 1 + k + 1, 0 * b + d, v, rfl, rfl, by omega, m2.trans m3, by omega, e4⟩ ?_ ?_
          · rintro σ H4 ⟨j, acc, v, r9, rfl, hj, m4, hij, e5, h59⟩
            rw [h59, dgN_end] at e5
            have hd9 := drop_cons h59
            refine ⟨_, rfl, acc, rfl, ?_⟩
            refine ⟨_, rfl, rfl, _, rfl, ?_⟩
            by_cases kn : known acc = true
            · rw [if_pos kn] at e5
              rw [if_pos kn, show decide (V.str (mkS [acc]) = V.str (Str.ofString "")) = false by rw [dec_str, tl_mkS]; rfl]
              refine iteF ?_
              refine ⟨_, rfl, p, CSc K, dx, _, _, rfl, m4.2, cls_Scanner T, na_Scanner_at T, sc_at, _, _, rfl, rfl, dx, _, m4.2, (by show 2 < 1000; decide), inc_ok ?_⟩
              rw [e5] at kok
              exact ⟨_, rfl, kok rfl _ _ ⟨_, rfl, Nat.le_refl _⟩ (m4.up.eq (by show j + 1 = i + (1 + (j - (i + 1)) + 1); omega))⟩
            · rw [if_neg kn] at e5
              rw [if_neg kn, show decide (V.str (mkS []) = V.str (Str.ofString "")) = true by decide +kernel]
              refine iteT ?_
              rw [e5] at kno
              exact ⟨_, rfl, p, CSc K, dx, _, _, rfl, m4.2, cls_Scanner T, na_Scanner_at T, sc_at, nd_ok (g.log hj) fun d y hd => kno rfl _ d ((m4.raise a.ne hd).eq (by show j = i + (0 + (j - (i + 1)) + 1); omega))⟩
          · rintro - mm σ H4 R ⟨j, acc, v, rfl, rfl, hj, m4, hij, e5⟩ hfin hbody
            refine ⟨_, rfl, p, dx, _, rfl, m4.2, sc_no (by decide +kernel) (by decide +kernel), p, dx, z, _, rfl, m4.2, g, rfl, _, rfl, ?_⟩
            show R (!decide (V.str (sg ((tl z).drop j)) = V.str (Str.ofString ";"))) H4
            rw [sg_lit _ (c := 59)]
            cases q : hB (· == 59) ((tl z).drop j) with
            | true =>
              obtain ⟨r9, h9⟩ := hB_true q
              exact hfin _ ⟨j, acc, v, r9, rfl, hj, m4, hij, e5, h9⟩
            | false =>
              refine hbody _ ?_
              refine ⟨_, rfl, p, dx, _, rfl, m4.2, sc_no (by decide +kernel) (by decide +kernel), _, rfl, _, rfl, z, j, acc, b, hb, p, dx, rfl, m4.2, g, hj, fun e6 H6 y6 hy6 m6 => ?_, fun e6 H6 d f => ?_⟩
              · obtain ⟨c, r9, d, h1, h2, h3, h4⟩ := dgF_ok e6
                obtain ⟨c', r', d', h1', h2', rfl⟩ := hy6
                rw [h1] at h1'
                cases h1'
                rw [h2] at h2'
                cases h2'
                rw [h4] at m6
                have hd4 := drop_cons h1
                refine ⟨z.length - (j + 1), by omega, j + 1, acc * b + d, v, rfl, rfl, by omega, m4.trans m6, by omega, ?_⟩
                rw [e5, h1, dgN_go h2 h3, hd4.2]
                dsimp only
                rw [show (dgN b (acc * b + d) true r9).1 + 1 + (j - (i + 1)) = (dgN b (acc * b + d) true r9).1 + (j + 1 - (i + 1)) by omega]
              · have z1 := dgN_bad (st := true) e6 (.inr (hB_false (by rw [q]; exact Bool.false_ne_true)))
                rw [z1] at e5
                rw [e5] at kno
                rw [dgF_no e6] at f
                exact kno rfl _ d ((m4.fl a.ne f).eq (by show j + 0 = i + (0 + (j - (i + 1)) + 1); omega))
        · have z1 := dgN_bad (st := false) e3 (.inl rfl)
          rw [z1] at e
          rw [e] at kno
          rw [dgF_no e3] at f
          exact kno rfl _ d ((m2.fl a.ne f).eq (by show i + 1 + k + 0 = i + (0 + k + 1); omega))
    · rw [ex] at e1
      cases e1
end
end K2
/-! K02Sc8 -/
namespace K2
open PySem PySem.Spec PyProof.Rows L2 TL
/-! ### the table of named signs -/
def namedS : List Str := ["lt;", "gt;", "amp;", "quot;", "apos;"]
theorem named_tl : namedS.map tl = namedW := by decide +kernel
theorem dicW_at {K : PySem.W.Frag} {w : World} {a : Addr} {ks : List Str} (h : He.dicW K a = some (He.keysIn w.params ks)) :
    ∃ es n, K.lookup a = some ⟨.type "dict", none, .dict es n, #[]⟩ ∧ es.toList.map He.keyOf = He.keysIn w.params ks ∧ (a == sysModules) = false := by
  obtain ⟨es, n, D⟩ := He.dicW_ok h
  refine ⟨es, n, D.at_, ?_, D.low⟩
  unfold He.dicW at h
  rw [D.at_] at h
  have h1 : (match decide (("dict" : String) = "dict") && ((#[] : Array (Option Value)).isEmpty && !(a == sysModules)) with
    | true => some (es.toList.map He.keyOf)
    | false => none) = some (He.keysIn w.params ks) := h
  rw [D.low] at h1
  exact Option.some.inj h1
theorem keys_str {P : Program} {w : World} : ∀ {l : List DictEntry} {ks : List Str}, l.map He.keyOf = He.keysIn w.params ks →
    ∃ kvs : List (Str × Value), kvs.map (·.1) = ks ∧ Pairs (PySem.strKind P w) l kvs
  | [], [], _ => ⟨[], rfl, .nil⟩
  | [], k :: ks, h => by cases h
  | e :: l, [], h => by cases h
  | e :: l, k :: ks, h => by
    have h0 : He.keyOf e :: l.map He.keyOf = some (k, PyData.keyHash w.params k) :: He.keysIn w.params ks := h
    injection h0 with h1 h2
    obtain ⟨kvs, e1, e2⟩ := keys_str (P := P) h2
    unfold He.keyOf at h1
    split at h1
    · rename_i x t q
      have h4 := Option.some.inj h1
      have h5 : x = k := congrArg Prod.fst h4
      refine ⟨(k, e.val) :: kvs, by simp [e1], .cons ?_ rfl e2⟩
      rw [q, h5]
      exact PySem.strKind_is P w k t
    · cases h1
theorem vals_at : ∀ {vs : List V} {us : List Value}, us.length = vs.length → (∀ (j : Nat) (u : Value), us[j]? = some u → ∃ x, vs[j]? = some x ∧ RelV x u) → Vals vs us
  | [], [], _, _ => .nil
  | [], _ :: _, h, _ => by simp at h
  | _ :: _, [], h, _ => by simp at h
  | v :: vs, u :: us, h, k => by
    obtain ⟨x, e, r⟩ := k 0 u rfl
    have e2 : v = x := Option.some.inj e
    subst e2
    exact .cons r (vals_at (by simpa using h) fun j u2 e3 => k (j + 1) u2 e3)
theorem call_list_named {X : Cx} (T : Tx X.w X.K X.mg) (hcalm : X.calm = true) : CallR X (.type "list") (fun xs H Q => xs = [.ref (He.ga X.K "NAMED_SIGNS")] ∧ ∀ p, H p = none → Q (.ref p) (upd H p (.lst (namedS.map V.str)))) := by
  intro pins s σ H xs us Q I r q
  obtain ⟨ex, q⟩ := q
  subst ex
  obtain ⟨u, eu, rx⟩ := vals1 r
  subst eu
  cases rx
  obtain ⟨es, n, hl, hk, lo⟩ := dicW_at T.tab
  obtain ⟨kvs, e1, e2⟩ := keys_str (P := X.prog) hk
  have lit := He.keysLit_of hk
  have nd : (kvs.map (·.1)).Nodup := by
    rw [e1]
    decide +kernel
  have hlen : kvs.length = 5 := by
    have := congrArg List.length e1
    simpa using this
  have hat : s.heap.DictAt (PySem.strKind X.prog X.w) (He.ga X.K "NAMED_SIGNS") kvs n := by
    obtain ⟨o, es', n', h1, h2, h3, h4, _⟩ := PySem.W.mapOf_K (prog := X.prog) (w := X.w) I.kIn hl lit
    have h5 := (I.kIn _ _ hl).symm.trans h1
    cases h5
    cases h3
    exact ⟨_, es, h1, h2, rfl, h4, e2, nd⟩
  refine PySem.W.kdl_call (PySem.W.kdl_dict (knd := PySem.strKind X.prog X.w) (kvs := kvs) (ep := n) lo) (I.ok.hd hcalm) hat (by rw [hlen]; decide) fun h' tk acc c' hk' hD hacc => ?_
  have hv : Vals (namedS.map V.str) acc.toList := by
    refine vals_at ?_ fun j u e => ?_
    · rw [Array.length_toList, hacc.1, hlen]
      rfl
    · obtain ⟨k, x, e3, e4⟩ := hacc.2 j u (by rw [← Array.getElem?_toList]; exact e)
      have e5 : namedS[j]? = some k := by
        have h1 : (kvs.map (·.1))[j]? = some k := by rw [List.getElem?_map, e3]; rfl
        rw [e1] at h1
        exact h1
      refine ⟨.str k, by rw [List.getElem?_map, e5]; rfl, ?_⟩
      have e6 : Value.isStrOf k u = true := e4
      cases u with
      | str y t =>
        refine ⟨t, ?_⟩
        have e7 : y = k := by
          unfold Value.isStrOf at e6
          first | exact (of_decide_eq_true e6).symm | exact of_decide_eq_true e6 | exact eq_of_beq e6 | exact (eq_of_beq e6).symm
        rw [e7]
      | _ => cases e6
  refine ⟨.ref s.heap.objs.size, upd H s.heap.objs.size (.lst (namedS.map V.str)), I.laid (t' := tk) hk' (Nat.le_refl _)
    (show ObjOk X.prog X.w _ _ _ (.lst (namedS.map V.str)) from ⟨by decide, acc.toList, c', hv, by rw [Array.toArray_toList]; exact hD⟩), rfl, q _ (I.hok.fresh (Nat.le_refl _))⟩
theorem oneN_mem : ∀ {ws : List (List Nat)} {l : List Nat}, (oneN ws l).2 = true → l.take (oneN ws l).1 ∈ ws
  | _, [], h => by simp [oneN] at h
  | ws, c :: r, h => by
    unfold oneN at h ⊢
    by_cases h1 : stepW ws c = []
    · rw [if_pos h1] at h
      cases h
    · rw [if_neg h1] at h ⊢
      by_cases h2 : [] ∈ stepW ws c
      · rw [if_pos h2]
        exact mem_step.mp h2
      · rw [if_neg h2] at h ⊢
        exact mem_step.mp (oneN_mem h)
theorem named_get {K : PySem.W.Frag} {w : World} {mg : Str → Option Value} (T : Tx w K mg) {y : Str} (h : y ∈ namedS) : ∃ x : Str, x.length ≤ 1 ∧ KDct K w (He.ga K "NAMED_SIGNS") y (.str x) := by
  obtain ⟨_, _, _, _, _, hv⟩ := more_of T
  obtain ⟨es, n, D⟩ := He.dicW_ok T.tab
  have key : ∀ q ∈ namedKvs, q.1 = y → ∀ x, q.2 = .str x → KDct K w (He.ga K "NAMED_SIGNS") y (.str x) := by
    intro q hq e1 x e2
    obtain ⟨u, e3, e4⟩ := He.valsB_ok hv hq
    rw [e2] at e4
    rw [e1] at e3
    exact ⟨es, n, u, D.at_, D.lit, e3, e4⟩
  have h2 : ∃ q ∈ namedKvs, q.1 = y ∧ ∃ x : Str, q.2 = .str x ∧ x.length ≤ 1 := by
    unfold namedS at h
    simp only [List.mem_cons, List.not_mem_nil, or_false] at h
    rcases h with rfl | rfl | rfl | rfl | rfl
    · exact ⟨_, List.mem_cons_self, rfl, _, rfl, by decide⟩
    · exact ⟨_, List.mem_cons_of_mem _ List.mem_cons_self, rfl, _, rfl, by decide⟩
    · exact ⟨_, List.mem_cons_of_mem _ (List.mem_cons_of_mem _ List.mem_cons_self), rfl, _, rfl, by decide⟩
    · exact ⟨_, List.mem_cons_of_mem _ (List.mem_cons_of_mem _ (List.mem_cons_of_mem _ List.mem_cons_self)), rfl, _, rfl, by decide⟩
    · exact ⟨_, List.mem_cons_of_mem _ (List.mem_cons_of_mem _ (List.mem_cons_of_mem _ (List.mem_cons_of_mem _ List.mem_cons_self))), rfl, _, rfl, by decide⟩
  obtain ⟨q, hq, e1, x, e2, e3⟩ := h2
  exact ⟨x, e3, key q hq e1 x e2⟩
theorem rfN_num {r : List Nat} : rfN (35 :: r) = ((nrN r).1 + 1, (nrN r).2) := rfl
theorem rfN_nam {l : List Nat} (h : ∀ r, l ≠ 35 :: r) : rfN l = oneN namedW l := by
  unfold rfN
  split
  · rename_i r
    exact absurd rfl (h r)
  · rfl
section
variable {P : Program} {w : World} {K : PySem.W.Frag} {mg : Str → Option Value} {base : Heap}
def spRef (K : PySem.W.Frag) : Sp := fun vs H Q E => ∃ (z : Str) (i : Nat) (r : List Nat), (tl z).drop i = 38 :: r ∧ spS K [] z i ((rfN r).1 + 1, (rfN r).2) (fun v => ∃ y : Str, v = .str y ∧ y.length ≤ 1) vs H Q E
theorem ok_read_reference (T : Tx w K mg) : Ok P w K mg base (L2.CX P w) 6 (He.fAd K d_Scanner_read_reference.at_) p_Scanner_read_reference (spRef K) := by
  obtain ⟨fd, F⟩ := f_Scanner_read_reference T
  obtain ⟨fP, GP, bP, kP⟩ := ok_peek (P := P) (base := base) T
  obtain ⟨fX, GX, bX, kX⟩ := ok_expect (P := P) (base := base) T
  obtain ⟨fN, GN, bN, kN⟩ := ok_read_numbered (P := P) (base := base) T
  obtain ⟨fO, GO, bO, kO⟩ := ok_read_one_of (P := P) (base := base) T
  refine ⟨fd, ?_, b_Scanner_read_reference F, F.kp⟩
  refine F.ok sc_Scanner_read_reference (fun vs H Q E h => ?_) (fun cdv A outer s H vs Q E hr h => ?_)
  · obtain ⟨z, i, r, _, p, dx, rfl, _⟩ := h
    rfl
  · obtain ⟨z, i, r, h38, p, dx, rfl, a, g, hi, kok, kno⟩ := h
    have hlen : z.length = (tl z).length := len_tl z
    refine ⟨_, pss_cons (ps_expr (pe_meth (E := E) (pv 0) (cls_Scanner T) (m_Scanner_expect T) GX (hr.mono (by decide)) bX .nil (passes_call (takes_of rfl rfl rfl rfl) (fun _ _ _ _ h => h)) (pa_cons pe_str pa_nil)))
      (pss_cons (ps_if (pt_cmpR op_eq (pe_meth0 (E := E0) (pv 0) (cls_Scanner T) (m_Scanner_peek T) GP (hr.mono (by decide)) bP .nil pass0) pe_str (nomark _)) (pss_one (ps_ret (pe_meth0 (E := E) (pv 0) (cls_Scanner T) (m_Scanner_read_numbered_reference T) GN hr bN .nil (passes_call (takes_of rfl rfl rfl rfl) (fun _ _ _ _ h => h))))) pss_nil)
      (pss_one (ps_ret (pe_ix ix_kdict (pe_glob (v := .ref (He.ga K "NAMED_SIGNS")) rfl (g_NAMED_SIGNS T) rfl)
        (pe_meth (E := E) (pv 0) (cls_Scanner T) (m_Scanner_read_one_of T) GO (hr.mono (by decide)) bO .nil (passes_call (takes_of rfl rfl rfl rfl) (fun _ _ _ _ h => h))
          (pa_cons (pe_callTy (call_list_named T rfl) (by rfl) (n_list T) (by decide +kernel) (pa_cons (pe_glob (v := .ref (He.ga K "NAMED_SIGNS")) rfl (g_NAMED_SIGNS T) rfl) pa_nil)) pa_nil)) (fun _ _ => rfl))))), ?_⟩
    have ex : exN (tl (Str.ofString "&")) ((tl z).drop i) = (1, true) := by
      rw [h38]
      exact exN_one
    have hdc := drop_cons h38
    refine ⟨_, rfl, p, dx, _, rfl, a, sc_no (by decide +kernel) (by decide +kernel), z, Str.ofString "&", i, p, dx, rfl, a, g, hi, fun e1 H1 y hy m => ?_, fun e1 H1 d f => ?_⟩
    · rw [ex] at m
      have m1 : Mv K H H1 p dx z (i + 1) := m
      refine ⟨_, rfl, p, dx, _, rfl, m1.2, sc_no (by decide +kernel) (by decide +kernel), p, dx, z, _, rfl, m1.2, g, rfl, _, rfl, ?_⟩
      rw [sg_lit _ (c := 35), hdc.2]
      refine ite2 (fun q => ?_) (fun q => ?_)
      · obtain ⟨r', hr'⟩ := hB_true q
        rw [hr', rfN_num] at kok kno
        refine ⟨_, rfl, p, dx, _, rfl, m1.2, sc_no (by decide +kernel) (by decide +kernel), z, i + 1, r', hdc.2.trans hr', p, dx, rfl, m1.2, g, by omega, fun e3 H3 y3 hy3 m3 => ?_, fun e3 H3 d f => ?_⟩
        · exact kok e3 _ _ hy3 ((m1.trans m3).eq (by show i + 1 + ((nrN r').1 + 1) = i + ((nrN r').1 + 1 + 1); omega))
        · exact kno e3 _ d ((m1.fl a.ne f).eq (by show i + 1 + ((nrN r').1 + 1) = i + ((nrN r').1 + 1 + 1); omega))
      · rw [rfN_nam (hB_false q)] at kok kno
        refine ⟨_, rfl, p, dx, _, rfl, m1.2, sc_no (by decide +kernel) (by decide +kernel), rfl, fun L hL => ?_⟩
        have m2 : Mv K H (upd H1 L (.lst (namedS.map V.str))) p dx z (i + 1) := SameB.mv m1 (same_new hL)
        refine ⟨z, i + 1, L, namedS, .inl upd_same, by decide, p, dx, rfl, m2.2, g, by omega, fun e3 H3 y3 hy3 m3 => ?_, fun e3 H3 d f => ?_⟩
        · rw [named_tl, hdc.2] at e3 hy3 m3
          have hy4 : y3 = V.str (mkS (r.take (oneN namedW r).1)) := hy3
          have hmem : mkS (r.take (oneN namedW r).1) ∈ namedS := by
            have h1 : r.take (oneN namedW r).1 ∈ namedS.map tl := by
              rw [named_tl]
              exact oneN_mem e3
            obtain ⟨wd, h2, h3⟩ := List.mem_map.mp h1
            rw [← h3, mkS_tl]
            exact h2
          obtain ⟨x, hx, hk⟩ := named_get T hmem
          refine ⟨_, _, _, rfl, hy4, hk, ?_⟩
          exact kok e3 _ _ ⟨x, rfl, hx⟩ ((m2.trans m3).eq (by show i + 1 + (oneN namedW r).1 = i + ((oneN namedW r).1 + 1); omega))
        · rw [named_tl, hdc.2] at e3 f
          exact kno e3 _ d ((m2.fl a.ne f).eq (by show i + 1 + (oneN namedW r).1 = i + ((oneN namedW r).1 + 1); omega))
    · rw [ex] at e1
      cases e1
end
end K2
/-! K02Sc9 -/
namespace K2
open PySem PySem.Spec PyProof.Rows L2 TL
theorem vbN_cons (q c : Nat) (r : List Nat) : vbN q (c :: r) = if c = q then (1, true) else if c = 38 then
      (if (rfN r).2 then ((vbN q (r.drop (rfN r).1)).1 + (rfN r).1 + 1, (vbN q (r.drop (rfN r).1)).2) else ((rfN r).1 + 1, false))
    else if c = 60 then (0, false) else ((vbN q r).1 + 1, (vbN q r).2) := by rw [vbN]
theorem vbN_nil (q : Nat) : vbN q [] = (0, false) := by rw [vbN]
theorem SameB.newL {p L : Addr} {H H1 : Hp} {o : HO} (s : SameB p H H1) (hL : H L = none) : SameB p H (upd H1 L o) := fun b u n h => by
  rw [upd_ne (ne_of_none h hL)]
  exact s b u n h
theorem oneN_q (c : Nat) (r : List Nat) : oneN [[34], [39]] (c :: r) = if c = 34 ∨ c = 39 then (1, true) else (0, false) := by
  unfold oneN
  by_cases h1 : c = 34
  · subst h1
    rfl
  · by_cases h2 : c = 39
    · subst h2
      rfl
    · have e : stepW [[34], [39]] c = [] := by
        simp [stepW, Ne.symm h1, Ne.symm h2]
      rw [if_pos e, if_neg (by rintro (h | h); exact h1 h; exact h2 h)]
theorem vlN_cons (c : Nat) (r : List Nat) : vlN (c :: r) = if c = 34 ∨ c = 39 then ((vbN c r).1 + 1, (vbN c r).2) else (0, false) := rfl
theorem vlN_nil : vlN [] = (0, false) := rfl
theorem in_stop (l : List Nat) : inV (.str (sg l)) [.str (Str.ofString ""), .str (Str.ofString "<")] = match l with
    | [] => true
    | c :: _ => c == 60 := by
  show (eqV _ _ || (eqV _ _ || false)) = _
  rw [eqV_str, eqV_str, lit (s := "") (l := []), lit (s := "<") (l := [60]), tl_mkS, tl_mkS, tl_mkS]
  cases l with
  | nil => rfl
  | cons c r =>
    show (decide ([] = [c]) || (decide ([60] = [c]) || false)) = (c == 60)
    rw [dec1, Bool.or_false]
    simp
section
variable {P : Program} {w : World} {K : PySem.W.Frag} {mg : Str → Option Value} {base : Heap}
def spAtt (K : PySem.W.Frag) : Sp := fun vs H Q E => ∃ (z : Str) (i : Nat), spS K [] z i (vlN ((tl z).drop i)) (fun v => ∃ y : Str, v = .str y) vs H Q E
theorem ok_read_attribute_text (T : Tx w K mg) : Ok P w K mg base (L2.CX P w) 7 (He.fAd K d_Scanner_read_attribute_text.at_) p_Scanner_read_attribute_text (spAtt K) := by
  obtain ⟨fd, F⟩ := f_Scanner_read_attribute_text T
  obtain ⟨fP, GP, bP, kP⟩ := ok_peek (P := P) (base := base) T
  obtain ⟨fB, GB, bB, kB⟩ := ok_is_blank (P := P) (base := base) T
  obtain ⟨fO, GO, bO, kO⟩ := ok_read_one_of (P := P) (base := base) T
  obtain ⟨fR, GR, bR, kR⟩ := ok_read_reference (P := P) (base := base) T
  refine ⟨fd, ?_, b_Scanner_read_attribute_text F, F.kp⟩
  refine F.ok sc_Scanner_read_attribute_text (fun vs H Q E h => ?_) (fun cdv A outer s H vs Q E hr h => ?_)
  · obtain ⟨z, i, p, dx, rfl, _⟩ := h
    rfl
  · obtain ⟨z, i, p, dx, rfl, a, g, hi, kok, kno⟩ := h
    have hlen : z.length = (tl z).length := len_tl z
    have nd := sc_Scanner_read_attribute_text.nd
    refine ⟨_, pss_cons (ps_set (i := 1) nd rfl (.inl rfl) (pe_meth (E := E) (pv 0) (cls_Scanner T) (m_Scanner_read_one_of T) GO (hr.mono (by decide)) bO .nil (passes_call (takes_of rfl rfl rfl rfl) (fun _ _ _ _ h => h)) (pa_cons (pe_tup (pa_cons pe_str (pa_cons pe_str pa_nil))) pa_nil)))
      (pss_cons (ps_set (i := 2) nd rfl (.inl rfl) (pe_lst pa_nil))
      (pss_cons (ps_while (passes_of rfl) (pt_cmpR op_ne (pe_meth0 (E := E0) (pv 0) (cls_Scanner T) (m_Scanner_peek T) GP (hr.mono (by decide)) bP .nil pass0) (pv 1) (nomark _))
        (pss_cons (ps_set (i := 3) nd rfl (.inl rfl) (pe_meth0 (E := E0) (pv 0) (cls_Scanner T) (m_Scanner_peek T) GP (hr.mono (by decide)) bP .nil pass0))
        (pss_cons (ps_if (pt_cmpR op_in_seq (pv 3) (pe_tup (pa_cons pe_str (pa_cons pe_str pa_nil))) (by rfl)) (pss_one (ps_raise rfl (takes_of rfl rfl rfl rfl) (pmk_nd T (hr.mono (by decide)) (pa_cons (pe_fld (pv 0) rfl) pa_nil)))) pss_nil)
        (pss_one (ps_if (pt_cmpR op_eq (pv 3) pe_str (nomark _))
          (pss_one (ps_expr (pe_bm PySem.F.plainAttrs_list PySem.F.slot_list_append PySem.F.type_list_append mt_append (pv 2) (pa_cons (pe_meth0 (E := E) (pv 0) (cls_Scanner T) (m_Scanner_read_reference T) GR hr bR .nil (passes_call (takes_of rfl rfl rfl rfl) (fun _ _ _ _ h => h))) pa_nil))))
          (pss_cons (ps_expr (pe_bm PySem.F.plainAttrs_list PySem.F.slot_list_append PySem.F.type_list_append mt_append (pv 2) (pa_cons (pe_ifExp (pt_val (pe_call (E := E0) GB (hr.mono (by decide)) rfl (g_is_blank T) kB bB .nil pass0 (pa_cons (pv 3) pa_nil))) pe_str (pv 3)) pa_nil)))
            (pss_one (ps_fldaug (pv 0) pe_int ip_add))))))))
      (pss_cons (ps_fldaug (pv 0) pe_int ip_add)
      (pss_one (ps_ret (pe_join pe_str (pv 2))))))), ?_⟩
    have eqs : ([Str.ofString "\"", Str.ofString "'"].map tl) = [[34], [39]] := by rfl
    refine ⟨_, rfl, p, dx, _, rfl, a, sc_no (by decide +kernel) (by decide +kernel), (by decide), fun t ht => ?_⟩
    have m0 : Mv K H (upd H t (.tup [.str (Str.ofString "\""), .str (Str.ofString "'")])) p dx z i := Mv.same a (same_new ht)
    refine ⟨z, i, t, [Str.ofString "\"", Str.ofString "'"], .inr upd_same, by decide, p, dx, rfl, m0.2, g, hi, fun e1 H1 y hy m => ?_, fun e1 H1 d f => ?_⟩
    · rw [eqs] at e1 hy m
      obtain ⟨q, r, hc⟩ : ∃ q r, (tl z).drop i = q :: r := by
        cases y : (tl z).drop i with
        | nil => rw [y] at e1; simp [oneN] at e1
        | cons c r => exact ⟨c, r, rfl⟩
      have hdc := drop_cons hc
      have hq : q = 34 ∨ q = 39 := by
        rw [hc, oneN_q] at e1
        by_cases h : q = 34 ∨ q = 39
        · exact h
        · rw [if_neg h] at e1
          cases e1
      rw [hc, oneN_q, if_pos hq] at hy m
      have hy2 : y = .str (mkS [q]) := hy
      subst hy2
      rw [hc, vlN_cons, if_pos hq] at kok kno
      have m1 : Mv K H H1 p dx z (i + 1) := m0.trans m
      refine ⟨Nat.zero_le _, fun L hL => ?_⟩
      have hL0 : H L = none := m1.1.free a.ne m1.2.ne hL
      have hLp : L ≠ p := fun e => m1.2.ne (by rw [← e]; exact hL)
      refine while_x (fun mm σ H2 => ∃ (j : Nat) (v : Option V) (ys : List Str), mm = z.length - j ∧ σ = [some (V.ref p), some (.str (mkS [q])), some (.ref L), v] ∧ j ≤ z.length ∧ Mv K H H2 p dx z j ∧ H2 L = some (.lst (ys.map V.str)) ∧ ys.length ≤ j ∧ (ys.map (·.length)).sum ≤ j ∧
          i + 1 ≤ j ∧ vbN q r = ((vbN q ((tl z).drop j)).1 + (j - (i + 1)), (vbN q ((tl z).drop j)).2))
        (fun σ H2 => ∃ (j : Nat) (v : Option V) (ys : List Str) (r9 : List Nat), σ = [some (V.ref p), some (.str (mkS [q])), some (.ref L), v] ∧ j ≤ z.length ∧ Mv K H H2 p dx z j ∧ H2 L = some (.lst (ys.map V.str)) ∧ ys.length ≤ j ∧ (ys.map (·.length)).sum ≤ j ∧
          i + 1 ≤ j ∧ vbN q r = ((vbN q ((tl z).drop j)).1 + (j - (i + 1)), (vbN q ((tl z).drop j)).2) ∧ (tl z).drop j = q :: r9)
        ⟨_, i + 1, none, [], rfl, rfl, by omega, ⟨m1.1.newL hL0, by rw [At, upd_ne hLp.symm]; exact m1.2⟩, upd_same, Nat.zero_le _, Nat.zero_le _, Nat.le_refl _, by rw [hdc.2, Nat.sub_self, Nat.add_zero]⟩ ?_ ?_
      · rintro σ H2 ⟨j, v, ys, r9, rfl, hj, m2, hl, h1, h2, hij, e2, h9⟩
        rw [h9, vbN_cons, if_pos rfl] at e2
        have hd9 := drop_cons h9
        refine ⟨_, rfl, p, CSc K, dx, _, _, rfl, m2.2, cls_Scanner T, na_Scanner_at T, sc_at, _, _, rfl, rfl, dx, _, m2.2, (by show 2 < 1000; decide), inc_ok ?_⟩
        refine ⟨⟨_, rfl⟩, _, rfl, Str.ofString "", L, ys, rfl, rfl, .inl (SqL.of ?_), ?_, ?_⟩
        · rw [upd_ne hLp]
          exact hl
        · have h3 : (Str.ofString "").length = 0 := by decide
          have := g.len
          rw [h3]
          omega
        · rw [e2] at kok
          exact kok rfl _ _ ⟨_, rfl⟩ (m2.up.eq (by show j + 1 = i + (1 + (j - (i + 1)) + 1); omega))
      · rintro - mm σ H2 R ⟨j, v, ys, rfl, rfl, hj, m2, hl, h1, h2, hij, e2⟩ hfin hbody
        refine ⟨_, rfl, p, dx, _, rfl, m2.2, sc_no (by decide +kernel) (by decide +kernel), p, dx, z, _, rfl, m2.2, g, _, rfl, rfl, _, rfl, ?_⟩
        show R (!decide (V.str (sg ((tl z).drop j)) = V.str ⟨#[q]⟩)) H2
        rw [sg_is]
        cases qq : hB (· == q) ((tl z).drop j) with
        | true =>
          obtain ⟨r9, h9⟩ := hB_true qq
          exact hfin _ ⟨j, v, ys, r9, rfl, hj, m2, hl, h1, h2, hij, e2, h9⟩
        | false =>
          have hnq := hB_false (c := q) (l := (tl z).drop j) (by rw [qq]; exact Bool.false_ne_true)
          refine hbody _ ?_
          refine ⟨_, rfl, p, dx, _, rfl, m2.2, sc_no (by decide +kernel) (by decide +kernel), p, dx, z, _, rfl, m2.2, g, ?_⟩
          refine ⟨_, rfl, (by decide), fun t2 ht2 => ⟨t2, _, rfl, .inr (SqT.of upd_same), rfl, rfl, ?_⟩⟩
          rw [if_neg Bool.false_ne_true]
          refine ⟨_, rfl, ?_⟩
          rw [in_stop]
          have m3 : Mv K H (upd H2 t2 (.tup [.str (Str.ofString ""), .str (Str.ofString "<")])) p dx z j := SameB.mv m2 (same_new ht2)
          have hl3 : upd H2 t2 (.tup [.str (Str.ofString ""), .str (Str.ofString "<")]) L = some (.lst (ys.map V.str)) := same_new ht2 _ _ hl
          generalize upd H2 t2 (.tup [.str (Str.ofString ""), .str (Str.ofString "<")]) = H3 at m3 hl3 ⊢
          have bad : vbN q ((tl z).drop j) = (0, false) → ∀ d y, H3 d = none → E (.ref (CN K)) (some d) (upd H3 d (.xd [("at", .int (j : Int)), ("why", y)])) := by
            intro e3 d y hd
            rw [e3] at e2
            rw [e2] at kno
            exact kno rfl _ d ((m3.raise a.ne hd).eq (by show j = i + (0 + (j - (i + 1)) + 1); omega))
          cases hcj : (tl z).drop j with
          | nil =>
            refine iteT ?_
            exact ⟨_, rfl, p, CSc K, dx, _, _, rfl, m3.2, cls_Scanner T, na_Scanner_at T, sc_at, nd_ok (g.log hj) fun d y hd => bad (by rw [hcj, vbN_nil]) d y hd⟩
          | cons c r' =>
            have hcq : ¬ c = q := fun e => hnq r' (by rw [hcj, e])
            have hdj := drop_cons hcj
            show if (c == 60) = true then _ else _
            refine ite2 (fun h60 => ?_) (fun h60 => ?_)
            · have h60' : c = 60 := by simpa using h60
              refine ⟨_, rfl, p, CSc K, dx, _, _, rfl, m3.2, cls_Scanner T, na_Scanner_at T, sc_at, nd_ok (g.log hj) fun d y hd => bad ?_ d y hd⟩
              rw [hcj, vbN_cons, if_neg hcq, if_neg (by omega), if_pos h60']
            · have h60' : ¬ c = 60 := by simpa using h60
              refine ⟨_, rfl, rfl, _, rfl, ?_⟩
              rw [sg_lit _ (c := 38)]
              show if (c == 38) = true then _ else _
              refine ite2 (fun h38 => ?_) (fun h38 => ?_)
              · have h38' : c = 38 := by simpa using h38
                subst h38'
                refine ⟨_, rfl, .inl ⟨rfl, _, SqL.of hl3⟩, _, rfl, p, dx, _, rfl, m3.2, sc_no (by decide +kernel) (by decide +kernel), z, j, r', hcj, p, dx, rfl, m3.2, g, hj, fun e5 H5 y5 hy5 m5 => ?_, fun e5 H5 d f => ?_⟩
                · obtain ⟨y, rfl, hy1⟩ := hy5
                  have hl5 := m5.1 _ _ hLp hl3
                  refine ⟨L, ys.map V.str, .str y, rfl, rfl, hl5, by rw [List.length_map, sizeLine_eq]; have := g.len; omega, ?_⟩
                  have m6 := m3.trans m5
                  have hle := rfN_le r'
                  have hrl : r'.length = z.length - (j + 1) := by
                    rw [← hdj.2, List.length_drop]
                    omega
                  refine ⟨z.length - (j + ((rfN r').1 + 1)), by omega, j + ((rfN r').1 + 1), _, ys ++ [y], rfl, rfl, by omega, ⟨m6.1.newL hL0, by rw [At, upd_ne hLp.symm]; exact m6.2⟩, ?_, ?_, ?_, by omega, ?_⟩
                  · rw [upd_same, List.map_append]
                    rfl
                  · rw [List.length_append]
                    show ys.length + 1 ≤ _
                    omega
                  · rw [List.map_append, List.sum_append]
                    show (ys.map (·.length)).sum + (y.length + 0) ≤ _
                    omega
                  · have h6 : (tl z).drop (j + ((rfN r').1 + 1)) = r'.drop (rfN r').1 := by
                      rw [← hdj.2, List.drop_drop]
                      congr 1
                      omega
                    rw [e2, hcj, vbN_cons, if_neg hcq, if_pos rfl, if_pos e5, h6]
                    dsimp only
                    rw [show (vbN q (r'.drop (rfN r').1)).1 + (rfN r').1 + 1 + (j - (i + 1)) = (vbN q (r'.drop (rfN r').1)).1 + (j + ((rfN r').1 + 1) - (i + 1)) by omega]
                · rw [hcj, vbN_cons, if_neg hcq, if_pos rfl, if_neg (by rw [e5]; exact Bool.false_ne_true)] at e2
                  rw [e2] at kno
                  exact kno rfl _ d ((m3.fl a.ne f).eq (by show j + ((rfN r').1 + 1) = i + ((rfN r').1 + 1 + (j - (i + 1)) + 1); omega))
              · have h38' : ¬ c = 38 := by simpa using h38
                have step : ∀ H5 (y : Str), Same H3 H5 → y.length ≤ 1 → ∃ m', m' < z.length - j ∧ ∃ (j' : Nat) (v : Option V) (ys' : List Str), m' = z.length - j' ∧ [some (V.ref p), some (.str (mkS [q])), some (.ref L), some (.str (sg (c :: r')))] = [some (V.ref p), some (.str (mkS [q])), some (.ref L), v] ∧ j' ≤ z.length ∧
                    Mv K H (upd (upd H5 L (.lst (ys.map V.str ++ [V.str y]))) p (.ins (CSc K) dx (scF z (j + 1)))) p dx z j' ∧ upd (upd H5 L (.lst (ys.map V.str ++ [V.str y]))) p (.ins (CSc K) dx (scF z (j + 1))) L = some (.lst (ys'.map V.str)) ∧ ys'.length ≤ j' ∧ (ys'.map (·.length)).sum ≤ j' ∧
                    i + 1 ≤ j' ∧ vbN q r = ((vbN q ((tl z).drop j')).1 + (j' - (i + 1)), (vbN q ((tl z).drop j')).2) := by
                  intro H5 y s5 hy
                  have m5 := SameB.mv m3 s5
                  refine ⟨z.length - (j + 1), by omega, j + 1, _, ys ++ [y], rfl, rfl, by omega, ⟨(m5.1.newL hL0).trans .up, upd_same⟩, ?_, ?_, ?_, by omega, ?_⟩
                  · rw [upd_ne hLp, upd_same, List.map_append]
                    rfl
                  · rw [List.length_append]
                    show ys.length + 1 ≤ _
                    omega
                  · rw [List.map_append, List.sum_append]
                    show (ys.map (·.length)).sum + (y.length + 0) ≤ _
                    omega
                  · rw [e2, hcj, vbN_cons, if_neg hcq, if_neg h38', if_neg h60', hdj.2]
                    dsimp only
                    rw [show (vbN q r').1 + 1 + (j - (i + 1)) = (vbN q r').1 + (j + 1 - (i + 1)) by omega]
                refine ⟨_, rfl, .inl ⟨rfl, _, SqL.of hl3⟩, _, rfl, c :: r', rfl, fun H5 s5 => ⟨_, rfl, ?_⟩⟩
                have lst5 : H5 L = some (.lst (ys.map V.str)) := s5 _ _ hl3
                have hlt : (ys.map V.str).length < sizeLine := by rw [List.length_map, sizeLine_eq]; have := g.len; omega
                have p5 : ∀ y, At K (upd H5 L (.lst (ys.map V.str ++ [V.str y]))) p dx z j := fun y => by
                  rw [At, upd_ne hLp.symm]
                  exact s5 _ _ m3.2
                refine ite2 (fun _ => ?_) (fun _ => ?_)
                · refine ⟨L, ys.map V.str, .str (Str.ofString " "), rfl, rfl, lst5, hlt, ?_⟩
                  refine ⟨_, rfl, p, CSc K, dx, _, _, rfl, (p5 _), cls_Scanner T, na_Scanner_at T, sc_at, _, _, rfl, rfl, dx, _, (p5 _), (by show 2 < 1000; decide), inc_ok ?_⟩
                  exact step H5 _ s5 (by decide)
                · refine ⟨_, rfl, L, ys.map V.str, .str (sg (c :: r')), rfl, rfl, lst5, hlt, ?_⟩
                  refine ⟨_, rfl, p, CSc K, dx, _, _, rfl, (p5 _), cls_Scanner T, na_Scanner_at T, sc_at, _, _, rfl, rfl, dx, _, (p5 _), (by show 2 < 1000; decide), inc_ok ?_⟩
                  exact step H5 _ s5 (by rw [sg_cons, mkS_len]; exact Nat.le_refl _)
    · rw [eqs] at e1 f
      have ev : vlN ((tl z).drop i) = (0, false) ∧ oneN [[34], [39]] ((tl z).drop i) = (0, false) := by
        cases y : (tl z).drop i with
        | nil => exact ⟨rfl, by simp [oneN]⟩
        | cons c r =>
          rw [y, oneN_q] at e1
          rw [vlN_cons, oneN_q]
          by_cases h : c = 34 ∨ c = 39
          · rw [if_pos h] at e1
            cases e1
          · rw [if_neg h, if_neg h]
            exact ⟨rfl, rfl⟩
      rw [ev.1] at kno
      rw [ev.2] at f
      exact kno rfl _ d (m0.fl a.ne f)
end
end K2
/-! K02Tree -/
namespace K2
open PySem PySem.Spec PyProof.Rows L2 TL
/-! ### nodes -/
abbrev CNd (K : PySem.W.Frag) : Addr := He.ga K "Node"
abbrev CTr (K : PySem.W.Frag) : Addr := He.ga K "Tree"
def ndF (k nm tx a c pr pt od : V) : List (Str × V) := [("kind", k), ("name", nm), ("text", tx), ("attributes", a), ("children", c), ("parent", pr), ("part", pt), ("order", od)]
theorem lk_skip {f g : Str} {v : V} {r : List (Str × V)} (h : (f == g) = false) : ((g, v) :: r).lookup f = r.lookup f := by
  rw [List.lookup_cons, h]
theorem lk_hit {f : Str} {v : V} {r : List (Str × V)} : ((f, v) :: r).lookup f = some v := by
  rw [List.lookup_cons, beq_self_eq_true]
section
variable {k nm tx a c pr pt od : V}
theorem nd_kind : (ndF k nm tx a c pr pt od).lookup ("kind" : Str) = some k := lk_hit
theorem nd_name : (ndF k nm tx a c pr pt od).lookup ("name" : Str) = some nm := (lk_skip (by decide +kernel)).trans lk_hit
theorem nd_atts : (ndF k nm tx a c pr pt od).lookup ("attributes" : Str) = some a := (lk_skip (by decide +kernel)).trans ((lk_skip (by decide +kernel)).trans ((lk_skip (by decide +kernel)).trans lk_hit))
theorem nd_kids : (ndF k nm tx a c pr pt od).lookup ("children" : Str) = some c := (lk_skip (by decide +kernel)).trans ((lk_skip (by decide +kernel)).trans ((lk_skip (by decide +kernel)).trans ((lk_skip (by decide +kernel)).trans lk_hit)))
theorem nd_par : (ndF k nm tx a c pr pt od).lookup ("parent" : Str) = some pr := (lk_skip (by decide +kernel)).trans ((lk_skip (by decide +kernel)).trans ((lk_skip (by decide +kernel)).trans ((lk_skip (by decide +kernel)).trans ((lk_skip (by decide +kernel)).trans lk_hit))))
theorem nd_no {m : Str} (h : ∀ f ∈ (["kind", "name", "text", "attributes", "children", "parent", "part", "order"] : List Str), (m == f) = false) : (ndF k nm tx a c pr pt od).lookup m = none := by
  refine (lk_skip (h _ (by simp))).trans ((lk_skip (h _ (by simp))).trans ((lk_skip (h _ (by simp))).trans ((lk_skip (h _ (by simp))).trans ((lk_skip (h _ (by simp))).trans ((lk_skip (h _ (by simp))).trans ((lk_skip (h _ (by simp))).trans ((lk_skip (h _ (by simp))).trans rfl)))))))
end
theorem put_skip {f g : Str} {u v : V} {r : List (Str × V)} (h : ¬ g = f) : putF f v ((g, u) :: r) = (g, u) :: putF f v r := by
  show (if g = f then (g, v) :: r else (g, u) :: putF f v r) = _
  rw [if_neg h]
theorem put_hit {f : Str} {u v : V} {r : List (Str × V)} : putF f v ((f, u) :: r) = (f, v) :: r := by
  show (if f = f then (f, v) :: r else (f, u) :: putF f v r) = _
  rw [if_pos rfl]
theorem put_new {f : Str} {v : V} : putF f v [] = [(f, v)] := rfl
section
variable {k nm tx a c pr pt od v : V}
theorem put_par : putF "parent" v (ndF k nm tx a c pr pt od) = ndF k nm tx a c v pt od := by
  unfold ndF
  rw [put_skip (by decide +kernel), put_skip (by decide +kernel), put_skip (by decide +kernel), put_skip (by decide +kernel), put_skip (by decide +kernel), put_hit]
theorem put_part : putF "part" v (ndF k nm tx a c pr pt od) = ndF k nm tx a c pr v od := by
  unfold ndF
  rw [put_skip (by decide +kernel), put_skip (by decide +kernel), put_skip (by decide +kernel), put_skip (by decide +kernel), put_skip (by decide +kernel), put_skip (by decide +kernel), put_hit]
theorem put_len (f : Str) : ∀ fs : List (Str × V), (putF f v fs).length ≤ fs.length + 1
  | [] => by simp [putF]
  | (g, u) :: r => by
    by_cases h : g = f
    · subst h
      rw [put_hit]
      simp
    · rw [put_skip h]
      have := put_len f r
      simp only [List.length_cons]
      omega
theorem put_len2 (f : Str) : ∀ fs : List (Str × V), (∃ u, (f, u) ∈ fs) → (putF f v fs).length = fs.length ∧ ∃ u, (f, u) ∈ putF f v fs
  | [], h => by simp at h
  | (g, u) :: r, h => by
    by_cases e : g = f
    · subst e
      rw [put_hit]
      exact ⟨rfl, v, List.mem_cons_self⟩
    · rw [put_skip e]
      obtain ⟨u2, h2⟩ := h
      have h3 : ∃ u, (f, u) ∈ r := by
        rcases List.mem_cons.mp h2 with h2 | h2
        · exact absurd (congrArg Prod.fst h2).symm e
        · exact ⟨u2, h2⟩
      obtain ⟨l, u3, h4⟩ := put_len2 f r h3
      exact ⟨by rw [List.length_cons, List.length_cons, l], u3, List.mem_cons_of_mem _ h4⟩
end
section
variable {P : Program} {w : World} {K : PySem.W.Frag} {mg : Str → Option Value} {base : Heap}
def spNdInit (K : PySem.W.Frag) : Sp := fun vs H Q _ => ∃ (a dx : Addr) (k nm tx : V), vs = [.ref a, k, nm, tx] ∧ H a = some (.ins (CNd K) dx []) ∧
  ∀ H' A C, H A = none → H C = none → A ≠ C → A ≠ a → C ≠ a → SameB a H H' → H' a = some (.ins (CNd K) dx (ndF k nm tx (.ref A) (.ref C) .non .non (.int 0))) → H' A = some (.lst []) → H' C = some (.lst []) → Q .non H'
theorem ok_Node_init (T : Tx w K mg) : Ok P w K mg base CX0 1 (He.fAd K d_Node_init.at_) p_Node_init (spNdInit K) := by
  obtain ⟨fd, F⟩ := f_Node_init T
  refine ⟨fd, ?_, b_Node_init F, F.kp⟩
  refine F.ok sc_Node_init (fun vs H Q E h => ?_) (fun cdv A outer s H vs Q E hr h => ?_)
  · obtain ⟨a, dx, k, nm, tx, rfl, _⟩ := h
    rfl
  · obtain ⟨a, dx, k, nm, tx, rfl, ha, kk⟩ := h
    refine ⟨_, PSs.nox (pss_cons (ps_fld (pv 0) (pv 1) rfl) (pss_cons (ps_fld (pv 0) (pv 2) rfl) (pss_cons (ps_fld (pv 0) (pv 3) rfl) (pss_cons (ps_fld (pv 0) (pe_lst pa_nil) rfl) (pss_cons (ps_fld (pv 0) (pe_lst pa_nil) rfl)
      (pss_cons (ps_fld (pv 0) pe_non rfl) (pss_cons (ps_fld (pv 0) pe_non rfl) (pss_one (ps_fld (pv 0) pe_int rfl))))))))), ?_⟩
    refine ⟨_, rfl, _, rfl, a, CNd K, dx, _, rfl, ha, cls_Node T, na_Node_kind T, by decide, ?_⟩
    refine ⟨_, rfl, _, rfl, a, CNd K, dx, _, rfl, upd_same, cls_Node T, na_Node_name T, (by show 1 < 1000; decide), ?_⟩
    refine ⟨_, rfl, _, rfl, a, CNd K, dx, _, rfl, upd_same, cls_Node T, na_Node_text T, (by rw [put_new, put_skip (by decide +kernel)]; show 2 < 1000; decide), ?_⟩
    rw [put_new, put_skip (by decide +kernel), put_new, put_skip (by decide +kernel), put_skip (by decide +kernel), put_new]
    refine ⟨Nat.zero_le _, fun A1 h1 => ?_⟩
    rw [upd_upd, upd_upd] at h1 ⊢
    have n1 : A1 ≠ a := fun e => by
      rw [e, upd_same] at h1
      cases h1
    have h1' : H A1 = none := by rw [upd_ne n1] at h1; exact h1
    refine ⟨_, rfl, a, CNd K, dx, _, rfl, (by rw [upd_ne n1.symm, upd_same]), cls_Node T, na_Node_attributes T, (by show 3 < 1000; decide), ?_⟩
    rw [put_skip (by decide +kernel), put_skip (by decide +kernel), put_skip (by decide +kernel), put_new]
    refine ⟨Nat.zero_le _, fun C1 h2 => ?_⟩
    have n2 : C1 ≠ a := fun e => by
      rw [e, upd_same] at h2
      cases h2
    have n3 : C1 ≠ A1 := fun e => by
      rw [e, upd_ne n1, upd_same] at h2
      cases h2
    have h2' : H C1 = none := by rw [upd_ne n2, upd_ne n3, upd_ne n2] at h2; exact h2
    refine ⟨_, rfl, a, CNd K, dx, _, rfl, (by rw [upd_ne n2.symm, upd_same]), cls_Node T, na_Node_children T, (by show 4 < 1000; decide), ?_⟩
    rw [put_skip (by decide +kernel), put_skip (by decide +kernel), put_skip (by decide +kernel), put_skip (by decide +kernel), put_new]
    refine ⟨_, rfl, a, CNd K, dx, _, rfl, upd_same, cls_Node T, na_Node_parent T, (by show 5 < 1000; decide), ?_⟩
    rw [put_skip (by decide +kernel), put_skip (by decide +kernel), put_skip (by decide +kernel), put_skip (by decide +kernel), put_skip (by decide +kernel), put_new]
    refine ⟨_, rfl, a, CNd K, dx, _, rfl, upd_same, cls_Node T, na_Node_part T, (by show 6 < 1000; decide), ?_⟩
    rw [put_skip (by decide +kernel), put_skip (by decide +kernel), put_skip (by decide +kernel), put_skip (by decide +kernel), put_skip (by decide +kernel), put_skip (by decide +kernel), put_new]
    refine ⟨_, rfl, a, CNd K, dx, _, rfl, upd_same, cls_Node T, na_Node_order T, (by show 7 < 1000; decide), ?_⟩
    rw [put_skip (by decide +kernel), put_skip (by decide +kernel), put_skip (by decide +kernel), put_skip (by decide +kernel), put_skip (by decide +kernel), put_skip (by decide +kernel), put_skip (by decide +kernel), put_new]
    refine kk _ A1 C1 h1' h2' n3.symm n1 n2 (fun b o n h => ?_) upd_same ?_ ?_
    · have b1 : b ≠ A1 := ne_of_none h h1'
      have b2 : b ≠ C1 := ne_of_none h h2'
      rw [upd_ne n, upd_ne n, upd_ne n, upd_ne n, upd_ne b2, upd_ne n, upd_ne b1, upd_ne n]
      exact h
    · rw [upd_ne n1, upd_ne n1, upd_ne n1, upd_ne n1, upd_ne n3.symm, upd_ne n1, upd_same]
    · rw [upd_ne n2, upd_ne n2, upd_ne n2, upd_ne n2, upd_same]
end
end K2
/-! K02Tr2 -/
namespace K2
open PySem PySem.Spec PyProof.Rows L2 TL
section
variable {P : Program} {w : World} {K : PySem.W.Frag} {mg : Str → Option Value} {base : Heap}
theorem lst_ins {H : Hp} {a b C dx : Addr} {fs : List (Str × V)} {xs : List V} (h1 : H a = some (.lst xs)) (h2 : H b = some (.ins C dx fs)) : a ≠ b := ne_of h1 h2 (by intro q; cases q)
def spPutA (K : PySem.W.Frag) : Sp := fun vs H Q _ => ∃ (a b A dx dxb : Addr) (k nm tx C pr pt od kb txb Ab Cb prb ptb odb : V) (nmb : Str) (xs : List V), vs = [.ref a, .ref b] ∧ H a = some (.ins (CNd K) dx (ndF k nm tx (.ref A) C pr pt od)) ∧ H A = some (.lst xs) ∧ xs.length < 2000000 ∧
  H b = some (.ins (CNd K) dxb (ndF kb (.str nmb) txb Ab Cb prb ptb odb)) ∧ a ≠ b ∧ nmb.length ≤ 1000000 ∧ ∀ pt', Q .non (upd (upd H b (.ins (CNd K) dxb (ndF kb (.str nmb) txb Ab Cb (.ref a) pt' odb))) A (.lst (xs ++ [.ref b])))
theorem ok_put_attribute (T : Tx w K mg) : Ok P w K mg base CX0 1 (He.fAd K d_Node_put_attribute.at_) p_Node_put_attribute (spPutA K) := by
  obtain ⟨fd, F⟩ := f_Node_put_attribute T
  refine ⟨fd, ?_, b_Node_put_attribute F, F.kp⟩
  refine F.ok sc_Node_put_attribute (fun vs H Q E h => ?_) (fun cdv A outer s H vs Q E hr h => ?_)
  · obtain ⟨a, b, A, dx, dxb, k, nm, tx, C, pr, pt, od, kb, txb, Ab, Cb, prb, ptb, odb, nmb, xs, rfl, _⟩ := h
    rfl
  · obtain ⟨a, b, A, dx, dxb, k, nm, tx, C, pr, pt, od, kb, txb, Ab, Cb, prb, ptb, odb, nmb, xs, rfl, ha, hA, hx, hb, hab, hn, kk⟩ := h
    have hAb : A ≠ b := lst_ins hA hb
    refine ⟨_, PSs.nox (pss_cons (ps_fld (pv 1) (pv 0) rfl) (pss_cons (ps_fld (pv 1) (pe_op op_add_str pe_str (pe_fld (pv 1) rfl)) rfl)
      (pss_one (ps_expr (pe_bm PySem.F.plainAttrs_list PySem.F.slot_list_append PySem.F.type_list_append mt_append (pe_fld (pv 0) rfl) (pa_cons (pv 1) pa_nil)))))), ?_⟩
    refine ⟨_, rfl, _, rfl, b, CNd K, dxb, _, rfl, hb, cls_Node T, na_Node_parent T, (by show 8 < 1000; decide), ?_⟩
    rw [put_par]
    refine ⟨_, rfl, b, CNd K, dxb, _, _, rfl, upd_same, cls_Node T, na_Node_name T, nd_name, _, _, rfl, rfl, ?_, _, rfl, b, CNd K, dxb, _, rfl, upd_same, cls_Node T, na_Node_part T, (by show 8 < 1000; decide), ?_⟩
    · have h1 : (Str.ofString "@").length ≤ 1 := by decide
      rw [sizeLine_eq]
      omega
    rw [put_part, upd_upd]
    refine ⟨_, rfl, a, CNd K, dx, _, .ref A, rfl, (by rw [upd_ne hab]; exact ha), cls_Node T, na_Node_attributes T, nd_atts, .inl ⟨rfl, xs, SqL.of (by rw [upd_ne hAb]; exact hA)⟩, _, rfl, A, xs, .ref b, rfl, rfl, (by rw [upd_ne hAb]; exact hA), by rw [sizeLine_eq]; omega, ?_⟩
    exact kk _
def spPutC (K : PySem.W.Frag) : Sp := fun vs H Q _ => ∃ (a b C dx dxb : Addr) (k nm tx A pr pt od kb nmb txb Ab Cb prb ptb odb : V) (xs : List V), vs = [.ref a, .ref b] ∧ H a = some (.ins (CNd K) dx (ndF k nm tx A (.ref C) pr pt od)) ∧ H C = some (.lst xs) ∧ xs.length < 3000000 ∧
  H b = some (.ins (CNd K) dxb (ndF kb nmb txb Ab Cb prb ptb odb)) ∧ a ≠ b ∧ ∀ pt', Q .non (upd (upd H b (.ins (CNd K) dxb (ndF kb nmb txb Ab Cb (.ref a) pt' odb))) C (.lst (xs ++ [.ref b])))
theorem ok_put_child (T : Tx w K mg) : Ok P w K mg base CX0 1 (He.fAd K d_Node_put_child.at_) p_Node_put_child (spPutC K) := by
  obtain ⟨fd, F⟩ := f_Node_put_child T
  refine ⟨fd, ?_, b_Node_put_child F, F.kp⟩
  refine F.ok sc_Node_put_child (fun vs H Q E h => ?_) (fun cdv A outer s H vs Q E hr h => ?_)
  · obtain ⟨a, b, C, dx, dxb, k, nm, tx, A, pr, pt, od, kb, nmb, txb, Ab, Cb, prb, ptb, odb, xs, rfl, _⟩ := h
    rfl
  · obtain ⟨a, b, C, dx, dxb, k, nm, tx, A, pr, pt, od, kb, nmb, txb, Ab, Cb, prb, ptb, odb, xs, rfl, ha, hC, hx, hb, hab, kk⟩ := h
    have hCb : C ≠ b := lst_ins hC hb
    refine ⟨_, PSs.nox (pss_cons (ps_fld (pv 1) (pv 0) rfl) (pss_cons (ps_fld (pv 1) (pe_callB call_len (by rfl) (n_len T) PySem.boot_len (pa_cons (pe_fld (pv 0) rfl) pa_nil)) rfl)
      (pss_one (ps_expr (pe_bm PySem.F.plainAttrs_list PySem.F.slot_list_append PySem.F.type_list_append mt_append (pe_fld (pv 0) rfl) (pa_cons (pv 1) pa_nil)))))), ?_⟩
    refine ⟨_, rfl, _, rfl, b, CNd K, dxb, _, rfl, hb, cls_Node T, na_Node_parent T, (by show 8 < 1000; decide), ?_⟩
    rw [put_par]
    refine ⟨_, rfl, a, CNd K, dx, _, .ref C, rfl, (by rw [upd_ne hab]; exact ha), cls_Node T, na_Node_children T, nd_kids, _, _, rfl, .inl ⟨xs, SqL.of (by rw [upd_ne hCb]; exact hC), rfl⟩, _, rfl, b, CNd K, dxb, _, rfl, upd_same, cls_Node T, na_Node_part T, (by show 8 < 1000; decide), ?_⟩
    rw [put_part, upd_upd]
    refine ⟨_, rfl, a, CNd K, dx, _, .ref C, rfl, (by rw [upd_ne hab]; exact ha), cls_Node T, na_Node_children T, nd_kids, .inl ⟨rfl, xs, SqL.of (by rw [upd_ne hCb]; exact hC)⟩, _, rfl, C, xs, .ref b, rfl, rfl, (by rw [upd_ne hCb]; exact hC), by rw [sizeLine_eq]; omega, ?_⟩
    exact kk _
/-! ### closed nodes: of a finite tree -/
/-- a node, in its own right not of the floor H0 -/
def IsNd (K : PySem.W.Frag) (H0 H : Hp) (v : V) : Prop := ∃ (b dx : Addr) (fs : List (Str × V)), v = .ref b ∧ H0 b = none ∧ H b = some (.ins (CNd K) dx fs) ∧ fs.length = 8 ∧ ∃ u, (("order" : Str), u) ∈ fs
inductive Cl (K : PySem.W.Frag) (H0 H : Hp) : Nat → Addr → Prop
  | mk {w : Nat} {a A C dx : Addr} {k nm tx pr pt od : V} {as : List V} {ps : List (Addr × Nat)} (h0 : H0 a = none) (h1 : H a = some (.ins (CNd K) dx (ndF k nm tx (.ref A) (.ref C) pr pt od))) (h2 : H A = some (.lst as)) (h3 : H C = some (.lst (ps.map fun p => V.ref p.1)))
    (h4 : ∀ v ∈ as, IsNd K H0 H v) (h5 : ∀ p ∈ ps, Cl K H0 H p.2 p.1) (h6 : 1 + as.length + (ps.map (·.2)).sum ≤ w) : Cl K H0 H w a
theorem IsNd.mono {H0 H H' : Hp} {v : V} (h : IsNd K H0 H v) (s : Same H H') : IsNd K H0 H' v := by
  obtain ⟨b, dx, fs, e1, e2, e3, e4⟩ := h
  exact ⟨b, dx, fs, e1, e2, s _ _ e3, e4⟩
theorem Cl.mono {H0 H H' : Hp} {w : Nat} {a : Addr} (h : Cl K H0 H w a) (s : Same H H') : Cl K H0 H' w a := by
  induction h with
  | mk h0 h1 h2 h3 h4 h5 h6 ih => exact .mk h0 (s _ _ h1) (s _ _ h2) (s _ _ h3) (fun v hv => (h4 v hv).mono s) ih h6
theorem Cl.nd {H0 H : Hp} {w : Nat} {a : Addr} (h : Cl K H0 H w a) : IsNd K H0 H (.ref a) := by
  cases h with
  | @mk _ _ A C dx k nm tx pr pt od as ps h0 h1 h2 h3 h4 h5 h6 => exact ⟨a, _, _, rfl, h0, h1, rfl, od, by unfold ndF; simp⟩
/-- nodes_in -/
def spNodes (K : PySem.W.Frag) : Sp := fun vs H Q _ => ∃ (H0 : Hp) (a : Addr) (n : Nat), vs = [.ref a] ∧ Cl K H0 H n a ∧ n ≤ 4000000 ∧ ∀ H' p xs, Same H H' → H p = none → H' p = some (.lst xs) → xs.length ≤ n → (∀ v ∈ xs, IsNd K H0 H v) → Q (.ref p) H'
theorem ok_nodes_in (T : Tx w K mg) : Ok P w K mg base CX0 1 (He.fAd K d_nodes_in.at_) p_nodes_in (spNodes K) := by
  obtain ⟨fd, F⟩ := f_nodes_in T
  refine ⟨fd, ?_, b_nodes_in F, F.kp⟩
  refine F.ok sc_nodes_in (fun vs H Q E h => ?_) (fun cdv A outer s H vs Q E hr h => ?_)
  · obtain ⟨H0, a, n, rfl, _⟩ := h
    rfl
  · obtain ⟨H0, a, n, rfl, hc, hn, kk⟩ := h
    have nd := sc_nodes_in.nd
    refine ⟨_, PSs.nox (pss_cons (ps_set (i := 1) nd rfl (.inl rfl) (pe_lst pa_nil)) (pss_cons (ps_set (i := 2) nd rfl (.inl rfl) (pe_lst (pa_cons (pv 0) pa_nil)))
      (pss_cons (ps_while PassesOwn.never (pt_truth (pv 2) (by intro _; rfl))
        (pss_cons (ps_set (i := 3) nd rfl (.inl rfl) (pe_bm0 PySem.F.plainAttrs_list PySem.F.slot_list_pop PySem.F.type_list_pop mt_pop (pv 2)))
        (pss_cons (ps_expr (pe_bm PySem.F.plainAttrs_list PySem.F.slot_list_append PySem.F.type_list_append mt_append (pv 1) (pa_cons (pv 3) pa_nil)))
        (pss_cons (ps_expr (pe_bm PySem.F.plainAttrs_list PySem.F.slot_list_extend PySem.F.type_list_extend mt_extend (pv 1) (pa_cons (pe_fld (pv 3) rfl) pa_nil)))
        (pss_one (ps_expr (pe_bm PySem.F.plainAttrs_list PySem.F.slot_list_extend PySem.F.type_list_extend mt_extend (pv 2) (pa_cons (pe_revL (pe_fld (pv 3) rfl)) pa_nil))))))))
      (pss_one (ps_ret (pv 1)))))), ?_⟩
    refine ⟨Nat.zero_le _, fun F1 hF => ?_⟩
    refine ⟨_, rfl, (by show 1 ≤ sizeLine; decide), fun W1 hW => ?_⟩
    have hFW : F1 ≠ W1 := ne_of_none (H := upd H F1 (.lst [])) upd_same hW
    have hW0 : H W1 = none := by
      rw [upd_ne hFW.symm] at hW
      exact hW
    dsimp only [gName, tSeq]
    refine while_x (H := upd (upd H F1 (.lst [])) W1 (.lst [V.ref a])) (fun m σ H1 => ∃ (xs : List V) (ps : List (Addr × Nat)) (v : Option V), m = (ps.map (·.2)).sum ∧ σ = [some (V.ref a), some (.ref F1), some (.ref W1), v] ∧ Same H H1 ∧ H1 F1 = some (.lst xs) ∧ H1 W1 = some (.lst (ps.map fun p => V.ref p.1)) ∧
        xs.length + (ps.map (·.2)).sum ≤ n ∧ (∀ v ∈ xs, IsNd K H0 H v) ∧ ∀ p ∈ ps, Cl K H0 H p.2 p.1)
      (fun σ H1 => ∃ (xs : List V) (v : Option V), σ = [some (V.ref a), some (.ref F1), some (.ref W1), v] ∧ Same H H1 ∧ H1 F1 = some (.lst xs) ∧ xs.length ≤ n ∧ ∀ v ∈ xs, IsNd K H0 H v)
      ⟨_, [], [(a, n)], none, rfl, rfl, (same_new hF).trans (same_new hW), by rw [upd_ne hFW, upd_same], upd_same, by show 0 + (n + 0) ≤ n; omega, fun v hv => by simp at hv, fun p hp => by rw [List.mem_singleton.mp hp]; exact hc⟩ ?_ ?_
    · rintro σ H1 ⟨xs, v, rfl, s1, h1, h2, h3⟩
      exact ⟨_, rfl, kk _ F1 xs s1 hF h1 h2 h3⟩
    · rintro - m σ H1 R ⟨xs, ps, v, rfl, rfl, s1, h1, h2, h3, h4, h5⟩ hfin hbody
      refine ⟨_, rfl, !(ps.map fun p => V.ref p.1).isEmpty, .inl ⟨_, SqL.of h2, rfl⟩, ?_⟩
      rcases List.eq_nil_or_concat ps with rfl | ⟨ps', ⟨b, wb⟩, rfl⟩
      · exact hfin _ ⟨xs, v, rfl, s1, h1, by simpa using h3, h4⟩
      · rw [List.concat_eq_append] at h2 h3 h5 ⊢
        have hne : (!((ps' ++ [(b, wb)]).map fun p => V.ref p.1).isEmpty) = true := by
          rw [List.map_append]
          simp
        rw [hne]
        refine hbody _ ?_
        have hcb : Cl K H0 H wb b := h5 (b, wb) (by simp)
        cases hcb with
        | @mk _ _ A C dx k nm tx pr pt od as qs c0 c1 c2 c3 c4 c5 c6 =>
          have e2 : ((ps' ++ [(b, wb)]).map fun p => V.ref p.1) = (ps'.map fun p => V.ref p.1) ++ [V.ref b] := by
            rw [List.map_append]
            rfl
          have e3 : ((ps' ++ [(b, wb)]).map (·.2)).sum = (ps'.map (·.2)).sum + wb := by
            rw [List.map_append, List.sum_append]
            simp
          rw [e2] at h2
          rw [e3] at h3
          have hbF : b ≠ F1 := ne_of_none c1 hF
          have hbW : b ≠ W1 := ne_of_none c1 hW0
          have hAF : A ≠ F1 := ne_of_none c2 hF
          have hAW : A ≠ W1 := ne_of_none c2 hW0
          have hCF : C ≠ F1 := ne_of_none c3 hF
          have hCW : C ≠ W1 := ne_of_none c3 hW0
          have hxl : (ps'.map fun p => V.ref p.1).length ≤ (ps'.map (·.2)).sum := by
            have hall : ∀ l : List (Addr × Nat), (∀ p ∈ l, Cl K H0 H p.2 p.1) → (l.map fun p => V.ref p.1).length ≤ (l.map (·.2)).sum := by
              intro l
              induction l with
              | nil => intro _; simp
              | cons p l ih =>
                intro hl
                have i1 := ih fun p hp => hl p (List.mem_cons_of_mem _ hp)
                have i2 : 1 ≤ p.2 := by
                  have := hl p List.mem_cons_self
                  cases this with
                  | mk _ _ _ _ _ _ z => omega
                simp only [List.map_cons, List.length_cons, List.sum_cons]
                omega
            exact hall ps' fun p hp => h5 p (by simp [hp])
          have hql : (qs.map fun p => V.ref p.1).length ≤ (qs.map (·.2)).sum := by
            have hall : ∀ l : List (Addr × Nat), (∀ p ∈ l, Cl K H0 H p.2 p.1) → (l.map fun p => V.ref p.1).length ≤ (l.map (·.2)).sum := by
              intro l
              induction l with
              | nil => intro _; simp
              | cons p l ih =>
                intro hl
                have i1 := ih fun p hp => hl p (List.mem_cons_of_mem _ hp)
                have i2 : 1 ≤ p.2 := by
                  have := hl p List.mem_cons_self
                  cases this with
                  | mk _ _ _ _ _ _ z => omega
                simp only [List.map_cons, List.length_cons, List.sum_cons]
                omega
            exact hall qs c5
          -- node = waiting.pop()
          refine ⟨_, rfl, .inl ⟨rfl, _, SqL.of h2⟩, W1, _, .ref b, rfl, rfl, h2, by simp, ?_⟩
          rw [List.dropLast_concat]
          -- found.append(node)
          refine ⟨_, rfl, .inl ⟨rfl, xs, SqL.of (by rw [upd_ne hFW]; exact h1)⟩, _, rfl, F1, xs, .ref b, rfl, rfl, (by rw [upd_ne hFW]; exact h1), by rw [sizeLine_eq]; omega, ?_⟩
          -- found.extend(node.attributes)
          refine ⟨_, rfl, .inl ⟨rfl, _, SqL.of upd_same⟩, _, rfl, b, CNd K, dx, _, .ref A, rfl, (by rw [upd_ne hbF, upd_ne hbW]; exact s1 _ _ c1), cls_Node T, na_Node_attributes T, nd_atts, F1, A, _, as, rfl, rfl, upd_same, (by rw [upd_ne hAF, upd_ne hAW]; exact s1 _ _ c2), by rw [List.length_append]; simp only [List.length_singleton]; rw [sizeLine_eq]; omega, ?_⟩
          -- waiting.extend(node.children[::-1])
          refine ⟨_, rfl, .inl ⟨rfl, _, SqL.of (by rw [upd_ne hFW.symm, upd_ne hFW.symm, upd_same])⟩, _, rfl, b, CNd K, dx, _, .ref C, rfl, (by rw [upd_ne hbF, upd_ne hbF, upd_ne hbW]; exact s1 _ _ c1), cls_Node T, na_Node_children T, nd_kids, C, _, rfl, SqL.of (by rw [upd_ne hCF, upd_ne hCF, upd_ne hCW]; exact s1 _ _ c3), fun D hD => ?_⟩
          have hDW : D ≠ W1 := fun e => by
            rw [e, upd_ne hFW.symm, upd_ne hFW.symm, upd_same] at hD
            cases hD
          have hDF : D ≠ F1 := fun e => by
            rw [e, upd_same] at hD
            cases hD
          refine ⟨W1, D, _, _, rfl, rfl, (by rw [upd_ne hDW.symm, upd_ne hFW.symm, upd_ne hFW.symm, upd_same]), upd_same, by rw [List.length_reverse, sizeLine_eq]; omega, ?_⟩
          have e4 : (ps'.map fun p => V.ref p.1) ++ (qs.map fun p => V.ref p.1).reverse = ((ps' ++ qs.reverse).map fun p => V.ref p.1) := by rw [List.map_append, List.map_reverse]
          have e5 : ((ps' ++ qs.reverse).map (·.2)).sum = (ps'.map (·.2)).sum + (qs.map (·.2)).sum := by rw [List.map_append, List.sum_append, List.map_reverse, List.sum_reverse]
          refine ⟨((ps' ++ qs.reverse).map (·.2)).sum, by rw [e5, List.concat_eq_append, e3]; omega, xs ++ [V.ref b] ++ as, ps' ++ qs.reverse, _, rfl, rfl, ?_, ?_, ?_, ?_, ?_, ?_⟩
          · intro c o h
            have cF : c ≠ F1 := ne_of_none h hF
            have cW : c ≠ W1 := ne_of_none h hW0
            have cD : c ≠ D := fun e => by
              rw [e] at h
              rw [upd_ne hDF, upd_ne hDF, upd_ne hDW, s1 _ _ h] at hD
              cases hD
            rw [upd_ne cW, upd_ne cD, upd_ne cF, upd_ne cF, upd_ne cW]
            exact s1 _ _ h
          · rw [upd_ne hFW, upd_ne hDF.symm, upd_same]
          · rw [upd_same, e4]
          · rw [e5, List.length_append, List.length_append]
            simp only [List.length_singleton]
            omega
          · intro v hv
            rcases List.mem_append.mp hv with hv | hv
            · rcases List.mem_append.mp hv with hv | hv
              · exact h4 v hv
              · rw [List.mem_singleton.mp hv]
                exact ⟨b, dx, _, rfl, c0, c1, rfl, od, by unfold ndF; simp⟩
            · exact c4 v hv
          · intro p hp
            rcases List.mem_append.mp hp with hp | hp
            · exact h5 p (by simp [hp])
            · exact c5 p (List.mem_reverse.mp hp)
end
end K2
/-! K02Tr3 -/
namespace K2
open PySem PySem.Spec PyProof.Rows L2 TL
section
variable {P : Program} {w : World} {K : PySem.W.Frag} {mg : Str → Option Value} {base : Heap}
theorem same_upd0 {H0 H : Hp} {b : Addr} {o : HO} (s : Same H0 H) (h : H0 b = none) : Same H0 (upd H b o) := fun c u e => by
  rw [upd_ne (ne_of_none e h)]
  exact s _ _ e
/-- Tree.__init__ -/
def spTrInit (K : PySem.W.Frag) : Sp := fun vs H Q _ => ∃ (H0 HC : Hp) (t dx a : Addr) (n : Nat), vs = [.ref t, .ref a] ∧ H t = some (.ins (CTr K) dx []) ∧ Same H0 HC ∧ Same HC H ∧ HC t = none ∧ Cl K H0 HC n a ∧ n ≤ 4000000 ∧ ∀ H', Same H0 H' → Q .non H'
theorem ok_Tree_init (T : Tx w K mg) : Ok P w K mg base CX0 2 (He.fAd K d_Tree_init.at_) p_Tree_init (spTrInit K) := by
  obtain ⟨fd, F⟩ := f_Tree_init T
  obtain ⟨fN, GN, bN, kN⟩ := ok_nodes_in (P := P) (base := base) T
  refine ⟨fd, ?_, b_Tree_init F, F.kp⟩
  refine F.ok sc_Tree_init (fun vs H Q E h => ?_) (fun cdv A outer s H vs Q E hr h => ?_)
  · obtain ⟨H0, HC, t, dx, a, n, rfl, _⟩ := h
    rfl
  · obtain ⟨H0, HC, t, dx, a, n, rfl, ht, s0, s1, hct, hc, hn, kk⟩ := h
    have nd := sc_Tree_init.nd
    have h0t : H0 t = none := s0.free hct
    refine ⟨_, PSs.nox (pss_cons (ps_fld (pv 0) (pv 1) rfl) (pss_cons (ps_fld (pv 0) (pe_call (E := E0) GN hr rfl (g_nodes_in T) kN bN .nil pass0 (pa_cons (pv 1) pa_nil)) rfl)
      (pss_one (ps_for PassesOwn.never rfl (pi_enum (by rfl) (n_enumerate T) (pa_cons (pe_fld (pv 0) rfl) pa_nil)) (pg_tup (by rfl) (pgs_cons (pg_name (i := 2) nd rfl (.inl rfl)) (pgs_cons (pg_name (i := 3) nd rfl (.inl rfl)) pgs_nil)))
        (pss_one (ps_fld (pv 3) (pv 2) rfl)))))), ?_⟩
    refine ⟨_, rfl, _, rfl, t, CTr K, dx, _, rfl, ht, cls_Tree T, na_Tree_root T, by decide, ?_⟩
    have s2 : Same HC (upd H t (.ins (CTr K) dx (putF "root" (.ref a) []))) := same_upd0 s1 hct
    refine ⟨_, rfl, H0, a, n, rfl, hc.mono s2, hn, fun H2 p xs s3 hp1 hp hxl hxs => ?_⟩
    have ht2 : H2 t = some (.ins (CTr K) dx [("root", .ref a)]) := s3 _ _ upd_same
    refine ⟨_, rfl, t, CTr K, dx, _, rfl, ht2, cls_Tree T, na_Tree_nodes T, (by show 1 < 1000; decide), ?_⟩
    have e1 : putF "nodes" (.ref p) [(("root" : Str), V.ref a)] = ([(("root" : Str), V.ref a), (("nodes" : Str), V.ref p)] : List (Str × V)) := by
      rw [put_skip (by decide +kernel), put_new]
    rw [e1]
    have hpt : p ≠ t := lst_ins hp ht2
    have hnt : ∀ v ∈ xs, IsNd K H0 (upd H2 t (.ins (CTr K) dx [("root", .ref a), ("nodes", .ref p)])) v := by
      intro v hv
      obtain ⟨b, dxb, fs, e1, e2, e3, e4, e5⟩ := (hxs v hv).mono s3
      refine ⟨b, dxb, fs, e1, e2, ?_, e4, e5⟩
      have hbt : b ≠ t := fun e => by
        rw [e] at e3
        rw [ht2] at e3
        have e6 := Option.some.inj e3
        injection e6 with e7 e8 e9
        rw [← e9] at e4
        cases e4
      rw [upd_ne hbt]
      exact e3
    refine ⟨_, rfl, t, CTr K, dx, _, .ref p, rfl, upd_same, cls_Tree T, na_Tree_nodes T, (lk_skip (by decide +kernel)).trans lk_hit, p, xs, rfl, SqL.of (by rw [upd_ne hpt]; exact hp), ?_⟩
    refine for_it walk_enum (fun i σ H3 => (∃ u v, σ = [some (V.ref t), some (.ref a), u, v]) ∧ Same H0 H3 ∧ H3 p = some (.lst xs) ∧ ∀ v ∈ xs, IsNd K H0 H3 v)
      ⟨⟨none, none, rfl⟩, same_upd0 (s0.trans (s2.trans s3)) h0t, by rw [upd_ne hpt]; exact hp, hnt⟩ (fun i σ H3 _ h => SqL.of h.2.2.1) ?_ ?_
    · rintro i x σ H3 H4 hi ⟨⟨u, v, rfl⟩, s4, hp4, hx4⟩ ⟨T1, x1, y1, rfl, hT1, rfl, e2, e3⟩
      have hy : y1 ∈ xs := List.mem_of_getElem? e3
      have hx5 : ∀ v ∈ xs, IsNd K H0 (upd H3 T1 (.tup [x1, y1])) v := fun v hv => (hx4 v hv).mono (same_new hT1)
      obtain ⟨b, dxb, fs, rfl, hb0, hb, hfs, hord⟩ := hx5 y1 hy
      refine ⟨T1, _, rfl, SqT.of upd_same, rfl, _, _, rfl, _, _, rfl, rfl, ?_⟩
      refine ⟨_, rfl, _, rfl, b, CNd K, dxb, fs, rfl, hb, cls_Node T, na_Node_order T, by rw [hfs]; decide, ?_⟩
      have hl := put_len2 (v := x1) ("order" : Str) fs hord
      have hpb : p ≠ b := lst_ins (same_new hT1 _ _ hp4) hb
      refine ⟨⟨_, _, rfl⟩, same_upd0 (s4.trans (same_new hT1)) hb0, by rw [upd_ne hpb]; exact same_new hT1 _ _ hp4, fun v hv => ?_⟩
      obtain ⟨c, dxc, fc, e4, e5, e6, e7, e8⟩ := hx5 v hv
      by_cases hcb : c = b
      · subst hcb
        exact ⟨c, dxb, _, e4, e5, upd_same, by rw [hl.1, hfs], hl.2⟩
      · exact ⟨c, dxc, fc, e4, e5, by rw [upd_ne hcb]; exact e6, e7, e8⟩
    · rintro σ H3 ⟨⟨u, v, rfl⟩, s4, hp4, hx4⟩
      exact kk _ s4
end
end K2
/-! K02Rq -/
namespace K2
open PySem PySem.Spec PyProof.Rows L2 TL
/-! ### the reader's state -/
abbrev CRd (K : PySem.W.Frag) : Addr := He.ga K "Reader"
def rdF (sc rt hr : Addr) (has : Bool) (L : Addr) : List (Str × V) := [("scan", .ref sc), ("root", .ref rt), ("here", .ref hr), ("has_outermost", .bl has), ("pieces", .ref L)]
section
variable {sc rt hr L : Addr} {has : Bool}
theorem rd_scan : (rdF sc rt hr has L).lookup ("scan" : Str) = some (.ref sc) := lk_hit
theorem rd_root : (rdF sc rt hr has L).lookup ("root" : Str) = some (.ref rt) := (lk_skip (by decide +kernel)).trans lk_hit
theorem rd_here : (rdF sc rt hr has L).lookup ("here" : Str) = some (.ref hr) := (lk_skip (by decide +kernel)).trans ((lk_skip (by decide +kernel)).trans lk_hit)
theorem rd_has : (rdF sc rt hr has L).lookup ("has_outermost" : Str) = some (.bl has) := (lk_skip (by decide +kernel)).trans ((lk_skip (by decide +kernel)).trans ((lk_skip (by decide +kernel)).trans lk_hit))
theorem rd_pieces : (rdF sc rt hr has L).lookup ("pieces" : Str) = some (.ref L) := (lk_skip (by decide +kernel)).trans ((lk_skip (by decide +kernel)).trans ((lk_skip (by decide +kernel)).trans ((lk_skip (by decide +kernel)).trans lk_hit)))
theorem rd_no {m : Str} (h : ∀ f ∈ (["scan", "root", "here", "has_outermost", "pieces"] : List Str), (m == f) = false) : (rdF sc rt hr has L).lookup m = none := by
  refine (lk_skip (h _ (by simp))).trans ((lk_skip (h _ (by simp))).trans ((lk_skip (h _ (by simp))).trans ((lk_skip (h _ (by simp))).trans ((lk_skip (h _ (by simp))).trans rfl))))
theorem rdp_here {x : Addr} : putF "here" (.ref x) (rdF sc rt hr has L) = rdF sc rt x has L := by
  unfold rdF
  rw [put_skip (by decide +kernel), put_skip (by decide +kernel), put_hit]
theorem rdp_has {x : Bool} : putF "has_outermost" (.bl x) (rdF sc rt hr has L) = rdF sc rt hr x L := by
  unfold rdF
  rw [put_skip (by decide +kernel), put_skip (by decide +kernel), put_skip (by decide +kernel), put_hit]
theorem rdp_pieces {x : Addr} : putF "pieces" (.ref x) (rdF sc rt hr has L) = rdF sc rt hr has x := by
  unfold rdF
  rw [put_skip (by decide +kernel), put_skip (by decide +kernel), put_skip (by decide +kernel), put_skip (by decide +kernel), put_hit]
end
/-- an open node -/
structure Fr where
  a : Addr
  A : Addr
  C : Addr
  dx : Addr
  name : List Nat
  kd : V
  nm : V
  tx : V
  par : V
  pt : V
  od : V
  as : List V
  ps : List (Addr × Nat)
def Fr.F (f : Fr) : List (Str × V) := ndF f.kd f.nm f.tx (.ref f.A) (.ref f.C) f.par f.pt f.od
def Fr.refs (f : Fr) : List V := f.ps.map fun p => V.ref p.1
def Fr.w (f : Fr) : Nat := 1 + f.as.length + (f.ps.map (·.2)).sum
def Fr.ad (f : Fr) : List Addr := [f.a, f.A, f.C]
structure FrOk (K : PySem.W.Frag) (H0 HC H : Hp) (f : Fr) (last : List V) : Prop where
  a : H f.a = some (.ins (CNd K) f.dx f.F)
  A : H f.A = some (.lst f.as)
  C : H f.C = some (.lst (f.refs ++ last))
  at_ : ∀ v ∈ f.as, IsNd K H0 HC v
  ki : ∀ p ∈ f.ps, Cl K H0 HC p.2 p.1
def Chain (K : PySem.W.Frag) (H0 HC H : Hp) : List Fr → List V → Prop
  | [], _ => False
  | [f], last => FrOk K H0 HC H f last ∧ f.kd = .str "root" ∧ f.nm = .non
  | f :: g :: r, last => FrOk K H0 HC H f last ∧ f.kd = .str "element" ∧ f.nm = .str (mkS f.name) ∧ f.par = .ref g.a ∧ Chain K H0 HC H (g :: r) [.ref f.a]
def nms : List Fr → List (List Nat)
  | [] => []
  | [_] => []
  | f :: g :: r => f.name :: nms (g :: r)
def rootOf : List Fr → Addr
  | [] => 0
  | [f] => f.a
  | _ :: g :: r => rootOf (g :: r)
def adrs (l : List Fr) : List Addr := l.flatMap Fr.ad
def wsum (l : List Fr) : Nat := (l.map Fr.w).sum
theorem FrOk.mono {K : PySem.W.Frag} {H0 HC HC' H H' : Hp} {f : Fr} {last : List V} (h : FrOk K H0 HC H f last) (sc : Same HC HC') (s : ∀ b ∈ f.ad, ∀ o, H b = some o → H' b = some o) : FrOk K H0 HC' H' f last :=
  ⟨s _ (by simp [Fr.ad]) _ h.a, s _ (by simp [Fr.ad]) _ h.A, s _ (by simp [Fr.ad]) _ h.C, fun v hv => (h.at_ v hv).mono sc, fun p hp => (h.ki p hp).mono sc⟩
theorem Chain.mono {K : PySem.W.Frag} {H0 HC HC' H H' : Hp} : ∀ {l : List Fr} {last : List V}, Chain K H0 HC H l last → Same HC HC' → (∀ b ∈ adrs l, ∀ o, H b = some o → H' b = some o) → Chain K H0 HC' H' l last
  | [], _, h, _, _ => h
  | [f], last, ⟨h1, h2, h3⟩, sc, s => ⟨h1.mono sc fun b hb => s b (by simp [adrs, hb]), h2, h3⟩
  | f :: g :: r, last, ⟨h1, h2, h3, h4, h5⟩, sc, s => ⟨h1.mono sc fun b hb => s b (by simp [adrs]; exact .inl hb), h2, h3, h4, Chain.mono h5 sc fun b hb => s b (by
      unfold adrs at hb ⊢
      rw [List.flatMap_cons]
      exact List.mem_append_right _ hb)⟩
theorem Chain.head {K : PySem.W.Frag} {H0 HC H : Hp} {f : Fr} {r : List Fr} {last : List V} (h : Chain K H0 HC H (f :: r) last) : FrOk K H0 HC H f last := by
  cases r with
  | nil => exact h.1
  | cons g r => exact h.1
/-- the head frame with another list of children -/
theorem Chain.head_set {K : PySem.W.Frag} {H0 HC HC' H H' : Hp} {f f' : Fr} {r : List Fr} {last last' : List V} (h : Chain K H0 HC H (f :: r) last) (h' : FrOk K H0 HC' H' f' last') (sc : Same HC HC') (s : ∀ b ∈ adrs r, ∀ o, H b = some o → H' b = some o)
    (e1 : f'.a = f.a) (e2 : f'.kd = f.kd) (e3 : f'.nm = f.nm) (e4 : f'.par = f.par) (e5 : f'.name = f.name) : Chain K H0 HC' H' (f' :: r) last' := by
  cases r with
  | nil =>
    obtain ⟨_, h2, h3⟩ := h
    exact ⟨h', by rw [e2, h2], by rw [e3, h3]⟩
  | cons g r =>
    obtain ⟨_, h2, h3, h4, h5⟩ := h
    exact ⟨h', by rw [e2, h2], by rw [e3, h3, e5], by rw [e4, h4], by rw [e1]; exact h5.mono sc s⟩
structure RQ (K : PySem.W.Frag) (H0 HC H : Hp) (r dxr p dxp : Addr) (z : Str) (i : Nat) (L : Addr) (ys : List Str) (has : Bool) (hr : Addr) (hs fs : List Fr) (last : List V) : Prop where
  s0 : Same H0 HC
  s1 : Same HC H
  cr : HC r = none
  cp : HC p = none
  cL : HC L = none
  cf : ∀ b ∈ adrs (hs ++ fs), HC b = none
  rd : H r = some (.ins (CRd K) dxr (rdF p (rootOf fs) hr has L))
  sc : At K H p dxp z i
  pc : H L = some (.lst (ys.map V.str))
  pn : ys.length ≤ i ∧ (ys.map (·.length)).sum ≤ i
  nd : (r :: p :: L :: adrs (hs ++ fs)).Nodup
  hh : ∀ g ∈ hs, FrOk K H0 HC H g []
  ch : Chain K H0 HC H fs last
  gd : Gd z
  hi : i ≤ z.length
theorem Chain.there {K : PySem.W.Frag} {H0 HC H : Hp} : ∀ {l : List Fr} {last : List V}, Chain K H0 HC H l last → ∀ b ∈ adrs l, H b ≠ none
  | [], _, h, b, hb => h.elim
  | [f], last, ⟨h1, _, _⟩, b, hb => by
    simp only [adrs, List.flatMap_cons, List.flatMap_nil, List.append_nil, Fr.ad, List.mem_cons, List.not_mem_nil, or_false] at hb
    rcases hb with rfl | rfl | rfl
    · rw [h1.a]; simp
    · rw [h1.A]; simp
    · rw [h1.C]; simp
  | f :: g :: r, last, ⟨h1, _, _, _, h5⟩, b, hb => by
    unfold adrs at hb
    rw [List.flatMap_cons] at hb
    rcases List.mem_append.mp hb with hb | hb
    · simp only [Fr.ad, List.mem_cons, List.not_mem_nil, or_false] at hb
      rcases hb with rfl | rfl | rfl
      · rw [h1.a]; simp
      · rw [h1.A]; simp
      · rw [h1.C]; simp
    · exact Chain.there h5 b hb
theorem FrOk.there {K : PySem.W.Frag} {H0 HC H : Hp} {f : Fr} {last : List V} (h : FrOk K H0 HC H f last) : ∀ b ∈ f.ad, H b ≠ none := by
  intro b hb
  simp only [Fr.ad, List.mem_cons, List.not_mem_nil, or_false] at hb
  rcases hb with rfl | rfl | rfl
  · rw [h.a]; simp
  · rw [h.A]; simp
  · rw [h.C]; simp
section
variable {K : PySem.W.Frag} {H0 HC H H' : Hp} {r dxr p dxp : Addr} {z : Str} {i j : Nat} {L L' : Addr} {ys ys' : List Str} {has : Bool} {hr : Addr} {hs fs : List Fr} {last : List V}
theorem RQ.there (q : RQ K H0 HC H r dxr p dxp z i L ys has hr hs fs last) : ∀ b ∈ (r :: p :: L :: adrs (hs ++ fs)), H b ≠ none := by
  intro b hb
  simp only [List.mem_cons] at hb
  rcases hb with rfl | rfl | rfl | hb
  · rw [q.rd]; simp
  · rw [q.sc]; simp
  · rw [q.pc]; simp
  · unfold adrs at hb
    rw [List.flatMap_append] at hb
    rcases List.mem_append.mp hb with hb | hb
    · obtain ⟨g, hg, hb⟩ := List.mem_flatMap.mp hb
      exact (q.hh g hg).there b hb
    · exact q.ch.there b hb
theorem RQ.ne (q : RQ K H0 HC H r dxr p dxp z i L ys has hr hs fs last) {b : Addr} (h : H b = none) : b ≠ r ∧ b ≠ p ∧ b ≠ L ∧ b ∉ adrs (hs ++ fs) :=
  ⟨fun e => q.there b (by simp [e]) h, fun e => q.there b (by simp [e]) h, fun e => q.there b (by simp [e]) h, fun e => q.there b (by simp [e]) h⟩
/-- all but the scanner stands -/
theorem RQ.move (q : RQ K H0 HC H r dxr p dxp z i L ys has hr hs fs last) (m : Mv K H H' p dxp z j) (hij : i ≤ j) (hj : j ≤ z.length) : RQ K H0 HC H' r dxr p dxp z j L ys has hr hs fs last := by
  have nd := q.nd
  simp only [List.nodup_cons, List.mem_cons, not_or] at nd
  obtain ⟨⟨n1, n2, n3⟩, ⟨n4, n5⟩, n6, n7⟩ := nd
  have hp : ∀ b ∈ adrs (hs ++ fs), b ≠ p := fun b hb e => n5 (by rw [← e]; exact hb)
  have hl : ∀ b ∈ adrs hs, b ≠ p := fun b hb => hp b (by unfold adrs at hb ⊢; rw [List.flatMap_append]; exact List.mem_append_left _ hb)
  have hf : ∀ b ∈ adrs fs, b ≠ p := fun b hb => hp b (by unfold adrs at hb ⊢; rw [List.flatMap_append]; exact List.mem_append_right _ hb)
  exact { s0 := q.s0, s1 := fun b o h => m.1 b o (ne_of_none h q.cp) (q.s1 b o h), cr := q.cr, cp := q.cp, cL := q.cL, cf := q.cf,
          rd := m.1 _ _ n1 q.rd, sc := m.2, pc := m.1 _ _ (Ne.symm n4) q.pc, pn := ⟨Nat.le_trans q.pn.1 hij, Nat.le_trans q.pn.2 hij⟩, nd := q.nd,
          hh := fun g hg => (q.hh g hg).mono (Same.refl _) fun b hb o h => m.1 b o (hl b (List.mem_flatMap.mpr ⟨g, hg, hb⟩)) h,
          ch := q.ch.mono (Same.refl _) fun b hb o h => m.1 b o (hf b hb) h, gd := q.gd, hi := hj }
/-- new objects -/
theorem RQ.same (q : RQ K H0 HC H r dxr p dxp z i L ys has hr hs fs last) (s : Same H H') : RQ K H0 HC H' r dxr p dxp z i L ys has hr hs fs last :=
  q.move (Mv.same q.sc s) (Nat.le_refl _) q.hi
/-- a piece more -/
theorem RQ.piece {y : Str} (q : RQ K H0 HC H r dxr p dxp z i L ys has hr hs fs last) (h1 : ys.length + 1 ≤ i) (h2 : (ys.map (·.length)).sum + y.length ≤ i) : RQ K H0 HC (upd H L (.lst (ys.map V.str ++ [V.str y]))) r dxr p dxp z i L (ys ++ [y]) has hr hs fs last := by
  have nd := q.nd
  simp only [List.nodup_cons, List.mem_cons, not_or] at nd
  obtain ⟨⟨n1, n2, n3⟩, ⟨n4, n5⟩, n6, n7⟩ := nd
  have hp : ∀ b ∈ adrs (hs ++ fs), b ≠ L := fun b hb e => n6 (by rw [← e]; exact hb)
  have hl : ∀ b ∈ adrs hs, b ≠ L := fun b hb => hp b (by unfold adrs at hb ⊢; rw [List.flatMap_append]; exact List.mem_append_left _ hb)
  have hf : ∀ b ∈ adrs fs, b ≠ L := fun b hb => hp b (by unfold adrs at hb ⊢; rw [List.flatMap_append]; exact List.mem_append_right _ hb)
  exact { s0 := q.s0, s1 := same_upd0 q.s1 q.cL, cr := q.cr, cp := q.cp, cL := q.cL, cf := q.cf,
          rd := by rw [upd_ne n2]; exact q.rd, sc := by rw [At, upd_ne n4]; exact q.sc, pc := by rw [upd_same, List.map_append]; rfl,
          pn := ⟨by rw [List.length_append]; exact h1, by rw [List.map_append, List.sum_append]; show _ + (y.length + 0) ≤ _; omega⟩, nd := q.nd,
          hh := fun g hg => (q.hh g hg).mono (Same.refl _) fun b hb o h => by rw [upd_ne (hl b (List.mem_flatMap.mpr ⟨g, hg, hb⟩))]; exact h,
          ch := q.ch.mono (Same.refl _) fun b hb o h => by rw [upd_ne (hf b hb)]; exact h, gd := q.gd, hi := q.hi }
/-- self.has_outermost = True, self.here = x -/
theorem RQ.field (q : RQ K H0 HC H r dxr p dxp z i L ys has hr hs fs last) (has' : Bool) (hr' : Addr) : RQ K H0 HC (upd H r (.ins (CRd K) dxr (rdF p (rootOf fs) hr' has' L))) r dxr p dxp z i L ys has' hr' hs fs last := by
  have nd := q.nd
  simp only [List.nodup_cons, List.mem_cons, not_or] at nd
  obtain ⟨⟨n1, n2, n3⟩, ⟨n4, n5⟩, n6, n7⟩ := nd
  have hp : ∀ b ∈ adrs (hs ++ fs), b ≠ r := fun b hb e => n3 (by rw [← e]; exact hb)
  have hl : ∀ b ∈ adrs hs, b ≠ r := fun b hb => hp b (by unfold adrs at hb ⊢; rw [List.flatMap_append]; exact List.mem_append_left _ hb)
  have hf : ∀ b ∈ adrs fs, b ≠ r := fun b hb => hp b (by unfold adrs at hb ⊢; rw [List.flatMap_append]; exact List.mem_append_right _ hb)
  exact { s0 := q.s0, s1 := same_upd0 q.s1 q.cr, cr := q.cr, cp := q.cp, cL := q.cL, cf := q.cf,
          rd := upd_same, sc := by rw [At, upd_ne (Ne.symm n1)]; exact q.sc, pc := by rw [upd_ne (Ne.symm n2)]; exact q.pc, pn := q.pn, nd := q.nd,
          hh := fun g hg => (q.hh g hg).mono (Same.refl _) fun b hb o h => by rw [upd_ne (hl b (List.mem_flatMap.mpr ⟨g, hg, hb⟩))]; exact h,
          ch := q.ch.mono (Same.refl _) fun b hb o h => by rw [upd_ne (hf b hb)]; exact h, gd := q.gd, hi := q.hi }
end
end K2
/-! K02Rq2 -/
namespace K2
open PySem PySem.Spec PyProof.Rows L2 TL
theorem adrs_cons (f : Fr) (l : List Fr) : adrs (f :: l) = f.a :: f.A :: f.C :: adrs l := rfl
theorem adrs_app (a b : List Fr) : adrs (a ++ b) = adrs a ++ adrs b := List.flatMap_append
theorem nd_ins {r p L x : Addr} {l : List Addr} (h : (r :: p :: L :: l).Nodup) (hx : x ∉ (r :: p :: L :: l)) : (r :: p :: L :: x :: l).Nodup := by
  simp only [List.nodup_cons, List.mem_cons, not_or] at h hx ⊢
  obtain ⟨⟨a1, a2, a3⟩, ⟨b1, b2⟩, c1, d⟩ := h
  obtain ⟨x1, x2, x3, x4⟩ := hx
  exact ⟨⟨a1, a2, fun e => x1 e.symm, a3⟩, ⟨b1, fun e => x2 e.symm, b2⟩, ⟨fun e => x3 e.symm, c1⟩, x4, d⟩
theorem mem_ad {f : Fr} {l : List Fr} (h : f ∈ l) {b : Addr} (hb : b ∈ f.ad) : b ∈ adrs l := List.mem_flatMap.mpr ⟨f, h, hb⟩
section
variable {K : PySem.W.Frag} {H0 HC H H' : Hp} {r dxr p dxp : Addr} {z : Str} {i j : Nat} {L L' : Addr} {ys ys' : List Str} {has : Bool} {hr : Addr} {hs fs fr : List Fr} {last : List V} {f g : Fr}
/-- a node is made -/
theorem RQ.hand (q : RQ K H0 HC H r dxr p dxp z i L ys has hr hs fs last) {a A C dx : Addr} {nmL : List Nat} {kd nm tx : V} {H2 : Hp} (ha : H a = none) (hdx : H dx = none) (hne : dx ≠ a)
    (hA : upd (upd H dx (.own a)) a (.ins (CNd K) dx []) A = none) (hC : upd (upd H dx (.own a)) a (.ins (CNd K) dx []) C = none) (nAC : A ≠ C) (nA : A ≠ a) (nC : C ≠ a)
    (s : SameB a (upd (upd H dx (.own a)) a (.ins (CNd K) dx [])) H2) (e1 : H2 a = some (.ins (CNd K) dx (ndF kd nm tx (.ref A) (.ref C) .non .non (.int 0)))) (e2 : H2 A = some (.lst [])) (e3 : H2 C = some (.lst [])) :
    RQ K H0 HC H2 r dxr p dxp z i L ys has hr (⟨a, A, C, dx, nmL, kd, nm, tx, .non, .non, .int 0, [], []⟩ :: hs) fs last := by
  have sm : Same H H2 := fun b o h => by
    have b1 : b ≠ a := ne_of_none h ha
    refine s b o b1 ?_
    rw [upd_ne b1, upd_ne (ne_of_none h hdx)]
    exact h
  have q2 := q.same sm
  have hdA : A ≠ dx := fun e => by
    rw [e, upd_ne hne, upd_same] at hA
    cases hA
  have hdC : C ≠ dx := fun e => by
    rw [e, upd_ne hne, upd_same] at hC
    cases hC
  have hA' : H A = none := by rw [upd_ne nA, upd_ne hdA] at hA; exact hA
  have hC' : H C = none := by rw [upd_ne nC, upd_ne hdC] at hC; exact hC
  obtain ⟨a1, a2, a3, a4⟩ := q.ne ha
  obtain ⟨b1, b2, b3, b4⟩ := q.ne hA'
  obtain ⟨c1, c2, c3, c4⟩ := q.ne hC'
  refine { s0 := q2.s0, s1 := q2.s1, cr := q2.cr, cp := q2.cp, cL := q2.cL, cf := ?_, rd := q2.rd, sc := q2.sc, pc := q2.pc, pn := q2.pn, nd := ?_, hh := ?_, ch := q2.ch, gd := q2.gd, hi := q2.hi }
  · intro b hb
    rw [List.cons_append, adrs_cons] at hb
    simp only [List.mem_cons] at hb
    rcases hb with rfl | rfl | rfl | hb
    · exact q.s1.free ha
    · exact q.s1.free hA'
    · exact q.s1.free hC'
    · exact q.cf b hb
  · rw [List.cons_append, adrs_cons]
    have n1 := nd_ins q.nd (x := C) (by simp [c1, c2, c3, c4])
    have n2 := nd_ins n1 (x := A) (by simp [b1, b2, b3, b4, nAC])
    exact nd_ins n2 (x := a) (by simp [a1, a2, a3, a4, Ne.symm nA, Ne.symm nC])
  · intro g hg
    rcases List.mem_cons.mp hg with rfl | hg
    · exact ⟨e1, e2, e3, fun v hv => by simp at hv, fun v hv => by simp at hv⟩
    · exact q2.hh g hg
/-- facts of the addresses -/
theorem RQ.apart (q : RQ K H0 HC H r dxr p dxp z i L ys has hr (g :: hs) (f :: fr) last) :
    (g.a ≠ r ∧ g.a ≠ p ∧ g.a ≠ L) ∧ (f.C ≠ r ∧ f.C ≠ p ∧ f.C ≠ L) ∧ (g.a ≠ f.C ∧ g.a ≠ f.a ∧ g.a ≠ f.A ∧ g.A ≠ f.C ∧ g.C ≠ f.C ∧ g.a ≠ g.A ∧ g.a ≠ g.C ∧ g.A ≠ g.C ∧ f.a ≠ f.C ∧ f.A ≠ f.C ∧ g.A ≠ r ∧ g.A ≠ p ∧ g.A ≠ L ∧ g.C ≠ r ∧ g.C ≠ p ∧ g.C ≠ L) ∧
    (∀ b ∈ adrs hs, b ≠ g.a ∧ b ≠ f.C ∧ b ≠ g.A ∧ b ≠ g.C) ∧ (∀ b ∈ adrs fr, b ≠ g.a ∧ b ≠ f.C ∧ b ≠ g.A ∧ b ≠ g.C) ∧ (g.A ≠ f.a ∧ g.A ≠ f.A ∧ g.C ≠ f.a ∧ g.C ≠ f.A) := by
  have nd := q.nd
  rw [List.cons_append, adrs_cons, adrs_app, adrs_cons] at nd
  simp only [List.nodup_cons, List.mem_cons, List.mem_append, not_or, List.nodup_append] at nd
  obtain ⟨⟨_, _, r1, r2, r3, r4, r5, r6, r7, r8⟩, ⟨_, p1, p2, p3, p4, p5, p6, p7, p8⟩, ⟨l1, l2, l3, l4, l5, l6, l7, l8⟩, ⟨a1, a2, a3, a4, a5, a6, a7⟩, ⟨b1, b2, b3, b4, b5, b6⟩, ⟨c1, c2, c3, c4, c5⟩, h1, ⟨⟨d1, d2, d3⟩, ⟨e1, e2⟩, e3, e4⟩, h2⟩ := nd
  refine ⟨⟨Ne.symm r1, Ne.symm p1, Ne.symm l1⟩, ⟨Ne.symm r7, Ne.symm p7, Ne.symm l7⟩, ⟨a6, a4, a5, b5, c4, a1, a2, b1, d2, e1, Ne.symm r2, Ne.symm p2, Ne.symm l2, Ne.symm r3, Ne.symm p3, Ne.symm l3⟩, ?_, ?_, ⟨b3, b4, c2, c3⟩⟩
  · intro b hb
    refine ⟨fun e => a3 (e ▸ hb), fun e => h2 b hb f.C (.inr (.inr (.inl rfl))) e, fun e => b2 (e ▸ hb), fun e => c1 (e ▸ hb)⟩
  · intro b hb
    exact ⟨fun e => a7 (e ▸ hb), fun e => e3 (e ▸ hb), fun e => b6 (e ▸ hb), fun e => c5 (e ▸ hb)⟩
/-- self.here.put_child(node) -/
theorem RQ.link (q : RQ K H0 HC H r dxr p dxp z i L ys has hr (g :: hs) (f :: fr) []) (pt' : V) :
    RQ K H0 HC (upd (upd H g.a (.ins (CNd K) g.dx (ndF g.kd g.nm g.tx (.ref g.A) (.ref g.C) (.ref f.a) pt' g.od))) f.C (.lst (f.refs ++ [.ref g.a]))) r dxr p dxp z i L ys has hr ({ g with par := .ref f.a, pt := pt' } :: hs) (f :: fr) [.ref g.a] := by
  obtain ⟨⟨a1, a2, a3⟩, ⟨b1, b2, b3⟩, ⟨c1, c2, c3, c4, c5, c6, c7, c8, c9, c10, _⟩, d1, d2, ⟨e1, e2, e3, e4⟩⟩ := q.apart
  have gk := q.hh g List.mem_cons_self
  have fk := q.ch.head
  have keep : ∀ b o, b ≠ g.a → b ≠ f.C → H b = some o → upd (upd H g.a (.ins (CNd K) g.dx (ndF g.kd g.nm g.tx (.ref g.A) (.ref g.C) (.ref f.a) pt' g.od))) f.C (.lst (f.refs ++ [.ref g.a])) b = some o := fun b o n1 n2 h => by
    rw [upd_ne n2, upd_ne n1]
    exact h
  have cg : HC g.a = none := q.cf _ (by rw [List.cons_append, adrs_cons]; simp)
  have cfC : HC f.C = none := q.cf _ (by rw [adrs_app, adrs_cons, adrs_cons]; simp)
  refine { s0 := q.s0, s1 := same_upd0 (same_upd0 q.s1 cg) cfC, cr := q.cr, cp := q.cp, cL := q.cL, cf := q.cf, rd := keep _ _ (Ne.symm a1) (Ne.symm b1) q.rd, sc := keep _ _ (Ne.symm a2) (Ne.symm b2) q.sc,
           pc := keep _ _ (Ne.symm a3) (Ne.symm b3) q.pc, pn := q.pn, nd := q.nd, hh := ?_, ch := ?_, gd := q.gd, hi := q.hi }
  · intro g2 hg2
    rcases List.mem_cons.mp hg2 with rfl | hg2
    · refine ⟨?_, keep _ _ (Ne.symm c6) c4 gk.A, keep _ _ (Ne.symm c7) c5 gk.C, gk.at_, gk.ki⟩
      show upd _ f.C _ g.a = _
      rw [upd_ne c1, upd_same]
      rfl
    · exact (q.hh g2 (List.mem_cons_of_mem _ hg2)).mono (Same.refl _) fun b hb o h => keep b o (d1 b (mem_ad hg2 hb)).1 (d1 b (mem_ad hg2 hb)).2.1 h
  · refine q.ch.head_set (f' := f) ⟨keep _ _ (Ne.symm c2) c9 fk.a, keep _ _ (Ne.symm c3) c10 fk.A, upd_same, fk.at_, fk.ki⟩ (Same.refl _) (fun b hb o h => keep b o (d2 b hb).1 (d2 b hb).2.1 h) rfl rfl rfl rfl rfl
def upd3 (HC : Hp) (g : Fr) (K : PySem.W.Frag) (cs : List V) : Hp := upd (upd (upd HC g.a (.ins (CNd K) g.dx g.F)) g.A (.lst g.as)) g.C (.lst cs)
theorem same_upd3 {g : Fr} {cs : List V} (h1 : HC g.a = none) (h2 : HC g.A = none) (h3 : HC g.C = none) : Same HC (upd3 HC g K cs) := fun b o h => by
  unfold upd3
  rw [upd_ne (ne_of_none h h3), upd_ne (ne_of_none h h2), upd_ne (ne_of_none h h1)]
  exact h
/-- the node in hand is closed -/
theorem RQ.close (q : RQ K H0 HC H r dxr p dxp z i L ys has hr (g :: hs) (f :: fr) [.ref g.a]) :
    RQ K H0 (upd3 HC g K g.refs) H r dxr p dxp z i L ys has hr hs ({ f with ps := f.ps ++ [(g.a, g.w)] } :: fr) [] := by
  obtain ⟨⟨a1, a2, a3⟩, ⟨b1, b2, b3⟩, ⟨c1, c2, c3, c4, c5, c6, c7, c8, c9, c10, g1, g2, g3, g4, g5, g6⟩, d1, d2, ⟨e1, e2, e3, e4⟩⟩ := q.apart
  have gk := q.hh g List.mem_cons_self
  have fk := q.ch.head
  have m : ∀ b ∈ g.ad, HC b = none := fun b hb => q.cf b (by rw [List.cons_append]; exact mem_ad List.mem_cons_self hb)
  have ma := m g.a (by simp [Fr.ad])
  have mA := m g.A (by simp [Fr.ad])
  have mC := m g.C (by simp [Fr.ad])
  have sm : Same HC (upd3 HC g K g.refs) := same_upd3 ma mA mC
  have out : ∀ b, b ≠ g.a → b ≠ g.A → b ≠ g.C → HC b = none → upd3 HC g K g.refs b = none := fun b n1 n2 n3 h => by
    unfold upd3
    rw [upd_ne n3, upd_ne n2, upd_ne n1]
    exact h
  have s1' : Same (upd3 HC g K g.refs) H := fun b o h => by
    unfold upd3 at h
    by_cases x1 : b = g.C
    · subst x1
      rw [upd_same] at h
      cases h
      have := gk.C
      rw [List.append_nil] at this
      exact this
    · rw [upd_ne x1] at h
      by_cases x2 : b = g.A
      · subst x2
        rw [upd_same] at h
        cases h
        exact gk.A
      · rw [upd_ne x2] at h
        by_cases x3 : b = g.a
        · subst x3
          rw [upd_same] at h
          cases h
          exact gk.a
        · rw [upd_ne x3] at h
          exact q.s1 b o h
  have hcl : Cl K H0 (upd3 HC g K g.refs) g.w g.a := by
    refine .mk (A := g.A) (C := g.C) (dx := g.dx) (k := g.kd) (nm := g.nm) (tx := g.tx) (pr := g.par) (pt := g.pt) (od := g.od) (as := g.as) (ps := g.ps) (q.s0.free ma) ?_ ?_ ?_ (fun v hv => (gk.at_ v hv).mono sm) (fun p hp => (gk.ki p hp).mono sm) (Nat.le_refl _)
    · unfold upd3
      rw [upd_ne c7, upd_ne c6, upd_same]
      rfl
    · unfold upd3
      rw [upd_ne c8, upd_same]
    · unfold upd3
      rw [upd_same]
      rfl
  refine { s0 := q.s0.trans sm, s1 := s1', cr := out _ (Ne.symm a1) (Ne.symm g1) (Ne.symm g4) q.cr, cp := out _ (Ne.symm a2) (Ne.symm g2) (Ne.symm g5) q.cp, cL := out _ (Ne.symm a3) (Ne.symm g3) (Ne.symm g6) q.cL, cf := ?_,
           rd := ?_, sc := q.sc, pc := q.pc, pn := q.pn, nd := ?_, hh := fun g2 hg2 => (q.hh g2 (List.mem_cons_of_mem _ hg2)).mono sm fun b hb o h => h, ch := ?_, gd := q.gd, hi := q.hi }
  · intro b hb
    have hb0 : HC b = none := q.cf b (by
      rw [List.cons_append, adrs_cons]
      refine List.mem_cons_of_mem _ (List.mem_cons_of_mem _ (List.mem_cons_of_mem _ ?_))
      rw [adrs_app, adrs_cons] at hb ⊢
      exact hb)
    rw [adrs_app, adrs_cons] at hb
    rcases List.mem_append.mp hb with hb | hb
    · exact out b (d1 b hb).1 (d1 b hb).2.2.1 (d1 b hb).2.2.2 hb0
    · simp only [List.mem_cons] at hb
      rcases hb with rfl | rfl | rfl | hb
      · exact out _ (Ne.symm c2) (Ne.symm e1) (Ne.symm e3) hb0
      · exact out _ (Ne.symm c3) (Ne.symm e2) (Ne.symm e4) hb0
      · exact out _ (Ne.symm c1) (Ne.symm c4) (Ne.symm c5) hb0
      · exact out b (d2 b hb).1 (d2 b hb).2.2.1 (d2 b hb).2.2.2 hb0
  · have := q.rd
    cases fr with
    | nil => exact this
    | cons _ _ => exact this
  · have nd := q.nd
    rw [List.cons_append, adrs_cons] at nd
    have e : adrs (hs ++ { f with ps := f.ps ++ [(g.a, g.w)] } :: fr) = adrs (hs ++ f :: fr) := by
      rw [adrs_app, adrs_app, adrs_cons, adrs_cons]
    rw [e]
    simp only [List.nodup_cons, List.mem_cons, not_or] at nd ⊢
    obtain ⟨⟨x1, x2, _, _, _, x3⟩, ⟨y1, _, _, _, y2⟩, ⟨_, _, _, z1⟩, _, _, _, w1⟩ := nd
    exact ⟨⟨x1, x2, x3⟩, ⟨y1, y2⟩, z1, w1⟩
  · refine q.ch.head_set (f' := { f with ps := f.ps ++ [(g.a, g.w)] }) ⟨fk.a, fk.A, ?_, fun v hv => (fk.at_ v hv).mono sm, ?_⟩ sm (fun b hb o h => h) rfl rfl rfl rfl rfl
    · rw [List.append_nil]
      have := fk.C
      show H f.C = some (.lst (Fr.refs { f with ps := f.ps ++ [(g.a, g.w)] }))
      rw [this]
      unfold Fr.refs
      rw [List.map_append]
      rfl
    · intro x hx
      rcases List.mem_append.mp hx with hx | hx
      · exact (fk.ki x hx).mono sm
      · rw [List.mem_singleton.mp hx]
        exact hcl
end
end K2
/-! K02Rq3 -/
namespace K2
open PySem PySem.Spec PyProof.Rows L2 TL
section
variable {K : PySem.W.Frag} {H0 HC H H' : Hp} {r dxr p dxp : Addr} {z : Str} {i j : Nat} {L L' : Addr} {ys ys' : List Str} {has : Bool} {hr : Addr} {hs fs fr : List Fr} {last : List V} {f g t : Fr}
theorem RQ.opened (q : RQ K H0 HC H r dxr p dxp z i L ys has hr (g :: []) (f :: fr) [.ref g.a]) (e1 : g.kd = .str "element") (e2 : g.nm = .str (mkS g.name)) (e3 : g.par = .ref f.a) :
    RQ K H0 HC H r dxr p dxp z i L ys has hr [] (g :: f :: fr) [] :=
  { s0 := q.s0, s1 := q.s1, cr := q.cr, cp := q.cp, cL := q.cL, cf := q.cf, rd := q.rd, sc := q.sc, pc := q.pc, pn := q.pn, nd := q.nd, hh := fun g hg => by simp at hg, ch := ⟨q.hh g List.mem_cons_self, e1, e2, e3, q.ch⟩, gd := q.gd, hi := q.hi }
theorem RQ.unopened (q : RQ K H0 HC H r dxr p dxp z i L ys has hr [] (g :: f :: fr) []) : RQ K H0 HC H r dxr p dxp z i L ys has hr (g :: []) (f :: fr) [.ref g.a] :=
  { s0 := q.s0, s1 := q.s1, cr := q.cr, cp := q.cp, cL := q.cL, cf := q.cf, rd := q.rd, sc := q.sc, pc := q.pc, pn := q.pn, nd := q.nd,
    hh := fun g2 hg => by
      rw [List.mem_singleton.mp hg]
      exact q.ch.1
    ch := q.ch.2.2.2.2, gd := q.gd, hi := q.hi }
/-- new pieces -/
theorem RQ.newL (q : RQ K H0 HC H r dxr p dxp z i L ys has hr hs fs last) (hL : H L' = none) :
    RQ K H0 HC (upd (upd H L' (.lst [])) r (.ins (CRd K) dxr (rdF p (rootOf fs) hr has L'))) r dxr p dxp z i L' [] has hr hs fs last := by
  obtain ⟨a1, a2, a3, a4⟩ := q.ne hL
  have q2 := (q.same (same_new hL (o := .lst []))).field has hr
  have nd := q.nd
  simp only [List.nodup_cons, List.mem_cons, not_or] at nd
  obtain ⟨⟨n1, n2, n3⟩, ⟨n4, n5⟩, n6, n7⟩ := nd
  have q3 : upd (upd H L' (.lst [])) r (.ins (CRd K) dxr (rdF p (rootOf fs) hr has L')) = upd (upd (upd H L' (.lst [])) r (.ins (CRd K) dxr (rdF p (rootOf fs) hr has L))) r (.ins (CRd K) dxr (rdF p (rootOf fs) hr has L')) := by rw [upd_upd]
  have keep : ∀ b o, b ≠ r → upd (upd H L' (.lst [])) r (.ins (CRd K) dxr (rdF p (rootOf fs) hr has L)) b = some o → upd (upd H L' (.lst [])) r (.ins (CRd K) dxr (rdF p (rootOf fs) hr has L')) b = some o := fun b o n h => by
    rw [upd_ne n] at h ⊢
    exact h
  have hp : ∀ b ∈ adrs (hs ++ fs), b ≠ r := fun b hb e => n3 (by rw [← e]; exact hb)
  exact { s0 := q2.s0, s1 := fun b o h => keep b o (ne_of_none h q.cr) (q2.s1 b o h), cr := q2.cr, cp := q2.cp, cL := q.s1.free hL, cf := q2.cf, rd := upd_same, sc := keep _ _ (Ne.symm n1) q2.sc,
          pc := by rw [upd_ne a1, upd_same]; rfl, pn := ⟨Nat.zero_le _, Nat.zero_le _⟩, nd := by
            simp only [List.nodup_cons, List.mem_cons, not_or]
            exact ⟨⟨n1, Ne.symm a1, n3⟩, ⟨Ne.symm a2, n5⟩, a4, n7⟩
          hh := fun g hg => (q2.hh g hg).mono (Same.refl _) fun b hb o h => keep b o (hp b (by rw [adrs_app]; exact List.mem_append_left _ (mem_ad hg hb))) h,
          ch := q2.ch.mono (Same.refl _) fun b hb o h => keep b o (hp b (by rw [adrs_app]; exact List.mem_append_right _ hb)) h, gd := q2.gd, hi := q2.hi }
/-- node.put_attribute(Node("attribute", ..)) -/
theorem RQ.attr (q : RQ K H0 HC H r dxr p dxp z i L ys has hr (t :: g :: hs) fs last) (ht : t.as = [] ∧ t.ps = []) (pt' : V) :
    RQ K H0 (upd3 HC { t with par := .ref g.a, pt := pt' } K []) (upd (upd H t.a (.ins (CNd K) t.dx (ndF t.kd t.nm t.tx (.ref t.A) (.ref t.C) (.ref g.a) pt' t.od))) g.A (.lst (g.as ++ [.ref t.a]))) r dxr p dxp z i L ys has hr ({ g with as := g.as ++ [.ref t.a] } :: hs) fs last := by
  have nd := q.nd
  rw [List.cons_append, List.cons_append, adrs_cons, adrs_cons] at nd
  simp only [List.nodup_cons, List.mem_cons, not_or] at nd
  obtain ⟨⟨r0, r1, r2, r3, r4, r5, r6, r7, r8⟩, ⟨p1, p2, p3, p4, p5, p6, p7, p8⟩, ⟨l2, l3, l4, l5, l6, l7, l8⟩, ⟨a1, a2, a3, a4, a5, a6⟩, ⟨b1, b2, b3, b4, b5⟩, ⟨c1, c2, c3, c4⟩, ⟨d1, d2, d3⟩, ⟨e1, e2⟩, e3, e4⟩ := nd
  have tk := q.hh t List.mem_cons_self
  have gk := q.hh g (List.mem_cons_of_mem _ List.mem_cons_self)
  have m : ∀ b ∈ t.ad, HC b = none := fun b hb => q.cf b (by rw [List.cons_append]; exact mem_ad List.mem_cons_self hb)
  have ma := m t.a (by simp [Fr.ad])
  have mA := m t.A (by simp [Fr.ad])
  have mC := m t.C (by simp [Fr.ad])
  have mg : HC g.A = none := q.cf _ (by rw [List.cons_append, List.cons_append, adrs_cons, adrs_cons]; simp)
  have sm : Same HC (upd3 HC { t with par := .ref g.a, pt := pt' } K []) := same_upd3 ma mA mC
  have out : ∀ b, b ≠ t.a → b ≠ t.A → b ≠ t.C → HC b = none → upd3 HC { t with par := .ref g.a, pt := pt' } K [] b = none := fun b n1 n2 n3 h => by
    unfold upd3
    rw [upd_ne n3, upd_ne n2, upd_ne n1]
    exact h
  have keep : ∀ b o, b ≠ t.a → b ≠ g.A → H b = some o → upd (upd H t.a (.ins (CNd K) t.dx (ndF t.kd t.nm t.tx (.ref t.A) (.ref t.C) (.ref g.a) pt' t.od))) g.A (.lst (g.as ++ [.ref t.a])) b = some o := fun b o n1 n2 h => by
    rw [upd_ne n2, upd_ne n1]
    exact h
  have hta : upd (upd H t.a (.ins (CNd K) t.dx (ndF t.kd t.nm t.tx (.ref t.A) (.ref t.C) (.ref g.a) pt' t.od))) g.A (.lst (g.as ++ [.ref t.a])) t.a = some (.ins (CNd K) t.dx (ndF t.kd t.nm t.tx (.ref t.A) (.ref t.C) (.ref g.a) pt' t.od)) := by
    rw [upd_ne a4, upd_same]
  have s1' : Same (upd3 HC { t with par := .ref g.a, pt := pt' } K []) (upd (upd H t.a (.ins (CNd K) t.dx (ndF t.kd t.nm t.tx (.ref t.A) (.ref t.C) (.ref g.a) pt' t.od))) g.A (.lst (g.as ++ [.ref t.a]))) := fun b o h => by
    unfold upd3 at h
    by_cases x1 : b = t.C
    · subst x1
      rw [upd_same] at h
      cases h
      have := tk.C
      rw [List.append_nil] at this
      refine keep _ _ (Ne.symm a2) c2 (this.trans ?_)
      unfold Fr.refs
      rw [ht.2]
      rfl
    · rw [upd_ne x1] at h
      by_cases x2 : b = t.A
      · subst x2
        rw [upd_same] at h
        cases h
        exact keep _ _ (Ne.symm a1) b3 tk.A
      · rw [upd_ne x2] at h
        by_cases x3 : b = t.a
        · subst x3
          rw [upd_same] at h
          cases h
          exact hta
        · rw [upd_ne x3] at h
          exact keep b o x3 (ne_of_none h mg) (q.s1 b o h)
  have mem2 : ∀ {b}, b ∈ adrs (hs ++ fs) → b ≠ t.a ∧ b ≠ t.A ∧ b ≠ t.C ∧ b ≠ g.A := fun {b} hb => ⟨fun e => a6 (e ▸ hb), fun e => b5 (e ▸ hb), fun e => c4 (e ▸ hb), fun e => e2 (e ▸ hb)⟩
  refine { s0 := q.s0.trans sm, s1 := s1', cr := out _ r2 r3 r4 q.cr, cp := out _ p2 p3 p4 q.cp, cL := out _ l2 l3 l4 q.cL, cf := ?_,
           rd := keep _ _ r2 r6 q.rd, sc := keep _ _ p2 p6 q.sc, pc := keep _ _ l2 l6 q.pc, pn := q.pn, nd := ?_, hh := ?_, ch := ?_, gd := q.gd, hi := q.hi }
  · intro b hb
    have hb0 : HC b = none := q.cf b (by
      rw [List.cons_append, adrs_cons]
      exact List.mem_cons_of_mem _ (List.mem_cons_of_mem _ (List.mem_cons_of_mem _ hb)))
    rw [List.cons_append, adrs_cons] at hb
    simp only [List.mem_cons] at hb
    rcases hb with rfl | rfl | rfl | hb
    · exact out _ (Ne.symm a3) (Ne.symm b2) (Ne.symm c1) hb0
    · exact out _ (Ne.symm a4) (Ne.symm b3) (Ne.symm c2) hb0
    · exact out _ (Ne.symm a5) (Ne.symm b4) (Ne.symm c3) hb0
    · exact out b (mem2 hb).1 (mem2 hb).2.1 (mem2 hb).2.2.1 hb0
  · rw [List.cons_append, adrs_cons]
    simp only [List.nodup_cons, List.mem_cons, not_or]
    exact ⟨⟨r0, r1, r5, r6, r7, r8⟩, ⟨p1, p5, p6, p7, p8⟩, ⟨l5, l6, l7, l8⟩, ⟨d1, d2, d3⟩, ⟨e1, e2⟩, e3, e4⟩
  · intro g2 hg2
    rcases List.mem_cons.mp hg2 with rfl | hg2
    · refine ⟨keep _ _ (Ne.symm a3) d1 gk.a, upd_same, keep _ _ (Ne.symm a5) (Ne.symm e1) gk.C, ?_, fun p hp => (gk.ki p hp).mono sm⟩
      intro v hv
      rcases List.mem_append.mp hv with hv | hv
      · exact (gk.at_ v hv).mono sm
      · rw [List.mem_singleton.mp hv]
        refine ⟨t.a, t.dx, ndF t.kd t.nm t.tx (.ref t.A) (.ref t.C) (.ref g.a) pt' t.od, rfl, q.s0.free ma, ?_, rfl, t.od, by unfold ndF; simp⟩
        unfold upd3
        rw [upd_ne a2, upd_ne a1, upd_same]
        rfl
    · exact (q.hh g2 (List.mem_cons_of_mem _ (List.mem_cons_of_mem _ hg2))).mono sm fun b hb o h => by
        have z1 := mem2 (b := b) (by rw [adrs_app]; exact List.mem_append_left _ (mem_ad hg2 hb))
        exact keep b o z1.1 z1.2.2.2 h
  · exact q.ch.mono sm fun b hb o h => by
      have z1 := mem2 (b := b) (by rw [adrs_app]; exact List.mem_append_right _ hb)
      exact keep b o z1.1 z1.2.2.2 h
theorem refs_le {H1 : Hp} : ∀ {l : List (Addr × Nat)}, (∀ p ∈ l, Cl K H0 H1 p.2 p.1) → l.length ≤ (l.map (·.2)).sum
  | [], _ => by simp
  | p :: l, h => by
    have i1 := refs_le (l := l) fun p hp => h p (List.mem_cons_of_mem _ hp)
    have i2 : 1 ≤ p.2 := by
      have := h p List.mem_cons_self
      cases this with
      | mk _ _ _ _ _ _ z => omega
    simp only [List.map_cons, List.length_cons, List.sum_cons]
    omega
theorem wsum_cons : wsum (f :: fs) = f.w + wsum fs := rfl
theorem wsum_app : wsum (hs ++ fs) = wsum hs + wsum fs := by
  unfold wsum
  rw [List.map_append, List.sum_append]
theorem w_ps {x : List (Addr × Nat)} : Fr.w { f with ps := f.ps ++ x } = f.w + (x.map (·.2)).sum := by
  show 1 + f.as.length + ((f.ps ++ x).map (·.2)).sum = 1 + f.as.length + (f.ps.map (·.2)).sum + (x.map (·.2)).sum
  rw [List.map_append, List.sum_append]
  omega
end
end K2
/-! K02Rm1 -/
namespace K2
open PySem PySem.Spec PyProof.Rows L2 TL
theorem Fr.ps_nil (f : Fr) : { f with ps := f.ps ++ [] } = f := by
  rw [List.append_nil]
section
variable {P : Program} {w : World} {K : PySem.W.Frag} {mg : Str → Option Value} {base : Heap}
theorem refs_few {H0 HC H : Hp} {f : Fr} {fr hs : List Fr} {last : List V} {n : Nat} (h : FrOk K H0 HC H f last) (hw : wsum (hs ++ f :: fr) ≤ n) : f.refs.length ≤ n := by
  have h1 := refs_le h.ki
  have h2 : f.w ≤ wsum (hs ++ f :: fr) := by
    rw [wsum_app, wsum_cons]
    omega
  unfold Fr.refs
  rw [List.length_map]
  unfold Fr.w at h2
  omega
def spPT (K : PySem.W.Frag) : Sp := fun vs H Q _ => ∃ (H0 HC : Hp) (r dxr p dxp : Addr) (z : Str) (i : Nat) (L : Addr) (ys : List Str) (has : Bool) (hs : List Fr) (f : Fr) (fr : List Fr), vs = [.ref r] ∧ RQ K H0 HC H r dxr p dxp z i L ys has f.a hs (f :: fr) [] ∧ wsum (hs ++ f :: fr) ≤ 2500000 ∧
  ∀ H' HC' L' x, RQ K H0 HC' H' r dxr p dxp z i L' [] has f.a hs ({ f with ps := f.ps ++ x } :: fr) [] → (x.map (·.2)).sum ≤ 1 → Q .non H'
theorem ok_put_text (T : Tx w K mg) : Ok P w K mg base CX0 3 (He.fAd K d_Reader_put_text.at_) p_Reader_put_text (spPT K) := by
  obtain ⟨fd, F⟩ := f_Reader_put_text T
  obtain ⟨fC, GC, bC, kC⟩ := ok_put_child (P := P) (base := base) T
  obtain ⟨fI, GI, bI, kI⟩ := ok_Node_init (P := P) (base := base) T
  refine ⟨fd, ?_, b_Reader_put_text F, F.kp⟩
  refine F.ok sc_Reader_put_text (fun vs H Q E h => ?_) (fun cdv A outer s H vs Q E hr h => ?_)
  · obtain ⟨H0, HC, r, dxr, p, dxp, z, i, L, ys, has, hs, f, fr, rfl, _⟩ := h
    rfl
  · obtain ⟨H0, HC, r, dxr, p, dxp, z, i, L, ys, has, hs, f, fr, rfl, q, hw, kk⟩ := h
    refine ⟨_, PSs.nox (pss_cons (ps_set (i := 1) sc_Reader_put_text.nd rfl (.inl rfl) (pe_join pe_str (pe_fld (pv 0) rfl))) (pss_cons (ps_fld (pv 0) (pe_lst pa_nil) rfl)
      (pss_one (ps_if (pt_cmpR op_ne (pv 1) pe_str (nomark _)) (pss_one (ps_expr (pe_meth (E := E0) (pe_fld (pv 0) rfl) (cls_Node T) (m_Node_put_child T) GC (hr.mono (by decide)) bC .nil pass0
        (pa_cons (pe_make (E := E0) (mk_Node T) GI hr rfl (g_Node T) bI .nil pass0 (pa_cons pe_str (pa_cons pe_non (pa_cons (pv 1) pa_nil)))) pa_nil)))) pss_nil)))), ?_⟩
    refine ⟨⟨_, rfl⟩, _, rfl, r, CRd K, dxr, _, _, rfl, q.rd, cls_Reader T, na_Reader_pieces T, rd_pieces, Str.ofString "", L, ys, rfl, rfl, .inl (SqL.of q.pc), ?_, ?_⟩
    · have h3 : (Str.ofString "").length = 0 := by decide
      have := q.gd.len
      have := q.pn.2
      have := q.hi
      rw [h3]
      omega
    generalize Txt.join (Str.ofString "") ys = text
    refine ⟨Nat.zero_le _, fun L' hL => ?_⟩
    refine ⟨_, rfl, r, CRd K, dxr, _, rfl, (q.same (same_new hL)).rd, cls_Reader T, na_Reader_pieces T, (by show 5 < 1000; decide), ?_⟩
    rw [rdp_pieces]
    have q2 := q.newL hL
    generalize upd (upd H L' (.lst [])) r (.ins (CRd K) dxr (rdF p (rootOf (f :: fr)) f.a has L')) = H2 at q2 ⊢
    refine ⟨_, rfl, rfl, _, rfl, ?_⟩
    cases e : (!decide (V.str text = V.str (Str.ofString ""))) with
    | false =>
      refine iteF ?_
      refine kk _ HC L' [] ?_ (Nat.zero_le _)
      rw [Fr.ps_nil]
      exact q2
    | true =>
      refine iteT ?_
      have fk := q2.ch.head
      refine ⟨_, rfl, r, CRd K, dxr, _, _, rfl, q2.rd, cls_Reader T, na_Reader_here T, rd_here, f.a, f.dx, f.F, rfl, fk.a, nd_no (by decide +kernel), _, rfl, fun x dx hx hdx hne => ?_⟩
      refine ⟨x, dx, .str (Str.ofString "text"), .non, .str text, rfl, upd_same, fun H3 A1 C1 hA hC nAC nA nC s3 e1 e2 e3 => ⟨rfl, ?_⟩⟩
      have q3 := q2.hand (nmL := []) hx hdx hne hA hC nAC nA nC s3 e1 e2 e3
      have fk3 := q3.ch.head
      have hC3 := fk3.C
      rw [List.append_nil] at hC3
      have nfx : f.a ≠ x := fun ee => by
        have := q2.there f.a (by rw [adrs_app, adrs_cons]; simp)
        rw [ee] at this
        exact this hx
      refine ⟨f.a, x, f.C, f.dx, dx, f.kd, f.nm, f.tx, .ref f.A, f.par, f.pt, f.od, .str (Str.ofString "text"), .non, .str text, .ref A1, .ref C1, .non, .non, .int 0, f.refs, rfl, fk3.a, hC3, ?_, e1, nfx, fun pt' => ?_⟩
      · have := refs_few fk hw
        omega
      · have q5 := (q3.link pt').close
        exact kk _ _ L' _ q5 (by show (1 + 0 + 0) + 0 ≤ 1; decide)
/-- put -/
def spPut (K : PySem.W.Frag) : Sp := fun vs H Q _ => ∃ (H0 HC : Hp) (r dxr p dxp : Addr) (z : Str) (i : Nat) (L : Addr) (ys : List Str) (has : Bool) (g f : Fr) (fr : List Fr), vs = [.ref r, .ref g.a] ∧ RQ K H0 HC H r dxr p dxp z i L ys has f.a [g] (f :: fr) [] ∧ wsum (g :: f :: fr) ≤ 2000000 ∧
  ∀ H' HC' L' x pt', RQ K H0 HC' H' r dxr p dxp z i L' [] has f.a [{ g with par := .ref f.a, pt := pt' }] ({ f with ps := f.ps ++ x } :: fr) [.ref g.a] → (x.map (·.2)).sum ≤ 1 → Q .non H'
theorem ok_put (T : Tx w K mg) : Ok P w K mg base CX0 4 (He.fAd K d_Reader_put.at_) p_Reader_put (spPut K) := by
  obtain ⟨fd, F⟩ := f_Reader_put T
  obtain ⟨fC, GC, bC, kC⟩ := ok_put_child (P := P) (base := base) T
  obtain ⟨fT, GT, bT, kT⟩ := ok_put_text (P := P) (base := base) T
  refine ⟨fd, ?_, b_Reader_put F, F.kp⟩
  refine F.ok sc_Reader_put (fun vs H Q E h => ?_) (fun cdv A outer s H vs Q E hr h => ?_)
  · obtain ⟨H0, HC, r, dxr, p, dxp, z, i, L, ys, has, g, f, fr, rfl, _⟩ := h
    rfl
  · obtain ⟨H0, HC, r, dxr, p, dxp, z, i, L, ys, has, g, f, fr, rfl, q, hw, kk⟩ := h
    refine ⟨_, PSs.nox (pss_cons (ps_expr (pe_meth0 (E := E0) (pv 0) (cls_Reader T) (m_Reader_put_text T) GT hr bT .nil pass0))
      (pss_one (ps_expr (pe_meth (E := E0) (pe_fld (pv 0) rfl) (cls_Node T) (m_Node_put_child T) GC (hr.mono (by decide)) bC .nil pass0 (pa_cons (pv 1) pa_nil))))), ?_⟩
    refine ⟨_, rfl, r, dxr, _, rfl, q.rd, rd_no (by decide +kernel), H0, HC, r, dxr, p, dxp, z, i, L, ys, has, [g], f, fr, rfl, q, (by show wsum (g :: f :: fr) ≤ _; omega), fun H2 HC2 L2 x q2 hx => ?_⟩
    have fk := q2.ch.head
    have gk := q2.hh g List.mem_cons_self
    have hC3 := fk.C
    rw [List.append_nil] at hC3
    have hga : f.a ≠ g.a := fun ee => by
      have nd := q2.nd
      rw [List.cons_append, adrs_cons] at nd
      simp only [List.nodup_cons] at nd
      refine nd.2.2.2.1 ?_
      rw [← ee]
      simp [adrs_cons]
    refine ⟨_, rfl, r, CRd K, dxr, _, _, rfl, q2.rd, cls_Reader T, na_Reader_here T, rd_here, f.a, f.dx, _, rfl, fk.a, nd_no (by decide +kernel), _, rfl, ?_⟩
    refine ⟨f.a, g.a, f.C, f.dx, g.dx, f.kd, f.nm, f.tx, .ref f.A, f.par, f.pt, f.od, g.kd, g.nm, g.tx, .ref g.A, .ref g.C, g.par, g.pt, g.od, _, rfl, fk.a, hC3, ?_, gk.a, hga, fun pt' => ?_⟩
    · have := refs_few (hs := [g]) (fr := fr) fk (n := 2000001) (by
        rw [wsum_app, wsum_cons, wsum_cons, w_ps]
        rw [wsum_cons, wsum_cons] at hw
        have h0 : wsum [] = 0 := rfl
        omega)
      omega
    · exact kk _ _ L2 x pt' (q2.link pt') hx
end
end K2
/-! K02Rm2 -/
namespace K2
open PySem PySem.Spec PyProof.Rows L2 TL
def FlR (H0 H' : Hp) (d : Addr) (n : Nat) : Prop := Same H0 H' ∧ ∃ y, H' d = some (.xd [("at", .int (n : Int)), ("why", y)])
theorem FlR.eq {H0 H' : Hp} {d : Addr} {n m : Nat} (f : FlR H0 H' d n) (h : n = m) : FlR H0 H' d m := h ▸ f
/-- the reader between two parts: the names of what is open, a bound b of what has been made -/
def RS (K : PySem.W.Frag) (H0 H : Hp) (r dxr p dxp : Addr) (z : Str) (i : Nat) (has : Bool) (st : List (List Nat)) (b : Nat) : Prop :=
  ∃ (HC : Hp) (L : Addr) (ys : List Str) (f : Fr) (fr : List Fr), RQ K H0 HC H r dxr p dxp z i L ys has f.a [] (f :: fr) [] ∧ wsum (f :: fr) ≤ b ∧ nms (f :: fr) = st ∧ ∀ x ∈ st, x.length ≤ 1000000
theorem RQ.fail {K : PySem.W.Frag} {H0 HC H H' : Hp} {r dxr p dxp d : Addr} {z : Str} {i n : Nat} {L : Addr} {ys : List Str} {has : Bool} {hr : Addr} {hs fs : List Fr} {last : List V}
    (q : RQ K H0 HC H r dxr p dxp z i L ys has hr hs fs last) (f : Fl H H' p d n) : FlR H0 H' d n := by
  refine ⟨fun b o h => ?_, f.2.2⟩
  exact f.1 b o (ne_of_none h (q.s0.free q.cp)) (q.s1 _ _ (q.s0 _ _ h))
theorem pos_le {z : Str} {i n : Nat} (hi : i ≤ z.length) (h : n ≤ ((tl z).drop i).length) : i + n ≤ z.length := by
  rw [List.length_drop, ← len_tl z] at h
  omega
theorem nms_ps (f : Fr) (x : List (Addr × Nat)) (fr : List Fr) : nms ({ f with ps := f.ps ++ x } :: fr) = nms (f :: fr) := by
  cases fr <;> rfl
theorem drop_add {l : List Nat} {i n : Nat} : l.drop (i + n) = (l.drop i).drop n := by rw [List.drop_drop]
section
variable {P : Program} {w : World} {K : PySem.W.Frag} {mg : Str → Option Value} {base : Heap}
def spEndT (K : PySem.W.Frag) : Sp := fun vs H Q E => ∃ (H0 : Hp) (r dxr p dxp : Addr) (z : Str) (i : Nat) (has : Bool) (nm : List Nat) (st : List (List Nat)) (b : Nat) (l : List Nat), vs = [.ref r] ∧ RS K H0 H r dxr p dxp z i has (nm :: st) b ∧ b ≤ 1000000 ∧ (tl z).drop i = 47 :: l ∧
  ((clN nm l).2 = true → ∀ H', RS K H0 H' r dxr p dxp z (i + ((clN nm l).1 + 1)) has st (b + 1) → Q .non H') ∧ ((clN nm l).2 = false → ∀ H' d, FlR H0 H' d (i + ((clN nm l).1 + 1)) → E (.ref (CN K)) (some d) H')
theorem ok_read_end_tag (T : Tx w K mg) : Ok P w K mg base (L2.CX P w) 5 (He.fAd K d_Reader_read_end_tag.at_) p_Reader_read_end_tag (spEndT K) := by
  obtain ⟨fd, F⟩ := f_Reader_read_end_tag T
  obtain ⟨fX, GX, bX, kX⟩ := ok_expect (P := P) (base := base) T
  obtain ⟨fB, GB, bB, kB⟩ := ok_read_blanks (P := P) (base := base) T
  obtain ⟨fT, GT, bT, kT⟩ := ok_put_text (P := P) (base := base) T
  refine ⟨fd, ?_, b_Reader_read_end_tag F, F.kp⟩
  refine F.ok sc_Reader_read_end_tag (fun vs H Q E h => ?_) (fun cdv A outer s H vs Q E hr h => ?_)
  · obtain ⟨H0, r, dxr, p, dxp, z, i, has, nm, st, b, l, rfl, _⟩ := h
    rfl
  · obtain ⟨H0, r, dxr, p, dxp, z, i, has, nm, st, b, l, rfl, ⟨HC, L, ys, f, fr, q, hw, hst, hnl⟩, hb, hl, kok, kno⟩ := h
    refine ⟨_, pss_cons (ps_expr (pe_meth (E := E) (pe_fld (pv 0) rfl) (cls_Scanner T) (m_Scanner_expect T) GX (hr.mono (by decide)) bX .nil (passes_call (takes_of rfl rfl rfl rfl) (fun _ _ _ _ h => h)) (pa_cons (pe_op op_add_str pe_str (pe_fld (pe_fld (pv 0) rfl) rfl)) pa_nil)))
      (pss_cons (ps_expr (pe_meth0 (E := E0) (pe_fld (pv 0) rfl) (cls_Scanner T) (m_Scanner_read_blanks T) GB (hr.mono (by decide)) bB .nil pass0))
      (pss_cons (ps_expr (pe_meth (E := E) (pe_fld (pv 0) rfl) (cls_Scanner T) (m_Scanner_expect T) GX (hr.mono (by decide)) bX .nil (passes_call (takes_of rfl rfl rfl rfl) (fun _ _ _ _ h => h)) (pa_cons pe_str pa_nil)))
      (pss_cons (ps_expr (pe_meth0 (E := E0) (pv 0) (cls_Reader T) (m_Reader_put_text T) GT (hr.mono (by decide)) bT .nil pass0))
      (pss_one (ps_fld (pv 0) (pe_fld (pe_fld (pv 0) rfl) rfl) rfl))))), ?_⟩
    cases fr with
    | nil => cases hst
    | cons g fr =>
      have ch := q.ch
      obtain ⟨fk, fkd, fnm, fpar, ch2⟩ := ch
      have enm : f.name = nm := (List.cons.inj hst).1
      have est : nms (g :: fr) = st := (List.cons.inj hst).2
      have hnml : nm.length ≤ 1000000 := hnl nm List.mem_cons_self
      have hlen : z.length = (tl z).length := len_tl z
      have ex : exN (tl (Str.ofString "/" ++ mkS nm)) ((tl z).drop i) = ((exN nm l).1 + 1, (exN nm l).2) := by
        rw [tl_append, lit (s := "/") (l := [47]), tl_mkS, tl_mkS, hl]
        show exN (47 :: nm) (47 :: l) = _
        rw [exN_cons, if_pos rfl]
      have hdc := drop_cons hl
      refine ⟨_, rfl, r, CRd K, dxr, _, _, rfl, q.rd, cls_Reader T, na_Reader_scan T, rd_scan, p, dxp, _, rfl, q.sc, sc_no (by decide +kernel) (by decide +kernel), ?_⟩
      refine ⟨_, rfl, r, CRd K, dxr, _, _, rfl, q.rd, cls_Reader T, na_Reader_here T, rd_here, f.a, CNd K, f.dx, f.F, _, rfl, fk.a, cls_Node T, na_Node_name T, nd_name, _, mkS nm, rfl, by rw [fnm, enm], ?_, z, Str.ofString "/" ++ mkS nm, i, p, dxp, rfl, q.sc, q.gd, q.hi, fun e1 H1 y hy m => ?_, fun e1 H1 d fl => ?_⟩
      · have h3 : (Str.ofString "/").length ≤ 1 := by decide
        rw [mkS_len, sizeLine_eq]
        omega
      · rw [ex] at e1 m
        have e1' : (exN nm l).2 = true := e1
        have en := exN_ok nm l e1'
        rw [en] at m
        have hle : (exN nm l).1 ≤ l.length := exN_le nm l
        have hll : l.length = z.length - (i + 1) := by
          rw [← hdc.2, List.length_drop]
          omega
        have q1 := q.move m (Nat.le_add_right _ _) (by show i + (nm.length + 1) ≤ z.length; omega)
        have ed : (tl z).drop (i + (nm.length + 1)) = l.drop nm.length := by
          rw [show i + (nm.length + 1) = (i + 1) + nm.length by omega, drop_add, hdc.2]
        refine ⟨_, rfl, r, CRd K, dxr, _, _, rfl, q1.rd, cls_Reader T, na_Reader_scan T, rd_scan, p, dxp, _, rfl, q1.sc, sc_no (by decide +kernel) (by decide +kernel), z, i + (nm.length + 1), p, dxp, rfl, q1.sc, q1.gd, q1.hi, fun _ H2 y2 hy2 m2 => ?_, fun e2 => by cases e2⟩
        have q2 := q1.move m2 (Nat.le_add_right _ _) (pos_le q1.hi (blN_le _))
        rw [ed] at q2
        have ed2 : (tl z).drop (i + (nm.length + 1) + blN (l.drop nm.length)) = (l.drop nm.length).drop (blN (l.drop nm.length)) := by rw [drop_add, ed]
        have ecl : clN nm l = ((exN [62] ((l.drop nm.length).drop (blN (l.drop nm.length)))).1 + blN (l.drop nm.length) + nm.length, (exN [62] ((l.drop nm.length).drop (blN (l.drop nm.length)))).2) := by
          unfold clN
          rw [if_neg (by rw [e1']; simp)]
        refine ⟨_, rfl, r, CRd K, dxr, _, _, rfl, q2.rd, cls_Reader T, na_Reader_scan T, rd_scan, p, dxp, _, rfl, q2.sc, sc_no (by decide +kernel) (by decide +kernel), z, Str.ofString ">", _, p, dxp, rfl, q2.sc, q2.gd, q2.hi, fun e3 H3 y3 hy3 m3 => ?_, fun e3 H3 d fl => ?_⟩
        · have q3 := q2.move m3 (Nat.le_add_right _ _) (pos_le q2.hi (exN_le _ _))
          rw [lit (s := ">") (l := [62]), tl_mkS, ed2] at q3 e3
          refine ⟨_, rfl, r, dxr, _, rfl, q3.rd, rd_no (by decide +kernel), H0, HC, r, dxr, p, dxp, z, _, L, ys, has, [], f, g :: fr, rfl, q3, (by show wsum (f :: g :: fr) ≤ _; omega), fun H4 HC4 L4 x q4 hx => ?_⟩
          have fk4 := q4.ch.1
          refine ⟨_, rfl, r, CRd K, dxr, _, _, rfl, q4.rd, cls_Reader T, na_Reader_here T, rd_here, f.a, CNd K, f.dx, _, .ref g.a, rfl, fk4.a, cls_Node T, na_Node_parent T, nd_par.trans (congrArg some fpar), _, rfl, r, CRd K, dxr, _, rfl, q4.rd, cls_Reader T, na_Reader_here T, (by show 5 < 1000; decide), ?_⟩
          rw [rdp_here]
          have q5 := ((q4.field has g.a).unopened).close
          rw [ecl] at kok
          have e9 : i + (nm.length + 1) + blN (l.drop nm.length) + (exN [62] ((l.drop nm.length).drop (blN (l.drop nm.length)))).1 = i + ((exN [62] ((l.drop nm.length).drop (blN (l.drop nm.length)))).1 + blN (l.drop nm.length) + nm.length + 1) := by omega
          rw [e9] at q5
          refine kok e3 _ ⟨_, L4, [], { g with ps := g.ps ++ [(f.a, Fr.w { f with ps := f.ps ++ x })] }, fr, q5, ?_, ?_, fun x hx => hnl x (List.mem_cons_of_mem _ hx)⟩
          · rw [wsum_cons, w_ps]
            rw [wsum_cons, wsum_cons] at hw
            show g.w + (Fr.w { f with ps := f.ps ++ x } + 0) + wsum fr ≤ b + 1
            rw [w_ps]
            omega
          · rw [nms_ps]
            exact est
        · rw [lit (s := ">") (l := [62]), tl_mkS, ed2] at e3 fl
          rw [ecl] at kno
          exact kno e3 _ d ((q2.fail fl).eq (by omega))
      · rw [ex] at e1 fl
        have ecl : clN nm l = ((exN nm l).1, false) := by
          unfold clN
          rw [if_pos e1]
        rw [ecl] at kno
        exact kno rfl _ d (q.fail fl)
end
end K2
/-! K02Rm3 -/
namespace K2
open PySem PySem.Spec PyProof.Rows L2 TL
section
variable {P : Program} {w : World} {K : PySem.W.Frag} {mg : Str → Option Value} {base : Heap}
theorem put_leaf {Q : VK} {E E' : XK} {H0 HC H : Hp} {r dxr p dxp : Addr} {z : Str} {i : Nat} {L : Addr} {ys : List Str} {has : Bool} {f : Fr} {fr : List Fr} {st : List (List Nat)} {b : Nat} {kd nm tx : V}
    (q : RQ K H0 HC H r dxr p dxp z i L ys has f.a [] (f :: fr) []) (hw : wsum (f :: fr) ≤ b) (hb : b ≤ 1000000) (hst : nms (f :: fr) = st) (hnl : ∀ x ∈ st, x.length ≤ 1000000) (k : ∀ H', RS K H0 H' r dxr p dxp z i has st (b + 2) → Q .non H') :
    ∀ x dx, H x = none → H dx = none → dx ≠ x → spNdInit K (.ref x :: ([kd, nm, tx] ++ [])) (upd (upd H dx (.own x)) x (.ins (CNd K) dx [])) (fun v H3 => v = .non ∧ spPut K (.ref r :: ([.ref x] ++ [])) H3 Q E) E' := by
  intro x dx hx hdx hne
  refine ⟨x, dx, kd, nm, tx, rfl, upd_same, fun H3 A1 C1 hA hC nAC nA nC s3 e1 e2 e3 => ⟨rfl, ?_⟩⟩
  have q3 := q.hand (nmL := []) hx hdx hne hA hC nAC nA nC s3 e1 e2 e3
  refine ⟨H0, HC, r, dxr, p, dxp, z, i, L, ys, has, ⟨x, A1, C1, dx, [], kd, nm, tx, .non, .non, .int 0, [], []⟩, f, fr, rfl, q3, ?_, fun H' HC' L' y pt' q4 hy => ?_⟩
  · rw [wsum_cons]
    show (1 + 0 + 0) + _ ≤ _
    omega
  · have q5 := q4.close
    refine k H' ⟨_, L', [], { f with ps := (f.ps ++ y) ++ [(x, 1)] }, fr, q5, ?_, ?_, hnl⟩
    · rw [wsum_cons] at hw ⊢
      have e : Fr.w { f with ps := (f.ps ++ y) ++ [(x, 1)] } = f.w + (y.map (·.2)).sum + 1 := by
        have h1 := w_ps (f := { f with ps := f.ps ++ y }) (x := [(x, 1)])
        have h2 := w_ps (f := f) (x := y)
        exact h1.trans (congrArg (· + 1) h2)
      rw [e]
      omega
    · cases fr <;> exact hst
def spCom (K : PySem.W.Frag) : Sp := fun vs H Q E => ∃ (H0 : Hp) (r dxr p dxp : Addr) (z : Str) (i : Nat) (has : Bool) (st : List (List Nat)) (b : Nat) (l : List Nat), vs = [.ref r] ∧ RS K H0 H r dxr p dxp z i has st b ∧ b ≤ 1000000 ∧ (tl z).drop i = 33 :: l ∧
  ((cmN l).2 = true → ∀ H', RS K H0 H' r dxr p dxp z (i + ((cmN l).1 + 1)) has st (b + 2) → Q .non H') ∧ ((cmN l).2 = false → ∀ H' d, FlR H0 H' d (i + ((cmN l).1 + 1)) → E (.ref (CN K)) (some d) H')
theorem ok_read_comment (T : Tx w K mg) : Ok P w K mg base (L2.CX P w) 5 (He.fAd K d_Reader_read_comment.at_) p_Reader_read_comment (spCom K) := by
  obtain ⟨fd, F⟩ := f_Reader_read_comment T
  obtain ⟨fX, GX, bX, kX⟩ := ok_expect (P := P) (base := base) T
  obtain ⟨fU, GU, bU, kU⟩ := ok_read_up_to (P := P) (base := base) T
  obtain ⟨fI, GI, bI, kI⟩ := ok_Node_init (P := P) (base := base) T
  obtain ⟨fT, GT, bT, kT⟩ := ok_put (P := P) (base := base) T
  refine ⟨fd, ?_, b_Reader_read_comment F, F.kp⟩
  refine F.ok sc_Reader_read_comment (fun vs H Q E h => ?_) (fun cdv A outer s H vs Q E hr h => ?_)
  · obtain ⟨H0, r, dxr, p, dxp, z, i, has, st, b, l, rfl, _⟩ := h
    rfl
  · obtain ⟨H0, r, dxr, p, dxp, z, i, has, st, b, l, rfl, ⟨HC, L, ys, f, fr, q, hw, hst, hnl⟩, hb, hl, kok, kno⟩ := h
    refine ⟨_, pss_cons (ps_expr (pe_meth (E := E) (pe_fld (pv 0) rfl) (cls_Scanner T) (m_Scanner_expect T) GX (hr.mono (by decide)) bX .nil (passes_call (takes_of rfl rfl rfl rfl) (fun _ _ _ _ h => h)) (pa_cons pe_str pa_nil)))
      (pss_cons (ps_set (i := 1) sc_Reader_read_comment.nd rfl (.inl rfl) (pe_meth (E := E) (pe_fld (pv 0) rfl) (cls_Scanner T) (m_Scanner_read_up_to T) GU (hr.mono (by decide)) bU .nil (passes_call (takes_of rfl rfl rfl rfl) (fun _ _ _ _ h => h)) (pa_cons pe_str pa_nil)))
      (pss_cons (ps_expr (pe_meth (E := E) (pe_fld (pv 0) rfl) (cls_Scanner T) (m_Scanner_expect T) GX (hr.mono (by decide)) bX .nil (passes_call (takes_of rfl rfl rfl rfl) (fun _ _ _ _ h => h)) (pa_cons pe_str pa_nil)))
      (pss_one (ps_expr (pe_meth (E := E0) (pv 0) (cls_Reader T) (m_Reader_put T) GT (hr.mono (by decide)) bT .nil pass0 (pa_cons (pe_make (E := E0) (mk_Node T) GI (hr.mono (by decide)) rfl (g_Node T) bI .nil pass0 (pa_cons pe_str (pa_cons pe_non (pa_cons (pv 1) pa_nil)))) pa_nil)))))), ?_⟩
    have hdc := drop_cons hl
    have hlen : z.length = (tl z).length := len_tl z
    have hll : l.length = z.length - (i + 1) := by
      rw [← hdc.2, List.length_drop]
      omega
    have ex : exN (tl (Str.ofString "!--")) ((tl z).drop i) = ((exN [45, 45] l).1 + 1, (exN [45, 45] l).2) := by
      rw [lit (s := "!--") (l := [33, 45, 45]), tl_mkS, hl]
      show exN (33 :: [45, 45]) (33 :: l) = _
      rw [exN_cons, if_pos rfl]
    refine ⟨_, rfl, r, CRd K, dxr, _, _, rfl, q.rd, cls_Reader T, na_Reader_scan T, rd_scan, p, dxp, _, rfl, q.sc, sc_no (by decide +kernel) (by decide +kernel), z, Str.ofString "!--", i, p, dxp, rfl, q.sc, q.gd, q.hi, fun e1 H1 y hy m => ?_, fun e1 H1 d fl => ?_⟩
    · rw [ex] at e1 m
      have e1' : (exN [45, 45] l).2 = true := e1
      have en : (exN [45, 45] l).1 = 2 := exN_ok _ l e1'
      rw [en] at m
      have hle := exN_le [45, 45] l
      rw [en] at hle
      have q1 := q.move m (Nat.le_add_right _ _) (by show i + (2 + 1) ≤ z.length; omega)
      have ed : (tl z).drop (i + (2 + 1)) = l.drop 2 := by
        rw [show i + (2 + 1) = (i + 1) + 2 by omega, drop_add, hdc.2]
      refine ⟨_, rfl, r, CRd K, dxr, _, _, rfl, q1.rd, cls_Reader T, na_Reader_scan T, rd_scan, p, dxp, _, rfl, q1.sc, sc_no (by decide +kernel) (by decide +kernel), z, Str.ofString "--", i + (2 + 1), by decide, by decide, p, dxp, rfl, q1.sc, q1.gd, q1.hi, fun e2 H2 y2 hy2 m2 => ?_, fun e2 H2 d fl => ?_⟩
      · have q2 := q1.move m2 (Nat.le_add_right _ _) (pos_le q1.hi (upN_le _ _))
        rw [lit (s := "--") (l := [45, 45]), tl_mkS, ed] at e2 q2
        have ecm : cmN l = ((exN [62] ((l.drop 2).drop (upN [45, 45] (l.drop 2)).1)).1 + (upN [45, 45] (l.drop 2)).1 + 2, (exN [62] ((l.drop 2).drop (upN [45, 45] (l.drop 2)).1)).2) := by
          unfold cmN
          rw [if_neg (by rw [e1']; simp), if_neg (by rw [e2]; simp)]
        have ed2 : (tl z).drop (i + (2 + 1) + (upN [45, 45] (l.drop 2)).1) = (l.drop 2).drop (upN [45, 45] (l.drop 2)).1 := by rw [drop_add, ed]
        refine ⟨_, rfl, r, CRd K, dxr, _, _, rfl, q2.rd, cls_Reader T, na_Reader_scan T, rd_scan, p, dxp, _, rfl, q2.sc, sc_no (by decide +kernel) (by decide +kernel), z, Str.ofString ">", _, p, dxp, rfl, q2.sc, q2.gd, q2.hi, fun e3 H3 y3 hy3 m3 => ?_, fun e3 H3 d fl => ?_⟩
        · have q3 := q2.move m3 (Nat.le_add_right _ _) (pos_le q2.hi (exN_le _ _))
          rw [lit (s := ">") (l := [62]), tl_mkS, ed2] at q3 e3
          rw [ecm] at kok
          refine ⟨_, rfl, r, dxr, _, rfl, q3.rd, rd_no (by decide +kernel), _, rfl, put_leaf (E := E0) q3 hw hb hst hnl fun H' hR => kok e3 H' ?_⟩
          have e9 : i + (2 + 1) + (upN [45, 45] (l.drop 2)).1 + (exN [62] ((l.drop 2).drop (upN [45, 45] (l.drop 2)).1)).1 = i + ((exN [62] ((l.drop 2).drop (upN [45, 45] (l.drop 2)).1)).1 + (upN [45, 45] (l.drop 2)).1 + 2 + 1) := by omega
          rw [e9] at hR
          exact hR
        · rw [lit (s := ">") (l := [62]), tl_mkS, ed2] at e3 fl
          rw [ecm] at kno
          exact kno e3 _ d ((q2.fail fl).eq (by omega))
      · rw [lit (s := "--") (l := [45, 45]), tl_mkS, ed] at e2 fl
        have ecm : cmN l = ((upN [45, 45] (l.drop 2)).1 + 2, false) := by
          unfold cmN
          rw [if_neg (by rw [e1']; simp), if_pos e2]
        rw [ecm] at kno
        exact kno rfl _ d ((q1.fail fl).eq (by omega))
    · rw [ex] at e1 fl
      have ecm : cmN l = ((exN [45, 45] l).1, false) := by
        unfold cmN
        rw [if_pos e1]
      rw [ecm] at kno
      exact kno rfl _ d (q.fail fl)
end
end K2
/-! K02Rm4 -/
namespace K2
open PySem PySem.Spec PyProof.Rows L2 TL
theorem lower_eq {l : List Nat} (h : ∀ c ∈ l, c < 128) : Txt.lower (mkS l) = mkS (l.map lowC) := by
  refine ext_tl ?_
  rw [tl_mkS, lower_ascii (x := mkS l) h]
  show ((l.toArray).map lo1).toList = l.map lowC
  simp
  intro a _
  rfl
theorem Gd.low {z : Str} (g : Gd z) {i n : Nat} : ∀ c ∈ ((tl z).drop i).take n, c < 128 := fun c hc => by
  have := g.sg c (List.mem_of_mem_drop (List.mem_of_mem_take hc))
  unfold isSg at this
  simp only [Bool.or_eq_true, Bool.and_eq_true, decide_eq_true_eq, beq_iff_eq] at this
  omega
theorem xml_eq (l : List Nat) : decide (V.str (mkS (l.map lowC)) = V.str (Str.ofString "xml")) = isXml l := by
  rw [dec_str, lit (s := "xml") (l := [120, 109, 108]), tl_mkS, tl_mkS]
  unfold isXml
  by_cases h : l.map lowC = [120, 109, 108]
  · rw [h]; rfl
  · rw [decide_eq_false h]
    exact (beq_eq_false_iff_ne.mpr h).symm
section
variable {K : PySem.W.Frag} {H0 HC H : Hp} {r dxr p dxp : Addr} {z : Str} {i : Nat} {L : Addr} {ys : List Str} {has : Bool} {hr : Addr} {hs fs : List Fr} {last : List V}
theorem RQ.raise (q : RQ K H0 HC H r dxr p dxp z i L ys has hr hs fs last) {d : Addr} {y : V} {n : Nat} (hd : H d = none) (hn : i = n) : FlR H0 (upd H d (.xd [("at", .int (i : Int)), ("why", y)])) d n := by
  subst hn
  exact ⟨fun b o h => same_new hd _ _ (q.s1 _ _ (q.s0 _ _ h)), y, upd_same⟩
end
section
variable {P : Program} {w : World} {K : PySem.W.Frag} {mg : Str → Option Value} {base : Heap}
def spIns (K : PySem.W.Frag) : Sp := fun vs H Q E => ∃ (H0 : Hp) (r dxr p dxp : Addr) (z : Str) (i : Nat) (has : Bool) (st : List (List Nat)) (b : Nat) (l : List Nat), vs = [.ref r] ∧ RS K H0 H r dxr p dxp z i has st b ∧ b ≤ 1000000 ∧ (tl z).drop i = 63 :: l ∧
  ((inN l).2 = true → ∀ H', RS K H0 H' r dxr p dxp z (i + ((inN l).1 + 1)) has st (b + 2) → Q .non H') ∧ ((inN l).2 = false → ∀ H' d, FlR H0 H' d (i + ((inN l).1 + 1)) → E (.ref (CN K)) (some d) H')
theorem ok_read_instruction (T : Tx w K mg) : Ok P w K mg base (L2.CX P w) 6 (He.fAd K d_Reader_read_instruction.at_) p_Reader_read_instruction (spIns K) := by
  obtain ⟨fd, F⟩ := f_Reader_read_instruction T
  obtain ⟨fX, GX, bX, kX⟩ := ok_expect (P := P) (base := base) T
  obtain ⟨fU, GU, bU, kU⟩ := ok_read_up_to (P := P) (base := base) T
  obtain ⟨fB, GB, bB, kB⟩ := ok_read_blanks (P := P) (base := base) T
  obtain ⟨fN, GN, bN, kN⟩ := ok_read_name (P := P) (base := base) T
  obtain ⟨fI, GI, bI, kI⟩ := ok_Node_init (P := P) (base := base) T
  obtain ⟨fT, GT, bT, kT⟩ := ok_put (P := P) (base := base) T
  refine ⟨fd, ?_, b_Reader_read_instruction F, F.kp⟩
  refine F.ok sc_Reader_read_instruction (fun vs H Q E h => ?_) (fun cdv A outer s H vs Q E hr h => ?_)
  · obtain ⟨H0, r, dxr, p, dxp, z, i, has, st, b, l, rfl, _⟩ := h
    rfl
  · obtain ⟨H0, r, dxr, p, dxp, z, i, has, st, b, l, rfl, ⟨HC, L, ys, f, fr, q, hw, hst, hnl⟩, hb, hl, kok, kno⟩ := h
    have nd := sc_Reader_read_instruction.nd
    refine ⟨_, pss_cons (ps_set (i := 1) nd rfl (.inl rfl) (pe_fld (pv 0) rfl))
      (pss_cons (ps_expr (pe_meth (E := E) (pv 1) (cls_Scanner T) (m_Scanner_expect T) GX (hr.mono (by decide)) bX .nil (passes_call (takes_of rfl rfl rfl rfl) (fun _ _ _ _ h => h)) (pa_cons pe_str pa_nil)))
      (pss_cons (ps_set (i := 2) nd rfl (.inl rfl) (pe_meth0 (E := E) (pv 1) (cls_Scanner T) (m_Scanner_read_name T) GN (hr.mono (by decide)) bN .nil (passes_call (takes_of rfl rfl rfl rfl) (fun _ _ _ _ h => h))))
      (pss_cons (ps_if (pt_cmpR op_eq (pe_lower (pv 2)) pe_str (nomark _)) (pss_one (ps_raise rfl (takes_of rfl rfl rfl rfl) (pmk_nd T (hr.mono (by decide)) (pa_cons (pe_fld (pv 1) rfl) pa_nil)))) pss_nil)
      (pss_cons (ps_set (i := 3) nd rfl (.inl rfl) pe_str)
      (pss_cons (ps_if (pt_val (pe_meth0 (E := E0) (pv 1) (cls_Scanner T) (m_Scanner_read_blanks T) GB (hr.mono (by decide)) bB .nil pass0))
        (pss_one (ps_set (i := 3) nd rfl (.inl rfl) (pe_meth (E := E) (pv 1) (cls_Scanner T) (m_Scanner_read_up_to T) GU (hr.mono (by decide)) bU .nil (passes_call (takes_of rfl rfl rfl rfl) (fun _ _ _ _ h => h)) (pa_cons pe_str pa_nil))))
        (pss_one (ps_expr (pe_meth (E := E) (pv 1) (cls_Scanner T) (m_Scanner_expect T) GX (hr.mono (by decide)) bX .nil (passes_call (takes_of rfl rfl rfl rfl) (fun _ _ _ _ h => h)) (pa_cons pe_str pa_nil)))))
      (pss_one (ps_expr (pe_meth (E := E0) (pv 0) (cls_Reader T) (m_Reader_put T) GT (hr.mono (by decide)) bT .nil pass0 (pa_cons (pe_make (E := E0) (mk_Node T) GI (hr.mono (by decide)) rfl (g_Node T) bI .nil pass0 (pa_cons pe_str (pa_cons (pv 2) (pa_cons (pv 3) pa_nil)))) pa_nil))))))))), ?_⟩
    have hdc := drop_cons hl
    have hlen : z.length = (tl z).length := len_tl z
    have ex : exN (tl (Str.ofString "?")) ((tl z).drop i) = (1, true) := by
      rw [hl]
      exact exN_one
    refine ⟨_, rfl, r, CRd K, dxr, _, _, rfl, q.rd, cls_Reader T, na_Reader_scan T, rd_scan, ?_⟩
    refine ⟨_, rfl, p, dxp, _, rfl, q.sc, sc_no (by decide +kernel) (by decide +kernel), z, Str.ofString "?", i, p, dxp, rfl, q.sc, q.gd, q.hi, fun e1 H1 y hy m => ?_, fun e1 H1 d fl => by rw [ex] at e1; cases e1⟩
    rw [ex] at m
    have q1 := q.move m (Nat.le_add_right _ _) (by show i + 1 ≤ z.length; omega)
    replace q1 : RQ K H0 HC H1 r dxr p dxp z (i + 1) L ys has f.a [] (f :: fr) [] := q1
    refine ⟨_, rfl, p, dxp, _, rfl, q1.sc, sc_no (by decide +kernel) (by decide +kernel), z, i + 1, p, dxp, rfl, q1.sc, q1.gd, q1.hi, fun e2 H2 y2 hy2 m2 => ?_, fun e2 H2 d fl => ?_⟩
    · have q2 := q1.move m2 (Nat.le_add_right _ _) (pos_le q1.hi (nmN_le _))
      rw [hdc.2] at e2 q2 hy2
      have hy3 : y2 = .str (mkS (l.take (nmN l).1)) := hy2
      subst hy3
      have hlow : ∀ c ∈ l.take (nmN l).1, c < 128 := by
        rw [← hdc.2]
        exact q.gd.low
      have hnl2 : (nmN l).1 ≤ l.length := nmN_le l
      have hll : l.length = z.length - (i + 1) := by
        rw [← hdc.2, List.length_drop]
        omega
      refine ⟨_, rfl, ⟨_, rfl⟩, _, rfl, rfl, ?_, rfl, _, rfl, ?_⟩
      · rw [mkS_len, List.length_take]
        have := q.gd.len
        omega
      rw [lower_eq hlow, xml_eq]
      cases ex2 : isXml (l.take (nmN l).1) with
      | true =>
        refine iteT ?_
        have ein : inN l = ((nmN l).1, false) := by
          unfold inN
          rw [if_neg (by rw [e2]; simp), if_pos ex2]
        rw [ein] at kno
        exact ⟨_, rfl, p, CSc K, dxp, _, _, rfl, q2.sc, cls_Scanner T, na_Scanner_at T, sc_at, nd_ok (q2.gd.log q2.hi) fun d y hd => kno rfl _ d (q2.raise hd (by show _ = i + ((nmN l).1 + 1); omega))⟩
      | false =>
        refine iteF ?_
        have ein : inN l = if blN (l.drop (nmN l).1) = 0 then ((exN [63, 62] (l.drop (nmN l).1)).1 + (nmN l).1, (exN [63, 62] (l.drop (nmN l).1)).2)
            else ((upN [63, 62] ((l.drop (nmN l).1).drop (blN (l.drop (nmN l).1)))).1 + blN (l.drop (nmN l).1) + (nmN l).1, (upN [63, 62] ((l.drop (nmN l).1).drop (blN (l.drop (nmN l).1)))).2) := by
          unfold inN
          rw [if_neg (by rw [e2]; simp), if_neg (by rw [ex2]; simp)]
        have ed : (tl z).drop (i + 1 + (nmN l).1) = l.drop (nmN l).1 := by rw [drop_add, hdc.2]
        refine ⟨_, rfl, p, dxp, _, rfl, q2.sc, sc_no (by decide +kernel) (by decide +kernel), z, i + 1 + (nmN l).1, p, dxp, rfl, q2.sc, q2.gd, q2.hi, fun _ H3 y3 hy3 m3 => ?_, fun e3 => by cases e3⟩
        have q3 := q2.move m3 (Nat.le_add_right _ _) (pos_le q2.hi (blN_le _))
        rw [ed] at q3 hy3
        have hy4 : y3 = .bl (decide (0 < blN (l.drop (nmN l).1))) := hy3
        subst hy4
        have ed3 : (tl z).drop (i + 1 + (nmN l).1 + blN (l.drop (nmN l).1)) = (l.drop (nmN l).1).drop (blN (l.drop (nmN l).1)) := by rw [drop_add, ed]
        refine ⟨_, rfl, ?_⟩
        refine ite2 (fun hp => ?_) (fun hp => ?_)
        · have hp' : ¬ blN (l.drop (nmN l).1) = 0 := by
            have := of_decide_eq_true hp
            omega
          rw [if_neg hp'] at ein
          refine ⟨_, rfl, p, dxp, _, rfl, q3.sc, sc_no (by decide +kernel) (by decide +kernel), z, Str.ofString "?>", _, by decide, by decide, p, dxp, rfl, q3.sc, q3.gd, q3.hi, fun e4 H4 y4 hy4 m4 => ?_, fun e4 H4 d fl => ?_⟩
          · have q4 := q3.move m4 (Nat.le_add_right _ _) (pos_le q3.hi (upN_le _ _))
            rw [lit (s := "?>") (l := [63, 62]), tl_mkS, ed3] at e4 q4
            obtain ⟨y4s, rfl, _⟩ := hy4
            rw [ein] at kok
            refine ⟨_, rfl, r, dxr, _, rfl, q4.rd, rd_no (by decide +kernel), _, rfl, _, rfl, put_leaf (E := E0) q4 hw hb hst hnl fun H' hR => kok e4 H' ?_⟩
            have e9 : i + 1 + (nmN l).1 + blN (l.drop (nmN l).1) + (upN [63, 62] ((l.drop (nmN l).1).drop (blN (l.drop (nmN l).1)))).1 = i + ((upN [63, 62] ((l.drop (nmN l).1).drop (blN (l.drop (nmN l).1)))).1 + blN (l.drop (nmN l).1) + (nmN l).1 + 1) := by omega
            rw [e9] at hR
            exact hR
          · rw [lit (s := "?>") (l := [63, 62]), tl_mkS, ed3] at e4 fl
            rw [ein] at kno
            exact kno e4 _ d ((q3.fail fl).eq (by show _ = i + ((upN [63, 62] ((l.drop (nmN l).1).drop (blN (l.drop (nmN l).1)))).1 + blN (l.drop (nmN l).1) + (nmN l).1 + 1); omega))
        · have hp' : blN (l.drop (nmN l).1) = 0 := by
            have := of_decide_eq_false (Bool.eq_false_iff.mpr hp)
            omega
          rw [if_pos hp'] at ein
          rw [hp'] at q3
          have q3' : RQ K H0 HC H3 r dxr p dxp z (i + 1 + (nmN l).1) L ys has f.a [] (f :: fr) [] := q3
          refine ⟨_, rfl, p, dxp, _, rfl, q3'.sc, sc_no (by decide +kernel) (by decide +kernel), z, Str.ofString "?>", i + 1 + (nmN l).1, p, dxp, rfl, q3'.sc, q3'.gd, q3'.hi, fun e4 H4 y4 hy4 m4 => ?_, fun e4 H4 d fl => ?_⟩
          · have q4 := q3'.move m4 (Nat.le_add_right _ _) (pos_le q3'.hi (exN_le _ _))
            rw [lit (s := "?>") (l := [63, 62]), tl_mkS, ed] at e4 q4
            rw [ein] at kok
            refine ⟨_, rfl, r, dxr, _, rfl, q4.rd, rd_no (by decide +kernel), _, rfl, _, rfl, put_leaf (E := E0) q4 hw hb hst hnl fun H' hR => kok e4 H' ?_⟩
            have e9 : i + 1 + (nmN l).1 + (exN [63, 62] (l.drop (nmN l).1)).1 = i + ((exN [63, 62] (l.drop (nmN l).1)).1 + (nmN l).1 + 1) := by omega
            rw [e9] at hR
            exact hR
          · rw [lit (s := "?>") (l := [63, 62]), tl_mkS, ed] at e4 fl
            rw [ein] at kno
            exact kno e4 _ d ((q3'.fail fl).eq (by show _ = i + ((exN [63, 62] (l.drop (nmN l).1)).1 + (nmN l).1 + 1); omega))
    · rw [hdc.2] at e2 fl
      have ein : inN l = ((nmN l).1, false) := by
        unfold inN
        rw [if_pos e2]
      rw [ein] at kno
      exact kno rfl _ d ((q1.fail fl).eq (by show _ = i + ((nmN l).1 + 1); omega))
end
end K2
/-! K02Rm5 -/
namespace K2
open PySem PySem.Spec PyProof.Rows L2 TL
theorem room_hu {k : Nat} {A : Around} (r : Room k A) : A.units + 1 < cLine := by
  have := r.un
  omega
/-! ### the dict of the known names -/
def KD (HC H : Hp) (kd : Addr) (ks : List (List Nat)) : Prop :=
  HC kd = none ∧ ∃ kvs : List (Key × V), H kd = some (.dK kvs) ∧ kvs.length ≤ ks.length ∧ ∀ s : List Nat, (valV kvs (Sum.inr (mkS s))).isSome = decide (s ∈ ks)
def noDK (o : HO) : Prop := ∀ kvs, o ≠ .dK kvs
theorem KD.same {HC H H' : Hp} {kd : Addr} {ks : List (List Nat)} (k : KD HC H kd ks) (s : Same H H') : KD HC H' kd ks := by
  obtain ⟨h1, kvs, h2, h3⟩ := k
  exact ⟨h1, kvs, s _ _ h2, h3⟩
theorem KD.move {K : PySem.W.Frag} {HC H H' : Hp} {kd p dx : Addr} {z : Str} {i j : Nat} {ks : List (List Nat)} (k : KD HC H kd ks) (a : At K H p dx z i) (m : Mv K H H' p dx z j) : KD HC H' kd ks := by
  obtain ⟨h1, kvs, h2, h3⟩ := k
  exact ⟨h1, kvs, m.1 _ _ (ne_of h2 a (by intro q; cases q)) h2, h3⟩
theorem KD.ne {HC H : Hp} {kd b : Addr} {ks : List (List Nat)} (k : KD HC H kd ks) (h : H b = none) : kd ≠ b := by
  obtain ⟨h1, kvs, h2, h3⟩ := k
  exact ne_of_none h2 h
theorem KD.put {HC H : Hp} {kd : Addr} {ks : List (List Nat)} {s : List Nat} {kvs : List (Key × V)} {v : V} (h1 : HC kd = none) (h3 : kvs.length ≤ ks.length) (h4 : ∀ s : List Nat, (valV kvs (Sum.inr (mkS s))).isSome = decide (s ∈ ks)) :
    KD HC (upd H kd (.dK (putK kvs (Sum.inr (mkS s)) v))) kd (s :: ks) := by
  refine ⟨h1, _, upd_same, ?_, fun t => ?_⟩
  · have := length_putK kvs (Sum.inr (mkS s)) v
    rw [List.length_cons]
    omega
  · rw [valV_put]
    by_cases e : t = s
    · subst e
      rw [if_pos rfl]
      simp
    · rw [if_neg (fun h => e (by
        have h2 := congrArg tl (Sum.inr.inj h)
        rw [tl_mkS, tl_mkS] at h2
        exact h2)), h4]
      simp [e]
section
variable {K : PySem.W.Frag} {H0 HC H : Hp} {r dxr p dxp : Addr} {z : Str} {i : Nat} {L : Addr} {ys : List Str} {has : Bool} {hr : Addr} {hs fs : List Fr} {last : List V}
theorem FrOk.kind {f : Fr} {last : List V} (h : FrOk K H0 HC H f last) : ∀ b ∈ f.ad, ∀ kvs, H b ≠ some (.dK kvs) := by
  intro b hb kvs
  simp only [Fr.ad, List.mem_cons, List.not_mem_nil, or_false] at hb
  rcases hb with rfl | rfl | rfl
  · rw [h.a]; simp
  · rw [h.A]; simp
  · rw [h.C]; simp
theorem Chain.kind : ∀ {l : List Fr} {last : List V}, Chain K H0 HC H l last → ∀ b ∈ adrs l, ∀ kvs, H b ≠ some (.dK kvs)
  | [], _, h, b, hb, _ => h.elim
  | [f], last, ⟨h1, _, _⟩, b, hb, kvs => h1.kind b (by simpa [adrs] using hb) kvs
  | f :: g :: r, last, ⟨h1, _, _, _, h5⟩, b, hb, kvs => by
    unfold adrs at hb
    rw [List.flatMap_cons] at hb
    rcases List.mem_append.mp hb with hb | hb
    · exact h1.kind b hb kvs
    · exact Chain.kind h5 b hb kvs
theorem RQ.dput (q : RQ K H0 HC H r dxr p dxp z i L ys has hr hs fs last) {kd : Addr} {kvs : List (Key × V)} {o : HO} (h1 : HC kd = none) (h2 : H kd = some (.dK kvs)) : RQ K H0 HC (upd H kd o) r dxr p dxp z i L ys has hr hs fs last := by
  have n1 : r ≠ kd := ne_of q.rd h2 (by intro q; cases q)
  have n2 : p ≠ kd := ne_of q.sc h2 (by intro q; cases q)
  have n3 : L ≠ kd := ne_of q.pc h2 (by intro q; cases q)
  have hl : ∀ g ∈ hs, ∀ b ∈ g.ad, b ≠ kd := fun g hg b hb e => (q.hh g hg).kind b hb kvs (by rw [e]; exact h2)
  have hf : ∀ b ∈ adrs fs, b ≠ kd := fun b hb e => q.ch.kind b hb kvs (by rw [e]; exact h2)
  exact { s0 := q.s0, s1 := same_upd0 q.s1 h1, cr := q.cr, cp := q.cp, cL := q.cL, cf := q.cf,
          rd := by rw [upd_ne n1]; exact q.rd, sc := by rw [At, upd_ne n2]; exact q.sc, pc := by rw [upd_ne n3]; exact q.pc, pn := q.pn, nd := q.nd,
          hh := fun g hg => (q.hh g hg).mono (Same.refl _) fun b hb o h => by rw [upd_ne (hl g hg b hb)]; exact h,
          ch := q.ch.mono (Same.refl _) fun b hb o h => by rw [upd_ne (hf b hb)]; exact h, gd := q.gd, hi := q.hi }
end
theorem KD.attr {K : PySem.W.Frag} {HC H H3 : Hp} {kd x dx A C gA : Addr} {ks : List (List Nat)} {o1 o2 : HO} {oi : HO} {xs : List V} {t : Fr} (k : KD HC H kd ks) (hx : H x = none) (hdx : H dx = none) (hA : upd (upd H dx (.own x)) x oi A = none) (hC : upd (upd H dx (.own x)) x oi C = none)
    (s : SameB x (upd (upd H dx (.own x)) x oi) H3) (hg : H3 gA = some (.lst xs)) (t1 : t.a = x) (t2 : t.A = A) (t3 : t.C = C) : KD (upd3 HC t K []) (upd (upd H3 x o1) gA o2) kd ks := by
  have n1 := k.ne hx
  have n2 := k.ne hdx
  obtain ⟨h1, kvs, h2, h3⟩ := k
  have h5 : upd (upd H dx (.own x)) x oi kd = some (.dK kvs) := by
    rw [upd_ne n1, upd_ne n2]
    exact h2
  have n3 : kd ≠ A := ne_of_none h5 hA
  have n4 : kd ≠ C := ne_of_none h5 hC
  have h6 := s _ _ n1 h5
  have n5 : kd ≠ gA := ne_of h6 hg (by intro q; cases q)
  refine ⟨?_, kvs, ?_, h3⟩
  · unfold upd3
    rw [t1, t2, t3, upd_ne n4, upd_ne n3, upd_ne n1]
    exact h1
  · rw [upd_ne n5, upd_ne n1]
    exact h6
theorem ex_eq {c : Nat} {l : List Nat} (h : (exN [c] l).2 = true) : ∃ r, l = c :: r ∧ (exN [c] l).1 = 1 := by
  cases l with
  | nil => simp [exN] at h
  | cons d r =>
    by_cases e : d = c
    · subst e
      exact ⟨r, rfl, by simp [exN]⟩
    · simp [exN, e] at h
theorem ex_ne {c : Nat} {l : List Nat} (h : (exN [c] l).2 = false) : (∀ r, l ≠ c :: r) ∧ (exN [c] l).1 = 0 := by
  cases l with
  | nil => exact ⟨by simp, by simp [exN]⟩
  | cons d r =>
    by_cases e : d = c
    · subst e
      simp [exN] at h
    · refine ⟨fun r' q => e (List.cons.inj q).1, by simp [exN, e]⟩
theorem at_unfold {ks : List (List Nat)} {l : List Nat} (h1 : (nmN l).2 = true) (h2 : l.take (nmN l).1 ∉ ks) : atN ks l = match (l.drop (nmN l).1).drop (blN (l.drop (nmN l).1)) with
    | 61 :: r3 => ((vlN (r3.drop (blN r3))).1 + (blN r3) + 1 + blN (l.drop (nmN l).1) + (nmN l).1, (vlN (r3.drop (blN r3))).2)
    | _ => (blN (l.drop (nmN l).1) + (nmN l).1, false) := by
  unfold atN
  rw [if_neg (by rw [h1]; simp), if_neg h2]
  try rfl
section
variable {P : Program} {w : World} {K : PySem.W.Frag} {mg : Str → Option Value} {base : Heap}
def spRA (K : PySem.W.Frag) : Sp := fun vs H Q E => ∃ (H0 HC : Hp) (r dxr p dxp : Addr) (z : Str) (i : Nat) (L : Addr) (ys : List Str) (has : Bool) (g f : Fr) (fr : List Fr) (kd : Addr) (ks : List (List Nat)) (l : List Nat),
  vs = [.ref r, .ref g.a, .ref kd] ∧ RQ K H0 HC H r dxr p dxp z i L ys has f.a [g] (f :: fr) [] ∧ KD HC H kd ks ∧ ks.length ≤ i ∧ g.as.length ≤ i ∧ (tl z).drop i = l ∧
  ((atN ks l).2 = true → ∀ H' HC' x, RQ K H0 HC' H' r dxr p dxp z (i + (atN ks l).1) L ys has f.a [{ g with as := g.as ++ [x] }] (f :: fr) [] → KD HC' H' kd (l.take (nmN l).1 :: ks) → Q .non H') ∧
  ((atN ks l).2 = false → ∀ H' d, FlR H0 H' d (i + (atN ks l).1) → E (.ref (CN K)) (some d) H')
theorem ok_read_attribute (T : Tx w K mg) : Ok P w K mg base (L2.CX P w) 8 (He.fAd K d_Reader_read_attribute.at_) p_Reader_read_attribute (spRA K) := by
  obtain ⟨fd, F⟩ := f_Reader_read_attribute T
  obtain ⟨fX, GX, bX, kX⟩ := ok_expect (P := P) (base := base) T
  obtain ⟨fA, GA, bA, kA⟩ := ok_read_attribute_text (P := P) (base := base) T
  obtain ⟨fB, GB, bB, kB⟩ := ok_read_blanks (P := P) (base := base) T
  obtain ⟨fN, GN, bN, kN⟩ := ok_read_name (P := P) (base := base) T
  obtain ⟨fI, GI, bI, kI⟩ := ok_Node_init (P := P) (base := base) T
  obtain ⟨fT, GT, bT, kT⟩ := ok_put_attribute (P := P) (base := base) T
  refine ⟨fd, ?_, b_Reader_read_attribute F, F.kp⟩
  refine F.ok sc_Reader_read_attribute (fun vs H Q E h => ?_) (fun cdv A outer s H vs Q E hr h => ?_)
  · obtain ⟨H0, HC, r, dxr, p, dxp, z, i, L, ys, has, g, f, fr, kd, ks, l, rfl, _⟩ := h
    rfl
  · obtain ⟨H0, HC, r, dxr, p, dxp, z, i, L, ys, has, g, f, fr, kd, ks, l, rfl, q, kk, hks, hga, hl, kok, kno⟩ := h
    have nd := sc_Reader_read_attribute.nd
    refine ⟨_, pss_cons (ps_set (i := 3) nd rfl (.inl rfl) (pe_fld (pv 0) rfl))
      (pss_cons (ps_set (i := 4) nd rfl (.inl rfl) (pe_meth0 (E := E) (pv 3) (cls_Scanner T) (m_Scanner_read_name T) GN (hr.mono (by decide)) bN .nil (passes_call (takes_of rfl rfl rfl rfl) (fun _ _ _ _ h => h))))
      (pss_cons (ps_if (pt_cmp (pc_din (room_hu hr) (pv 4) (pv 2)) (by rfl)) (pss_one (ps_raise rfl (takes_of rfl rfl rfl rfl) (pmk_nd T (hr.mono (by decide)) (pa_cons (pe_fld (pv 3) rfl) pa_nil)))) pss_nil)
      (pss_cons (ps_dput (room_hu hr) (pv 2) (pv 4) pe_bl (by rfl))
      (pss_cons (ps_expr (pe_meth0 (E := E0) (pv 3) (cls_Scanner T) (m_Scanner_read_blanks T) GB (hr.mono (by decide)) bB .nil pass0))
      (pss_cons (ps_expr (pe_meth (E := E) (pv 3) (cls_Scanner T) (m_Scanner_expect T) GX (hr.mono (by decide)) bX .nil (passes_call (takes_of rfl rfl rfl rfl) (fun _ _ _ _ h => h)) (pa_cons pe_str pa_nil)))
      (pss_cons (ps_expr (pe_meth0 (E := E0) (pv 3) (cls_Scanner T) (m_Scanner_read_blanks T) GB (hr.mono (by decide)) bB .nil pass0))
      (pss_one (ps_expr (pe_meth (E := E0) (pv 1) (cls_Node T) (m_Node_put_attribute T) GT (hr.mono (by decide)) bT .nil pass0
        (pa_cons (pe_make (E := E0) (mk_Node T) GI (hr.mono (by decide)) rfl (g_Node T) bI .nil pass0 (pa_cons pe_str (pa_cons (pv 4) (pa_cons (pe_meth0 (E := E) (pv 3) (cls_Scanner T) (m_Scanner_read_attribute_text T) GA (hr.mono (by decide)) bA .nil (passes_call (takes_of rfl rfl rfl rfl) (fun _ _ _ _ h => h))) pa_nil)))) pa_nil)))))))))), ?_⟩
    have hlen : z.length = (tl z).length := len_tl z
    have hl0 : l.length = z.length - i := by
      rw [← hl, List.length_drop]
      omega
    have hlen4 := q.gd.len
    refine ⟨_, rfl, r, CRd K, dxr, _, _, rfl, q.rd, cls_Reader T, na_Reader_scan T, rd_scan, ?_⟩
    refine ⟨_, rfl, p, dxp, _, rfl, q.sc, sc_no (by decide +kernel) (by decide +kernel), z, i, p, dxp, rfl, q.sc, q.gd, q.hi, fun e1 H1 y1 hy1 m1 => ?_, fun e1 H1 d fl => ?_⟩
    · have q1 := q.move m1 (Nat.le_add_right _ _) (pos_le q.hi (nmN_le _))
      have k1 := kk.move q.sc m1
      rw [hl] at e1 q1 hy1
      have hy3 : y1 = .str (mkS (l.take (nmN l).1)) := hy1
      subst hy3
      have hnp := nm_pos e1
      have hnle := nmN_le l
      obtain ⟨c1, kvs, c2, c3, c4⟩ := k1
      refine ⟨_, rfl, _, rfl, kd, _, rfl, DGet.k (k := Sum.inr (mkS (l.take (nmN l).1))) c2, _, rfl, ?_⟩
      rw [c4]
      refine ite2 (fun h => ?_) (fun h => ?_)
      · have h' := of_decide_eq_true h
        have ein : atN ks l = ((nmN l).1, false) := by
          unfold atN
          rw [if_neg (by rw [e1]; simp), if_pos h']
        rw [ein] at kno
        exact ⟨_, rfl, p, CSc K, dxp, _, _, rfl, q1.sc, cls_Scanner T, na_Scanner_at T, sc_at, nd_ok (q1.gd.log q1.hi) fun d y hd => kno rfl _ d (q1.raise hd rfl)⟩
      · have h' : l.take (nmN l).1 ∉ ks := of_decide_eq_false (Bool.eq_false_iff.mpr h)
        have ein := at_unfold e1 h'
        refine ⟨_, rfl, _, rfl, kd, _, rfl, DPut.k (k := Sum.inr (mkS (l.take (nmN l).1))) c2 (by rw [sizeLine_eq]; omega), ?_⟩
        have q2 := q1.dput (o := .dK (putK kvs (Sum.inr (mkS (l.take (nmN l).1))) (.bl true))) c1 c2
        have k2 : KD HC (upd H1 kd (.dK (putK kvs (Sum.inr (mkS (l.take (nmN l).1))) (.bl true)))) kd (l.take (nmN l).1 :: ks) := KD.put c1 c3 c4
        generalize upd H1 kd (.dK (putK kvs (Sum.inr (mkS (l.take (nmN l).1))) (.bl true))) = H2 at q2 k2 ⊢
        have ed : (tl z).drop (i + (nmN l).1) = l.drop (nmN l).1 := by rw [drop_add, hl]
        refine ⟨_, rfl, p, dxp, _, rfl, q2.sc, sc_no (by decide +kernel) (by decide +kernel), z, i + (nmN l).1, p, dxp, rfl, q2.sc, q2.gd, q2.hi, fun _ H3 y3 hy3 m3 => ?_, fun e3 => by cases e3⟩
        have q3 := q2.move m3 (Nat.le_add_right _ _) (pos_le q2.hi (blN_le _))
        have k3 := k2.move q2.sc m3
        rw [ed] at q3
        have ed3 : (tl z).drop (i + (nmN l).1 + blN (l.drop (nmN l).1)) = (l.drop (nmN l).1).drop (blN (l.drop (nmN l).1)) := by rw [drop_add, ed]
        refine ⟨_, rfl, p, dxp, _, rfl, q3.sc, sc_no (by decide +kernel) (by decide +kernel), z, Str.ofString "=", _, p, dxp, rfl, q3.sc, q3.gd, q3.hi, fun e4 H4 y4 hy4 m4 => ?_, fun e4 H4 d fl => ?_⟩
        · have q4 := q3.move m4 (Nat.le_add_right _ _) (pos_le q3.hi (exN_le _ _))
          have k4 := k3.move q3.sc m4
          rw [lit (s := "=") (l := [61]), tl_mkS, ed3] at e4 q4
          obtain ⟨r3, hr3, h1⟩ := ex_eq e4
          rw [h1] at q4
          rw [hr3] at ein ed3
          replace ein : atN ks l = ((vlN (r3.drop (blN r3))).1 + (blN r3) + 1 + blN (l.drop (nmN l).1) + (nmN l).1, (vlN (r3.drop (blN r3))).2) := ein
          have ed4 : (tl z).drop (i + (nmN l).1 + blN (l.drop (nmN l).1) + 1) = r3 := by
            rw [drop_add, ed3]
            rfl
          refine ⟨_, rfl, p, dxp, _, rfl, q4.sc, sc_no (by decide +kernel) (by decide +kernel), z, _, p, dxp, rfl, q4.sc, q4.gd, q4.hi, fun _ H5 y5 hy5 m5 => ?_, fun e5 => by cases e5⟩
          have q5 := q4.move m5 (Nat.le_add_right _ _) (pos_le q4.hi (blN_le _))
          have k5 := k4.move q4.sc m5
          rw [ed4] at q5
          have ed5 : (tl z).drop (i + (nmN l).1 + blN (l.drop (nmN l).1) + 1 + blN r3) = r3.drop (blN r3) := by rw [drop_add, ed4]
          have gk5 := q5.hh g List.mem_cons_self
          refine ⟨_, rfl, g.a, g.dx, _, rfl, gk5.a, nd_no (by decide +kernel), _, rfl, _, rfl, p, dxp, _, rfl, q5.sc, sc_no (by decide +kernel) (by decide +kernel), z, _, p, dxp, rfl, q5.sc, q5.gd, q5.hi, fun e6 H6 y6 hy6 m6 => ?_, fun e6 H6 d fl => ?_⟩
          · have q6 := q5.move m6 (Nat.le_add_right _ _) (pos_le q5.hi (vlN_le _))
            have k6 := k5.move q5.sc m6
            rw [ed5] at e6 q6
            rw [ein] at kok
            intro x dx hx hdx hne
            refine ⟨x, dx, .str (Str.ofString "attribute"), .str (mkS (l.take (nmN l).1)), y6, rfl, upd_same, fun H7 A1 C1 hA hC nAC nA nC s3 f1 f2 f3 => ⟨rfl, ?_⟩⟩
            have q7 := q6.hand (nmL := []) hx hdx hne hA hC nAC nA nC s3 f1 f2 f3
            have gk7 := q7.hh g (List.mem_cons_of_mem _ List.mem_cons_self)
            have hgx : g.a ≠ x := fun e => q6.there g.a (by simp [adrs_cons]) (by rw [e]; exact hx)
            refine ⟨g.a, x, g.A, g.dx, dx, g.kd, g.nm, g.tx, .ref g.C, g.par, g.pt, g.od, .str (Str.ofString "attribute"), y6, .ref A1, .ref C1, .non, .non, .int 0, mkS (l.take (nmN l).1), g.as, rfl, gk7.a, gk7.A, by omega, f1, hgx, ?_, fun pt' => ?_⟩
            · rw [mkS_len, List.length_take]
              omega
            have q8 := q7.attr ⟨rfl, rfl⟩ pt'
            have k8 := KD.attr (K := K) (t := { (⟨x, A1, C1, dx, [], .str (Str.ofString "attribute"), .str (mkS (l.take (nmN l).1)), y6, .non, .non, .int 0, [], []⟩ : Fr) with par := .ref g.a, pt := pt' })
              (o1 := .ins (CNd K) dx (ndF (.str (Str.ofString "attribute")) (.str (mkS (l.take (nmN l).1))) y6 (.ref A1) (.ref C1) (.ref g.a) pt' (.int 0))) (o2 := .lst (g.as ++ [.ref x])) k6 hx hdx hA hC s3 gk7.A rfl rfl rfl
            have e9 : i + (nmN l).1 + blN (l.drop (nmN l).1) + 1 + blN r3 + (vlN (r3.drop (blN r3))).1 = i + ((vlN (r3.drop (blN r3))).1 + blN r3 + 1 + blN (l.drop (nmN l).1) + (nmN l).1) := by omega
            rw [e9] at q8
            exact kok e6 _ _ _ q8 k8
          · rw [ed5] at e6 fl
            rw [ein] at kno
            exact kno e6 _ d ((q5.fail fl).eq (by show _ = i + ((vlN (r3.drop (blN r3))).1 + blN r3 + 1 + blN (l.drop (nmN l).1) + (nmN l).1); omega))
        · rw [lit (s := "=") (l := [61]), tl_mkS, ed3] at e4 fl
          obtain ⟨h1, h2⟩ := ex_ne e4
          rw [h2] at fl
          have ein2 : atN ks l = (blN (l.drop (nmN l).1) + (nmN l).1, false) := by
            rw [ein]
            split
            · rename_i r3 h
              exact absurd h (h1 r3)
            · rfl
          rw [ein2] at kno
          exact kno rfl _ d ((q3.fail fl).eq (by show _ = i + (blN (l.drop (nmN l).1) + (nmN l).1); omega))
    · rw [hl] at e1 fl
      have ein : atN ks l = ((nmN l).1, false) := by
        unfold atN
        rw [if_pos e1]
      rw [ein] at kno
      exact kno rfl _ d (q.fail fl)
end
end K2
/-! K02Rm6 -/
namespace K2
open PySem PySem.Spec PyProof.Rows L2 TL
def endN : List Nat → Nat × Bool × Bool
  | 62 :: _ => (1, true, false)
  | 47 :: r => if r.head? = some 62 then (2, true, true) else (1, false, true)
  | _ => (0, false, true)
def stopB : List Nat → Bool
  | c :: _ => c == 47 || c == 62
  | [] => false
theorem tg_end {ks : List (List Nat)} {l : List Nat} (h : stopB (l.drop (blN l)) = true ∨ blN l = 0) : tgN ks l = ((endN (l.drop (blN l))).1 + blN l, (endN (l.drop (blN l))).2) := by
  rw [tgN]
  split
  · rename_i r e
    rw [e]
    show (blN l + 1, true, false) = (1 + blN l, true, false)
    rw [Nat.add_comm]
  · rename_i r e
    rw [e]
    by_cases h2 : r.head? = some 62
    · rw [if_pos h2]
      show _ = ((if r.head? = some 62 then (2, true, true) else (1, false, true) : Nat × Bool × Bool).1 + blN l, (if r.head? = some 62 then (2, true, true) else (1, false, true) : Nat × Bool × Bool).2)
      rw [if_pos h2]
      show (blN l + 2, true, true) = (2 + blN l, true, true)
      rw [Nat.add_comm]
    · rw [if_neg h2]
      show _ = ((if r.head? = some 62 then (2, true, true) else (1, false, true) : Nat × Bool × Bool).1 + blN l, (if r.head? = some 62 then (2, true, true) else (1, false, true) : Nat × Bool × Bool).2)
      rw [if_neg h2]
      show (blN l + 1, false, true) = (1 + blN l, false, true)
      rw [Nat.add_comm]
  · rename_i h1 h2
    have hs : stopB (l.drop (blN l)) = false := by
      cases e : l.drop (blN l) with
      | nil => rfl
      | cons c r =>
        show (c == 47 || c == 62) = false
        have a1 : c ≠ 62 := fun q => h1 r (by rw [e, q])
        have a2 : c ≠ 47 := fun q => h2 r (by rw [e, q])
        simp [a1, a2]
    have hb : blN l = 0 := by
      rcases h with h | h
      · rw [hs] at h
        cases h
      · exact h
    rw [if_pos hb]
    have ee : endN (l.drop (blN l)) = (0, false, true) := by
      unfold endN
      split
      · rename_i r e
        exact absurd e (h1 r)
      · rename_i r e
        exact absurd e (h2 r)
      · rfl
    rw [ee, hb]
theorem tg_go {ks : List (List Nat)} {l : List Nat} (h1 : stopB (l.drop (blN l)) = false) (h2 : blN l ≠ 0) : tgN ks l =
    if (atN ks (l.drop (blN l))).2 = true then ((tgN ((l.drop (blN l)).take (nmN (l.drop (blN l))).1 :: ks) ((l.drop (blN l)).drop (atN ks (l.drop (blN l))).1)).1 + (atN ks (l.drop (blN l))).1 + blN l,
        (tgN ((l.drop (blN l)).take (nmN (l.drop (blN l))).1 :: ks) ((l.drop (blN l)).drop (atN ks (l.drop (blN l))).1)).2)
    else ((atN ks (l.drop (blN l))).1 + blN l, false, true) := by
  rw [tgN]
  split
  · rename_i r e
    rw [e] at h1
    cases h1
  · rename_i r e
    rw [e] at h1
    cases h1
  · rw [if_neg h2]
    by_cases h : (atN ks (l.drop (blN l))).2 = true
    · rw [dif_pos h, if_pos h]
    · rw [dif_neg h, if_neg h]
theorem oneN_end (l : List Nat) : oneN [[47, 62], [62]] l = ((endN l).1, (endN l).2.1) := by
  cases l with
  | nil => rfl
  | cons c r =>
    by_cases h1 : c = 62
    · subst h1
      rfl
    · by_cases h2 : c = 47
      · subst h2
        cases r with
        | nil => rfl
        | cons d r =>
          by_cases h3 : d = 62
          · subst h3
            rfl
          · have e1 : endN (47 :: d :: r) = (1, false, true) := by
              show (if (d :: r).head? = some 62 then (2, true, true) else (1, false, true) : Nat × Bool × Bool) = _
              rw [if_neg (by simpa using h3)]
            rw [e1]
            unfold oneN
            have s1 : stepW [[47, 62], [62]] 47 = [[62]] := rfl
            rw [s1]
            rw [if_neg (by simp), if_neg (by simp)]
            unfold oneN
            have s2 : stepW [[62]] d = [] := by simp [stepW, Ne.symm h3]
            rw [s2]
            rfl
      · have e1 : endN (c :: r) = (0, false, true) := by
          unfold endN
          split
          · rename_i e
            exact absurd (List.cons.inj e).1 h1
          · rename_i e
            exact absurd (List.cons.inj e).1 h2
          · rfl
        rw [e1]
        unfold oneN
        have s2 : stepW [[47, 62], [62]] c = [] := by simp [stepW, Ne.symm h1, Ne.symm h2]
        rw [if_pos s2]
theorem end_shut {l : List Nat} (h : (endN l).2.1 = true) : decide (V.str (mkS (l.take (endN l).1)) = V.str (Str.ofString "/>")) = (endN l).2.2 := by
  rw [dec_str, lit (s := "/>") (l := [47, 62]), tl_mkS, tl_mkS]
  cases l with
  | nil => cases h
  | cons c r =>
    by_cases h1 : c = 62
    · subst h1
      rfl
    · by_cases h2 : c = 47
      · subst h2
        cases r with
        | nil => cases h
        | cons d r =>
          by_cases h3 : d = 62
          · subst h3
            rfl
          · have e1 : endN (47 :: d :: r) = (1, false, true) := by
              show (if (d :: r).head? = some 62 then (2, true, true) else (1, false, true) : Nat × Bool × Bool) = _
              rw [if_neg (by simpa using h3)]
            rw [e1] at h
            cases h
      · have e1 : endN (c :: r) = (0, false, true) := by
          unfold endN
          split
          · rename_i e
            exact absurd (List.cons.inj e).1 h1
          · rename_i e
            exact absurd (List.cons.inj e).1 h2
          · rfl
        rw [e1] at h
        cases h
theorem in_tags (l : List Nat) : inV (.str (sg l)) [.str (Str.ofString "/"), .str (Str.ofString ">")] = stopB l := by
  show (eqV _ _ || (eqV _ _ || false)) = _
  rw [eqV_str, eqV_str, lit (s := "/") (l := [47]), lit (s := ">") (l := [62]), tl_mkS, tl_mkS, tl_mkS]
  cases l with
  | nil => rfl
  | cons c r =>
    show (decide ([47] = [c]) || (decide ([62] = [c]) || false)) = (c == 47 || c == 62)
    rw [Bool.or_false]
    by_cases h1 : c = 47
    · subst h1; rfl
    · by_cases h2 : c = 62
      · subst h2; rfl
      · simp [h1, h2, Ne.symm h1, Ne.symm h2]
section
variable {P : Program} {w : World} {K : PySem.W.Frag} {mg : Str → Option Value} {base : Heap}
def spTag (K : PySem.W.Frag) : Sp := fun vs H Q E => ∃ (H0 : Hp) (r dxr p dxp : Addr) (z : Str) (i : Nat) (has : Bool) (st : List (List Nat)) (b : Nat) (l : List Nat), vs = [.ref r] ∧ RS K H0 H r dxr p dxp z i has st b ∧ b ≤ 1000000 ∧ (tl z).drop i = l ∧
  ((teN l).2.1 = true → ∀ H', RS K H0 H' r dxr p dxp z (i + (teN l).1) has (if (teN l).2.2 = true then st else l.take (nmN l).1 :: st) (b + (teN l).1 + 1) → Q .non H') ∧
  ((teN l).2.1 = false → ∀ H' d, FlR H0 H' d (i + (teN l).1) → E (.ref (CN K)) (some d) H')
theorem ok_read_tag (T : Tx w K mg) : Ok P w K mg base (L2.CX P w) 9 (He.fAd K d_Reader_read_tag.at_) p_Reader_read_tag (spTag K) := by
  obtain ⟨fd, F⟩ := f_Reader_read_tag T
  obtain ⟨fP, GP, bP, kP⟩ := ok_peek (P := P) (base := base) T
  obtain ⟨fO, GO, bO, kO⟩ := ok_read_one_of (P := P) (base := base) T
  obtain ⟨fB, GB, bB, kB⟩ := ok_read_blanks (P := P) (base := base) T
  obtain ⟨fN, GN, bN, kN⟩ := ok_read_name (P := P) (base := base) T
  obtain ⟨fR, GR, bR, kR⟩ := ok_read_attribute (P := P) (base := base) T
  obtain ⟨fI, GI, bI, kI⟩ := ok_Node_init (P := P) (base := base) T
  obtain ⟨fT, GT, bT, kT⟩ := ok_put (P := P) (base := base) T
  refine ⟨fd, ?_, b_Reader_read_tag F, F.kp⟩
  refine F.ok sc_Reader_read_tag (fun vs H Q E h => ?_) (fun cdv A outer s H vs Q E hr h => ?_)
  · obtain ⟨H0, r, dxr, p, dxp, z, i, has, st, b, l, rfl, _⟩ := h
    rfl
  · obtain ⟨H0, r, dxr, p, dxp, z, i, has, st, b, l, rfl, ⟨HC, L, ys, f, fr, q, hw, hst, hnl⟩, hb, hl, kok, kno⟩ := h
    have nd := sc_Reader_read_tag.nd
    refine ⟨_, pss_cons (ps_set (i := 1) nd rfl (.inl rfl) (pe_fld (pv 0) rfl))
      (pss_cons (ps_set (i := 2) nd rfl (.inl rfl) (pe_make (E := E0) (mk_Node T) GI (hr.mono (by decide)) rfl (g_Node T) bI .nil pass0 (pa_cons pe_str (pa_cons (pe_meth0 (E := E) (pv 1) (cls_Scanner T) (m_Scanner_read_name T) GN (hr.mono (by decide)) bN .nil (passes_call (takes_of rfl rfl rfl rfl) (fun _ _ _ _ h => h))) (pa_cons pe_str pa_nil)))))
      (pss_cons (ps_set (i := 3) nd rfl (.inl rfl) pe_dnewK)
      (pss_cons (ps_while (passes_of rfl) (pw_and (pt_val (pe_meth0 (E := E0) (pv 1) (cls_Scanner T) (m_Scanner_read_blanks T) GB (hr.mono (by decide)) bB .nil pass0)) (pw_and1 (pt_cmpR op_notIn_seq (pe_meth0 (E := E0) (pv 1) (cls_Scanner T) (m_Scanner_peek T) GP (hr.mono (by decide)) bP .nil pass0) (pe_tup (pa_cons pe_str (pa_cons pe_str pa_nil))) (by rfl)))).pt
        (pss_one (ps_expr (pe_meth (E := E) (pv 0) (cls_Reader T) (m_Reader_read_attribute T) GR (hr.mono (by decide)) bR .nil (passes_call (takes_of rfl rfl rfl rfl) (fun _ _ _ _ h => h)) (pa_cons (pv 2) (pa_cons (pv 3) pa_nil))))))
      (pss_cons (ps_set (i := 4) nd rfl (.inl rfl) (pe_cmpR op_eq (pe_meth (E := E) (pv 1) (cls_Scanner T) (m_Scanner_read_one_of T) GO (hr.mono (by decide)) bO .nil (passes_call (takes_of rfl rfl rfl rfl) (fun _ _ _ _ h => h)) (pa_cons (pe_tup (pa_cons pe_str (pa_cons pe_str pa_nil))) pa_nil)) pe_str (nomark _)))
      (pss_cons (ps_expr (pe_meth (E := E0) (pv 0) (cls_Reader T) (m_Reader_put T) GT (hr.mono (by decide)) bT .nil pass0 (pa_cons (pv 2) pa_nil)))
      (pss_one (ps_if (pt_not (pt_val (pv 4))) (pss_one (ps_fld (pv 0) (pv 2) rfl)) pss_nil))))))), ?_⟩
    have hlen : z.length = (tl z).length := len_tl z
    have hl0 : l.length = z.length - i := by
      rw [← hl, List.length_drop]
      omega
    have hlen4 := q.gd.len
    refine ⟨_, rfl, r, CRd K, dxr, _, _, rfl, q.rd, cls_Reader T, na_Reader_scan T, rd_scan, ?_⟩
    refine ⟨_, rfl, p, dxp, _, rfl, q.sc, sc_no (by decide +kernel) (by decide +kernel), z, i, p, dxp, rfl, q.sc, q.gd, q.hi, fun e1 H1 y1 hy1 m1 => ?_, fun e1 H1 d fl => ?_⟩
    · have q1 := q.move m1 (Nat.le_add_right _ _) (pos_le q.hi (nmN_le _))
      rw [hl] at e1 q1 hy1
      have hy3 : y1 = .str (mkS (l.take (nmN l).1)) := hy1
      subst hy3
      have hnp := nm_pos e1
      have hnle := nmN_le l
      have ete : teN l = ((tgN [] (l.drop (nmN l).1)).1 + (nmN l).1, (tgN [] (l.drop (nmN l).1)).2) := by
        unfold teN
        rw [if_neg (by rw [e1]; simp)]
      have ed : (tl z).drop (i + (nmN l).1) = l.drop (nmN l).1 := by rw [drop_add, hl]
      intro x dx hx hdx hne
      refine ⟨x, dx, .str (Str.ofString "element"), .str (mkS (l.take (nmN l).1)), .str (Str.ofString ""), rfl, upd_same, fun H3 A1 C1 hA hC nAC nA nC s3 f1 f2 f3 => ⟨rfl, ?_⟩⟩
      have q3 := q1.hand (nmL := l.take (nmN l).1) hx hdx hne hA hC nAC nA nC s3 f1 f2 f3
      intro kd hkd
      have k4 : KD HC (upd H3 kd (.dK [])) kd [] := ⟨q3.s1.free hkd, [], upd_same, Nat.le_refl _, fun s => rfl⟩
      have q4 := q3.same (same_new hkd (o := .dK []))
      generalize upd H3 kd (.dK []) = H4 at q4 k4 ⊢
      refine while_x (fun mm σ H5 => ∃ (j : Nat) (ks : List (List Nat)) (as : List V) (HC' : Hp), mm = z.length - j ∧ σ = [some (V.ref r), some (.ref p), some (.ref x), some (.ref kd), none] ∧
          RQ K H0 HC' H5 r dxr p dxp z j L ys has f.a [⟨x, A1, C1, dx, l.take (nmN l).1, .str (Str.ofString "element"), .str (mkS (l.take (nmN l).1)), .str (Str.ofString ""), .non, .non, .int 0, as, []⟩] (f :: fr) [] ∧ KD HC' H5 kd ks ∧ i + (nmN l).1 + ks.length ≤ j ∧ i + (nmN l).1 + as.length ≤ j ∧
          tgN [] (l.drop (nmN l).1) = ((tgN ks ((tl z).drop j)).1 + (j - (i + (nmN l).1)), (tgN ks ((tl z).drop j)).2))
        (fun σ H5 => ∃ (j : Nat) (as : List V) (HC' : Hp), σ = [some (V.ref r), some (.ref p), some (.ref x), some (.ref kd), none] ∧
          RQ K H0 HC' H5 r dxr p dxp z j L ys has f.a [⟨x, A1, C1, dx, l.take (nmN l).1, .str (Str.ofString "element"), .str (mkS (l.take (nmN l).1)), .str (Str.ofString ""), .non, .non, .int 0, as, []⟩] (f :: fr) [] ∧ i + (nmN l).1 + as.length ≤ j ∧
          tgN [] (l.drop (nmN l).1) = ((endN ((tl z).drop j)).1 + (j - (i + (nmN l).1)), (endN ((tl z).drop j)).2))
        ⟨_, i + (nmN l).1, [], [], HC, rfl, rfl, q4, k4, Nat.le_refl _, Nat.le_refl _, by rw [ed, Nat.sub_self, Nat.add_zero]⟩ ?_ ?_
      · rintro σ H5 ⟨j, as, HC', rfl, q5, has5, e5⟩
        have q5i := q5.hi
        refine ⟨_, rfl, p, dxp, _, rfl, q5.sc, sc_no (by decide +kernel) (by decide +kernel), (by decide), fun t ht => ⟨z, j, t, [Str.ofString "/>", Str.ofString ">"], .inr upd_same, by decide, p, dxp, rfl, (q5.same (same_new ht)).sc, q5.gd, q5.hi, fun e6 H6 y6 hy6 m6 => ?_, fun e6 H6 d fl => ?_⟩⟩
        · have eqs : ([Str.ofString "/>", Str.ofString ">"].map tl) = [[47, 62], [62]] := rfl
          have q6 := (q5.same (same_new ht (o := .tup [.str (Str.ofString "/>"), .str (Str.ofString ">")]))).move m6 (Nat.le_add_right _ _) (pos_le q5.hi (oneN_le _ _))
          rw [eqs, oneN_end] at e6 q6 hy6
          have hy7 : y6 = .str (mkS (((tl z).drop j).take (endN ((tl z).drop j)).1)) := hy6
          subst hy7
          refine ⟨rfl, ?_⟩
          have e6' : (endN ((tl z).drop j)).2.1 = true := e6
          have esh := end_shut e6'
          have q6' : RQ K H0 HC' H6 r dxr p dxp z (j + (endN ((tl z).drop j)).1) L ys has f.a [⟨x, A1, C1, dx, l.take (nmN l).1, .str (Str.ofString "element"), .str (mkS (l.take (nmN l).1)), .str (Str.ofString ""), .non, .non, .int 0, as, []⟩] (f :: fr) [] := q6
          have q6i := q6'.hi
          rw [ete, e5] at kok
          have e9 : i + ((endN ((tl z).drop j)).1 + (j - (i + (nmN l).1)) + (nmN l).1) = j + (endN ((tl z).drop j)).1 := by omega
          refine ⟨_, rfl, r, dxr, _, rfl, q6'.rd, rd_no (by decide +kernel), _, rfl, H0, HC', r, dxr, p, dxp, z, _, L, ys, has, ⟨x, A1, C1, dx, l.take (nmN l).1, .str (Str.ofString "element"), .str (mkS (l.take (nmN l).1)), .str (Str.ofString ""), .non, .non, .int 0, as, []⟩, f, fr, rfl, q6', ?_, fun H7 HC7 L7 u pt' q7 hu => ?_⟩
          · rw [wsum_cons]
            show (1 + as.length + 0) + _ ≤ _
            omega
          · rw [wsum_cons] at hw
            refine ⟨_, rfl, _, rfl, ?_⟩
            show if (!decide (V.str (mkS (((tl z).drop j).take (endN ((tl z).drop j)).1)) = V.str (Str.ofString "/>"))) = true then _ else _
            rw [esh]
            cases hc : (endN ((tl z).drop j)).2.2 with
            | true =>
              refine iteF ?_
              refine kok e6' _ ?_
              rw [if_pos hc]
              show RS K H0 H7 r dxr p dxp z (i + ((endN ((tl z).drop j)).1 + (j - (i + (nmN l).1)) + (nmN l).1)) has st _
              rw [e9]
              refine ⟨_, L7, [], { f with ps := (f.ps ++ u) ++ [(x, 1 + as.length + 0)] }, fr, q7.close, ?_, ?_, hnl⟩
              · have h1 := w_ps (f := { f with ps := f.ps ++ u }) (x := [(x, 1 + as.length + 0)])
                have h2 := w_ps (f := f) (x := u)
                have h3 : Fr.w { f with ps := (f.ps ++ u) ++ [(x, 1 + as.length + 0)] } = f.w + (u.map (·.2)).sum + (1 + as.length + 0) := h1.trans (congrArg (· + (1 + as.length + 0)) h2)
                rw [wsum_cons, h3]
                show _ ≤ b + ((endN ((tl z).drop j)).1 + (j - (i + (nmN l).1)) + (nmN l).1) + 1
                omega
              · cases fr <;> exact hst
            | false =>
              refine iteT ?_
              refine ⟨_, rfl, _, rfl, r, CRd K, dxr, _, rfl, q7.rd, cls_Reader T, na_Reader_here T, (by show 5 < 1000; decide), ?_⟩
              rw [rdp_here]
              refine kok e6' _ ?_
              rw [if_neg (by rw [hc]; simp)]
              show RS K H0 _ r dxr p dxp z (i + ((endN ((tl z).drop j)).1 + (j - (i + (nmN l).1)) + (nmN l).1)) has (l.take (nmN l).1 :: st) _
              rw [e9]
              refine ⟨_, L7, [], ⟨x, A1, C1, dx, l.take (nmN l).1, .str (Str.ofString "element"), .str (mkS (l.take (nmN l).1)), .str (Str.ofString ""), .ref f.a, pt', .int 0, as, []⟩, { f with ps := f.ps ++ u } :: fr, (q7.field has x).opened rfl rfl rfl, ?_, ?_, ?_⟩
              · rw [wsum_cons, wsum_cons, w_ps]
                show (1 + as.length + 0) + (f.w + (u.map (·.2)).sum + wsum fr) ≤ b + ((endN ((tl z).drop j)).1 + (j - (i + (nmN l).1)) + (nmN l).1) + 1
                omega
              · show l.take (nmN l).1 :: nms ({ f with ps := f.ps ++ u } :: fr) = _
                rw [nms_ps, hst]
              · intro y hy
                rcases List.mem_cons.mp hy with rfl | hy
                · rw [List.length_take]
                  omega
                · exact hnl y hy
        · have eqs : ([Str.ofString "/>", Str.ofString ">"].map tl) = [[47, 62], [62]] := rfl
          rw [eqs, oneN_end] at e6 fl
          rw [ete, e5] at kno
          have q6 := (q5.same (same_new ht (o := .tup [.str (Str.ofString "/>"), .str (Str.ofString ">")])))
          exact kno e6 _ d ((q6.fail fl).eq (by show j + (endN ((tl z).drop j)).1 = i + ((endN ((tl z).drop j)).1 + (j - (i + (nmN l).1)) + (nmN l).1); omega))
      · rintro - mm σ H5 R ⟨j, ks, as, HC', rfl, rfl, q5, k5, hks, has5, e5⟩ hfin hbody
        refine ⟨_, rfl, p, dxp, _, rfl, q5.sc, sc_no (by decide +kernel) (by decide +kernel), z, j, p, dxp, rfl, q5.sc, q5.gd, q5.hi, fun _ H6 y6 hy6 m6 => ?_, fun e6 => by cases e6⟩
        have hle6 := blN_le ((tl z).drop j)
        have hj6 := pos_le q5.hi hle6
        have q6 := q5.move m6 (Nat.le_add_right _ _) hj6
        have k6 := k5.move q5.sc m6
        have hy7 : y6 = .bl (decide (0 < blN ((tl z).drop j))) := hy6
        subst hy7
        have ed6 : (tl z).drop (j + blN ((tl z).drop j)) = ((tl z).drop j).drop (blN ((tl z).drop j)) := drop_add
        refine ⟨_, rfl, ?_⟩
        refine ite2 (fun hp => ?_) (fun hp => ?_)
        · have hp' : blN ((tl z).drop j) ≠ 0 := by
            have := of_decide_eq_true hp
            omega
          refine ⟨_, rfl, p, dxp, _, rfl, q6.sc, sc_no (by decide +kernel) (by decide +kernel), p, dxp, z, _, rfl, q6.sc, q6.gd, (by decide), fun t ht => ⟨t, _, rfl, .inr (SqT.of upd_same), rfl, rfl, ?_⟩⟩
          have q7 := q6.same (same_new ht (o := .tup [.str (Str.ofString "/"), .str (Str.ofString ">")]))
          have k7 := k6.same (same_new ht (o := .tup [.str (Str.ofString "/"), .str (Str.ofString ">")]))
          rw [if_pos rfl]
          refine ⟨_, rfl, ?_⟩
          show R (!inV (.str (sg ((tl z).drop (j + blN ((tl z).drop j))))) [.str (Str.ofString "/"), .str (Str.ofString ">")]) _
          rw [in_tags, ed6]
          generalize upd H6 t (.tup [.str (Str.ofString "/"), .str (Str.ofString ">")]) = H7 at q7 k7 ⊢
          cases es : stopB (((tl z).drop j).drop (blN ((tl z).drop j))) with
          | true =>
            refine hfin _ ⟨_, as, HC', rfl, q7, by omega, ?_⟩
            rw [e5, tg_end (.inl es), ed6]
            dsimp only
            rw [show (endN (((tl z).drop j).drop (blN ((tl z).drop j)))).1 + blN ((tl z).drop j) + (j - (i + (nmN l).1)) = (endN (((tl z).drop j).drop (blN ((tl z).drop j)))).1 + (j + blN ((tl z).drop j) - (i + (nmN l).1)) by omega]
          | false =>
            refine hbody _ ?_
            have eg := tg_go (ks := ks) es hp'
            refine ⟨_, rfl, r, dxr, _, rfl, q7.rd, rd_no (by decide +kernel), _, rfl, _, rfl, H0, HC', r, dxr, p, dxp, z, _, L, ys, has, ⟨x, A1, C1, dx, l.take (nmN l).1, .str (Str.ofString "element"), .str (mkS (l.take (nmN l).1)), .str (Str.ofString ""), .non, .non, .int 0, as, []⟩, f, fr, kd, ks, _, rfl, q7, k7, by omega, (by show as.length ≤ _; omega), ed6, fun e8 H8 HC8 v q8 k8 => ?_, fun e8 H8 d fl => ?_⟩
            · have hp8 := at_pos e8
              rw [if_pos e8] at eg
              have ed8 : (tl z).drop (j + blN ((tl z).drop j) + (atN ks (((tl z).drop j).drop (blN ((tl z).drop j)))).1) = (((tl z).drop j).drop (blN ((tl z).drop j))).drop (atN ks (((tl z).drop j).drop (blN ((tl z).drop j)))).1 := by rw [drop_add, ed6]
              refine ⟨z.length - (j + blN ((tl z).drop j) + (atN ks (((tl z).drop j).drop (blN ((tl z).drop j)))).1), ?_, _, _, _, HC8, rfl, rfl, q8, k8, ?_, ?_, ?_⟩
              · have := q8.hi
                omega
              · rw [List.length_cons]
                omega
              · rw [List.length_append]
                show i + (nmN l).1 + (as.length + 1) ≤ _
                omega
              · rw [e5, eg, ed8]
                dsimp only
                rw [show ∀ a b c d e : Nat, d ≤ e → a + b + c + (e - d) = a + (e + c + b - d) by intros; omega]
                omega
            · rw [if_neg (by rw [e8]; simp)] at eg
              rw [ete, e5, eg] at kno
              refine kno rfl _ d (fl.eq ?_)
              show j + blN ((tl z).drop j) + (atN ks (((tl z).drop j).drop (blN ((tl z).drop j)))).1 = i + ((atN ks (((tl z).drop j).drop (blN ((tl z).drop j)))).1 + blN ((tl z).drop j) + (j - (i + (nmN l).1)) + (nmN l).1)
              omega
        · have hp' : blN ((tl z).drop j) = 0 := by
            have := of_decide_eq_false (Bool.eq_false_iff.mpr hp)
            omega
          rw [hp'] at q6
          refine hfin _ ⟨j, as, HC', rfl, q6, by omega, ?_⟩
          rw [e5, tg_end (.inr hp'), hp']
          rfl
    · rw [hl] at e1 fl
      have ein : teN l = ((nmN l).1, false, true) := by
        unfold teN
        rw [if_pos e1]
      rw [ein] at kno
      exact kno rfl _ d (q.fail fl)
end
end K2
/-! K02Rm7 -/
namespace K2
open PySem PySem.Spec PyProof.Rows L2 TL
/-- a comment or a CDATA part, behind <! -/
def ccN : List Nat → Nat × Bool
  | 91 :: r => cdN (91 :: r)
  | l => cmN l
theorem ccN_cd (r : List Nat) : ccN (91 :: r) = cdN (91 :: r) := rfl
theorem ccN_cm {l : List Nat} (h : ∀ r, l ≠ 91 :: r) : ccN l = cmN l := by
  unfold ccN
  split
  · rename_i r
    exact absurd rfl (h r)
  · rfl
theorem take2 (l : List Nat) : decide ((33 :: l).take 2 = [33, 91]) = hB (· == 91) l := by
  cases l with
  | nil => rfl
  | cons c r =>
    show decide ([33, c] = [33, 91]) = (c == 91)
    by_cases h : c = 91
    · subst h; rfl
    · simp [h]
section
variable {P : Program} {w : World} {K : PySem.W.Frag} {mg : Str → Option Value} {base : Heap}
def spCC (K : PySem.W.Frag) : Sp := fun vs H Q E => ∃ (H0 : Hp) (r dxr p dxp : Addr) (z : Str) (i : Nat) (has : Bool) (st : List (List Nat)) (b : Nat) (l : List Nat), vs = [.ref r] ∧ RS K H0 H r dxr p dxp z i has st b ∧ b ≤ 1000000 ∧ (tl z).drop i = 33 :: l ∧
  ((ccN l).2 = true → ∀ H', RS K H0 H' r dxr p dxp z (i + ((ccN l).1 + 1)) has st (b + 2) → Q .non H') ∧ ((ccN l).2 = false → ∀ H' d, FlR H0 H' d (i + ((ccN l).1 + 1)) → E (.ref (CN K)) (some d) H')
theorem ok_read_comment_or_cdata (T : Tx w K mg) : Ok P w K mg base (L2.CX P w) 6 (He.fAd K d_Reader_read_comment_or_cdata.at_) p_Reader_read_comment_or_cdata (spCC K) := by
  obtain ⟨fd, F⟩ := f_Reader_read_comment_or_cdata T
  obtain ⟨fX, GX, bX, kX⟩ := ok_expect (P := P) (base := base) T
  obtain ⟨fU, GU, bU, kU⟩ := ok_read_up_to (P := P) (base := base) T
  obtain ⟨fM, GM, bM, kM⟩ := ok_read_comment (P := P) (base := base) T
  refine ⟨fd, ?_, b_Reader_read_comment_or_cdata F, F.kp⟩
  refine F.ok sc_Reader_read_comment_or_cdata (fun vs H Q E h => ?_) (fun cdv A outer s H vs Q E hr h => ?_)
  · obtain ⟨H0, r, dxr, p, dxp, z, i, has, st, b, l, rfl, _⟩ := h
    rfl
  · obtain ⟨H0, r, dxr, p, dxp, z, i, has, st, b, l, rfl, hRS, hb, hl, kok, kno⟩ := h
    refine ⟨_, pss_one (ps_if (pt_val (pe_bm PySem.F.plainAttrs_str PySem.F.slot_str_startswith PySem.F.type_str_startswith mt_startswith3 (pe_fld (pe_fld (pv 0) rfl) rfl) (pa_cons pe_str (pa_cons (pe_fld (pe_fld (pv 0) rfl) rfl) pa_nil))))
      (pss_cons (ps_expr (pe_meth (E := E) (pe_fld (pv 0) rfl) (cls_Scanner T) (m_Scanner_expect T) GX (hr.mono (by decide)) bX .nil (passes_call (takes_of rfl rfl rfl rfl) (fun _ _ _ _ h => h)) (pa_cons pe_str pa_nil)))
      (pss_one (ps_expr (pe_bm PySem.F.plainAttrs_list PySem.F.slot_list_append PySem.F.type_list_append mt_append (pe_fld (pv 0) rfl) (pa_cons (pe_meth (E := E) (pe_fld (pv 0) rfl) (cls_Scanner T) (m_Scanner_read_up_to T) GU (hr.mono (by decide)) bU .nil (passes_call (takes_of rfl rfl rfl rfl) (fun _ _ _ _ h => h)) (pa_cons pe_str pa_nil)) pa_nil)))))
      (pss_one (ps_expr (pe_meth0 (E := E) (pv 0) (cls_Reader T) (m_Reader_read_comment T) GM (hr.mono (by decide)) bM .nil (passes_call (takes_of rfl rfl rfl rfl) (fun _ _ _ _ h => h)))))), ?_⟩
    have hRS' := hRS
    obtain ⟨HC, L, ys, f, fr, q, hw, hst, hnl⟩ := hRS
    have hdc := drop_cons hl
    have hlen : z.length = (tl z).length := len_tl z
    refine ⟨_, rfl, r, CRd K, dxr, _, _, rfl, q.rd, cls_Reader T, na_Reader_scan T, rd_scan, p, CSc K, dxp, _, _, rfl, q.sc, cls_Scanner T, na_Scanner_text T, sc_text, rfl, _, rfl, r, CRd K, dxr, _, _, rfl, q.rd, cls_Reader T, na_Reader_scan T, rd_scan, p, CSc K, dxp, _, _, rfl, q.sc, cls_Scanner T, na_Scanner_at T, sc_at, z, Str.ofString "![", (i : Int), rfl, rfl, ?_⟩
    rw [starts3 _ _ _ q.hi, lit (s := "![") (l := [33, 91]), tl_mkS, hl]
    refine ⟨_, rfl, ?_⟩
    show if decide ((33 :: l).take 2 = [33, 91]) = true then _ else _
    rw [take2]
    cases e0 : hB (· == 91) l with
    | true =>
      refine iteT ?_
      obtain ⟨l2, rfl⟩ := hB_true e0
      rw [ccN_cd] at kok kno
      have ex : exN (tl (Str.ofString "![CDATA[")) ((tl z).drop i) = ((exN [91, 67, 68, 65, 84, 65, 91] (91 :: l2)).1 + 1, (exN [91, 67, 68, 65, 84, 65, 91] (91 :: l2)).2) := by
        rw [lit (s := "![CDATA[") (l := [33, 91, 67, 68, 65, 84, 65, 91]), tl_mkS, hl]
        show exN (33 :: [91, 67, 68, 65, 84, 65, 91]) (33 :: 91 :: l2) = _
        rw [exN_cons, if_pos rfl]
      have hll : (91 :: l2).length = z.length - (i + 1) := by
        rw [← hdc.2, List.length_drop]
        omega
      generalize hg : 91 :: l2 = l at *
      refine ⟨_, rfl, r, CRd K, dxr, _, _, rfl, q.rd, cls_Reader T, na_Reader_scan T, rd_scan, p, dxp, _, rfl, q.sc, sc_no (by decide +kernel) (by decide +kernel), z, Str.ofString "![CDATA[", i, p, dxp, rfl, q.sc, q.gd, q.hi, fun e1 H1 y hy m => ?_, fun e1 H1 d fl => ?_⟩
      · rw [ex] at e1 m
        have e1' : (exN [91, 67, 68, 65, 84, 65, 91] l).2 = true := e1
        have en : (exN [91, 67, 68, 65, 84, 65, 91] l).1 = 7 := exN_ok _ l e1'
        have hle := exN_le [91, 67, 68, 65, 84, 65, 91] l
        rw [en] at hle m
        have q1 := q.move m (Nat.le_add_right _ _) (by show i + (7 + 1) ≤ z.length; omega)
        have ed : (tl z).drop (i + (7 + 1)) = l.drop 7 := by
          rw [show i + (7 + 1) = (i + 1) + 7 by omega, drop_add, hdc.2]
        have ecd : cdN l = ((upN [93, 93, 62] (l.drop 7)).1 + 7, (upN [93, 93, 62] (l.drop 7)).2) := by
          unfold cdN
          rw [if_neg (by rw [e1']; simp)]
        refine ⟨_, rfl, r, CRd K, dxr, _, _, rfl, q1.rd, cls_Reader T, na_Reader_pieces T, rd_pieces, .inl ⟨rfl, _, SqL.of q1.pc⟩, _, rfl, r, CRd K, dxr, _, _, rfl, q1.rd, cls_Reader T, na_Reader_scan T, rd_scan, p, dxp, _, rfl, q1.sc, sc_no (by decide +kernel) (by decide +kernel), z, Str.ofString "]]>", i + (7 + 1), by decide, by decide, p, dxp, rfl, q1.sc, q1.gd, q1.hi, fun e2 H2 y2 hy2 m2 => ?_, fun e2 H2 d fl => ?_⟩
        · have q2 := q1.move m2 (Nat.le_add_right _ _) (pos_le q1.hi (upN_le _ _))
          rw [lit (s := "]]>") (l := [93, 93, 62]), tl_mkS, ed] at e2 q2 hy2
          obtain ⟨y, rfl, hy⟩ := hy2
          rw [ecd] at kok
          have hpn := q1.pn
          have hpn0 := q.pn
          have hlen4 := q.gd.len
          refine ⟨L, ys.map V.str, .str y, rfl, rfl, q2.pc, by rw [List.length_map, sizeLine_eq]; have := q.hi; omega, ?_⟩
          refine kok e2 _ ?_
          have e9 : i + (7 + 1) + (upN [93, 93, 62] (l.drop 7)).1 = i + ((upN [93, 93, 62] (l.drop 7)).1 + 7 + 1) := by omega
          have q3 := q2.piece (y := y) (by omega) (by omega)
          rw [e9] at q3
          exact ⟨HC, L, ys ++ [y], f, fr, q3, by omega, hst, hnl⟩
        · rw [lit (s := "]]>") (l := [93, 93, 62]), tl_mkS, ed] at e2 fl
          rw [ecd] at kno
          exact kno e2 _ d ((q1.fail fl).eq (by show i + (7 + 1) + (upN [93, 93, 62] (l.drop 7)).1 = i + ((upN [93, 93, 62] (l.drop 7)).1 + 7 + 1); omega))
      · rw [ex] at e1 fl
        have ecd : cdN l = ((exN [91, 67, 68, 65, 84, 65, 91] l).1, false) := by
          unfold cdN
          rw [if_pos e1]
        rw [ecd] at kno
        exact kno rfl _ d (q.fail fl)
    | false =>
      refine iteF ?_
      rw [ccN_cm (hB_false (c := 91) (by rw [e0]; exact Bool.false_ne_true))] at kok kno
      exact ⟨_, rfl, r, dxr, _, rfl, q.rd, rd_no (by decide +kernel), H0, r, dxr, p, dxp, z, i, has, st, b, l, rfl, hRS', hb, hl, kok, kno⟩
end
end K2
/-! K02Rm8 -/
namespace K2
open PySem PySem.Spec PyProof.Rows L2 TL
theorem RS.mono {K : PySem.W.Frag} {H0 H : Hp} {r dxr p dxp : Addr} {z : Str} {i j : Nat} {has : Bool} {st : List (List Nat)} {b c : Nat} (h : RS K H0 H r dxr p dxp z i has st b) (hij : i = j) (hbc : b ≤ c) : RS K H0 H r dxr p dxp z j has st c := by
  subst hij
  obtain ⟨HC, L, ys, f, fr, q, hw, hst, hnl⟩ := h
  exact ⟨HC, L, ys, f, fr, q, by omega, hst, hnl⟩
/-- what goes on behind a < in a content -/
def mkN (nm : List Nat) (st : List (List Nat)) : List Nat → Nat × Option (List (List Nat))
  | 47 :: r => ((clN nm r).1 + 1, if (clN nm r).2 = true then some st else none)
  | 33 :: r => ((ccN r).1 + 1, if (ccN r).2 = true then some (nm :: st) else none)
  | 63 :: r => ((inN r).1 + 1, if (inN r).2 = true then some (nm :: st) else none)
  | l => ((teN l).1, if (teN l).2.1 = true then some (if (teN l).2.2 = true then nm :: st else l.take (nmN l).1 :: nm :: st) else none)
theorem mkN_te {nm : List Nat} {st : List (List Nat)} {l : List Nat} (h1 : ∀ r, l ≠ 47 :: r) (h2 : ∀ r, l ≠ 33 :: r) (h3 : ∀ r, l ≠ 63 :: r) :
    mkN nm st l = ((teN l).1, if (teN l).2.1 = true then some (if (teN l).2.2 = true then nm :: st else l.take (nmN l).1 :: nm :: st) else none) := by
  unfold mkN
  split
  · exact absurd rfl (h1 _)
  · exact absurd rfl (h2 _)
  · exact absurd rfl (h3 _)
  · rfl
section
variable {P : Program} {w : World} {K : PySem.W.Frag} {mg : Str → Option Value} {base : Heap}
def spMk (K : PySem.W.Frag) : Sp := fun vs H Q E => ∃ (H0 : Hp) (r dxr p dxp : Addr) (z : Str) (i : Nat) (has : Bool) (nm : List Nat) (st : List (List Nat)) (b : Nat) (l : List Nat), vs = [.ref r] ∧ RS K H0 H r dxr p dxp z i has (nm :: st) b ∧ b ≤ 1000000 ∧ (tl z).drop i = l ∧
  (∀ s, (mkN nm st l).2 = some s → ∀ H', RS K H0 H' r dxr p dxp z (i + (mkN nm st l).1) has s (b + (mkN nm st l).1 + 1) → Q .non H') ∧ ((mkN nm st l).2 = none → ∀ H' d, FlR H0 H' d (i + (mkN nm st l).1) → E (.ref (CN K)) (some d) H')
theorem ok_read_markup (T : Tx w K mg) : Ok P w K mg base (L2.CX P w) 10 (He.fAd K d_Reader_read_markup.at_) p_Reader_read_markup (spMk K) := by
  obtain ⟨fd, F⟩ := f_Reader_read_markup T
  obtain ⟨fP, GP, bP, kP⟩ := ok_peek (P := P) (base := base) T
  obtain ⟨fC, GC, bC, kC⟩ := ok_read_comment_or_cdata (P := P) (base := base) T
  obtain ⟨fI, GI, bI, kI⟩ := ok_read_instruction (P := P) (base := base) T
  obtain ⟨fN, GN, bN, kN⟩ := ok_read_end_tag (P := P) (base := base) T
  obtain ⟨fT, GT, bT, kT⟩ := ok_read_tag (P := P) (base := base) T
  refine ⟨fd, ?_, b_Reader_read_markup F, F.kp⟩
  refine F.ok sc_Reader_read_markup (fun vs H Q E h => ?_) (fun cdv A outer s H vs Q E hr h => ?_)
  · obtain ⟨H0, r, dxr, p, dxp, z, i, has, nm, st, b, l, rfl, _⟩ := h
    rfl
  · obtain ⟨H0, r, dxr, p, dxp, z, i, has, nm, st, b, l, rfl, hRS, hb, hl, kok, kno⟩ := h
    have nd := sc_Reader_read_markup.nd
    refine ⟨_, pss_cons (ps_set (i := 1) nd rfl (.inl rfl) (pe_meth0 (E := E0) (pe_fld (pv 0) rfl) (cls_Scanner T) (m_Scanner_peek T) GP (hr.mono (by decide)) bP .nil pass0))
      (pss_one (ps_if (pt_cmpR op_eq (pv 1) pe_str (nomark _)) (pss_one (ps_expr (pe_meth0 (E := E) (pv 0) (cls_Reader T) (m_Reader_read_comment_or_cdata T) GC (hr.mono (by decide)) bC .nil (passes_call (takes_of rfl rfl rfl rfl) (fun _ _ _ _ h => h)))))
        (pss_one (ps_if (pt_cmpR op_eq (pv 1) pe_str (nomark _)) (pss_one (ps_expr (pe_meth0 (E := E) (pv 0) (cls_Reader T) (m_Reader_read_instruction T) GI (hr.mono (by decide)) bI .nil (passes_call (takes_of rfl rfl rfl rfl) (fun _ _ _ _ h => h)))))
        (pss_one (ps_if (pt_cmpR op_eq (pv 1) pe_str (nomark _)) (pss_one (ps_expr (pe_meth0 (E := E) (pv 0) (cls_Reader T) (m_Reader_read_end_tag T) GN (hr.mono (by decide)) bN .nil (passes_call (takes_of rfl rfl rfl rfl) (fun _ _ _ _ h => h)))))
          (pss_one (ps_expr (pe_meth0 (E := E) (pv 0) (cls_Reader T) (m_Reader_read_tag T) GT (hr.mono (by decide)) bT .nil (passes_call (takes_of rfl rfl rfl rfl) (fun _ _ _ _ h => h))))))))))), ?_⟩
    have hRS' := hRS
    obtain ⟨HC, L, ys, f, fr, q, hw, hst, hnl⟩ := hRS
    refine ⟨_, rfl, r, CRd K, dxr, _, _, rfl, q.rd, cls_Reader T, na_Reader_scan T, rd_scan, p, dxp, _, rfl, q.sc, sc_no (by decide +kernel) (by decide +kernel), p, dxp, z, i, rfl, q.sc, q.gd, ?_⟩
    rw [hl]
    refine ⟨_, rfl, rfl, _, rfl, ?_⟩
    show if decide (V.str (sg l) = V.str (Str.ofString "!")) = true then _ else _
    rw [sg_lit _ (c := 33)]
    refine ite2 (fun h33 => ?_) (fun h33 => ?_)
    · obtain ⟨l2, rfl⟩ := hB_true h33
      have em : mkN nm st (33 :: l2) = ((ccN l2).1 + 1, if (ccN l2).2 = true then some (nm :: st) else none) := rfl
      rw [em] at kok kno
      refine ⟨_, rfl, r, dxr, _, rfl, q.rd, rd_no (by decide +kernel), H0, r, dxr, p, dxp, z, i, has, _, b, l2, rfl, hRS', hb, hl, fun e H' hR => ?_, fun e H' d fl => ?_⟩
      · exact kok _ (by rw [if_pos e]) H' (hR.mono rfl (by show b + 2 ≤ b + ((ccN l2).1 + 1) + 1; omega))
      · exact kno (by rw [if_neg (by rw [e]; simp)]) H' d fl
    refine ⟨_, rfl, rfl, _, rfl, ?_⟩
    show if decide (V.str (sg l) = V.str (Str.ofString "?")) = true then _ else _
    rw [sg_lit _ (c := 63)]
    refine ite2 (fun h63 => ?_) (fun h63 => ?_)
    · obtain ⟨l2, rfl⟩ := hB_true h63
      have em : mkN nm st (63 :: l2) = ((inN l2).1 + 1, if (inN l2).2 = true then some (nm :: st) else none) := rfl
      rw [em] at kok kno
      refine ⟨_, rfl, r, dxr, _, rfl, q.rd, rd_no (by decide +kernel), H0, r, dxr, p, dxp, z, i, has, _, b, l2, rfl, hRS', hb, hl, fun e H' hR => ?_, fun e H' d fl => ?_⟩
      · exact kok _ (by rw [if_pos e]) H' (hR.mono rfl (by show b + 2 ≤ b + ((inN l2).1 + 1) + 1; omega))
      · exact kno (by rw [if_neg (by rw [e]; simp)]) H' d fl
    refine ⟨_, rfl, rfl, _, rfl, ?_⟩
    show if decide (V.str (sg l) = V.str (Str.ofString "/")) = true then _ else _
    rw [sg_lit _ (c := 47)]
    refine ite2 (fun h47 => ?_) (fun h47 => ?_)
    · obtain ⟨l2, rfl⟩ := hB_true h47
      have em : mkN nm st (47 :: l2) = ((clN nm l2).1 + 1, if (clN nm l2).2 = true then some st else none) := rfl
      rw [em] at kok kno
      refine ⟨_, rfl, r, dxr, _, rfl, q.rd, rd_no (by decide +kernel), H0, r, dxr, p, dxp, z, i, has, nm, st, b, l2, rfl, hRS', hb, hl, fun e H' hR => ?_, fun e H' d fl => ?_⟩
      · exact kok _ (by rw [if_pos e]) H' (hR.mono rfl (by show b + 1 ≤ b + ((clN nm l2).1 + 1) + 1; omega))
      · exact kno (by rw [if_neg (by rw [e]; simp)]) H' d fl
    · have em := mkN_te (nm := nm) (st := st) (hB_false (c := 47) h47) (hB_false (c := 33) h33) (hB_false (c := 63) h63)
      rw [em] at kok kno
      refine ⟨_, rfl, r, dxr, _, rfl, q.rd, rd_no (by decide +kernel), H0, r, dxr, p, dxp, z, i, has, _, b, l, rfl, hRS', hb, hl, fun e H' hR => ?_, fun e H' d fl => ?_⟩
      · exact kok _ (by rw [if_pos e]) H' hR
      · exact kno (by rw [if_neg (by rw [e]; simp)]) H' d fl
end
end K2
/-! K02Rm9 -/
namespace K2
open PySem PySem.Spec PyProof.Rows L2 TL
theorem step_mk (nm : List Nat) (st : List (List Nat)) (has : Bool) (r : List Nat) : step (nm :: st) has (60 :: r) = ((mkN nm st r).1 + 1, (mkN nm st r).2.map fun s => (s, has)) := by
  unfold step
  dsimp only
  split
  · rename_i r' e
    obtain rfl := (List.cons.inj e).2
    show _ = ((clN nm r').1 + 1 + 1, (if (clN nm r').2 = true then some st else none : Option (List (List Nat))).map fun s => (s, has))
    split <;> rfl
  · rename_i r' e
    obtain rfl := (List.cons.inj e).2
    show _ = ((cdN (91 :: r')).1 + 1 + 1, (if (cdN (91 :: r')).2 = true then some (nm :: st) else none : Option (List (List Nat))).map fun s => (s, has))
    split <;> rfl
  · rename_i r' h e
    obtain rfl := (List.cons.inj e).2
    have ec : ccN r' = cmN r' := ccN_cm fun r2 q => h r2 (by rw [q])
    show _ = ((ccN r').1 + 1 + 1, (if (ccN r').2 = true then some (nm :: st) else none : Option (List (List Nat))).map fun s => (s, has))
    rw [ec]
    split <;> rfl
  · rename_i r' e
    obtain rfl := (List.cons.inj e).2
    show _ = ((inN r').1 + 1 + 1, (if (inN r').2 = true then some (nm :: st) else none : Option (List (List Nat))).map fun s => (s, has))
    split <;> rfl
  · rename_i r' h1 h2 h3 h4 e
    obtain rfl := (List.cons.inj e).2
    have em := mkN_te (nm := nm) (st := st) (l := r) (fun r2 q => h1 r2 (by rw [q])) (fun r2 q => h3 r2 (by rw [q])) (fun r2 q => h4 r2 (by rw [q]))
    rw [em]
    dsimp only
    split <;> rfl
  · rename_i e
    exact absurd (List.cons.inj e).1 (by decide)
  · rename_i h _
    exact (h r rfl).elim
theorem step_rf (nm : List Nat) (st : List (List Nat)) (has : Bool) (r : List Nat) : step (nm :: st) has (38 :: r) = ((rfN r).1 + 1, if (rfN r).2 = true then some (nm :: st, has) else none) := by
  have e : step (nm :: st) has (38 :: r) = if (rfN r).2 = true then ((rfN r).1 + 1, some (nm :: st, has)) else ((rfN r).1 + 1, none) := rfl
  rw [e]
  split <;> rfl
theorem step_pl (nm : List Nat) (st : List (List Nat)) (has : Bool) {l : List Nat} (h1 : ∀ r, l ≠ 60 :: r) (h2 : ∀ r, l ≠ 38 :: r) : step (nm :: st) has l = ((plN l).1, if (plN l).2 = true then some (nm :: st, has) else none) := by
  unfold step
  dsimp only
  split
  · exact absurd rfl (h1 _)
  · exact absurd rfl (h1 _)
  · exact absurd rfl (h1 _)
  · exact absurd rfl (h1 _)
  · exact absurd rfl (h1 _)
  · exact absurd rfl (h2 _)
  · split <;> rfl
section
variable {P : Program} {w : World} {K : PySem.W.Frag} {mg : Str → Option Value} {base : Heap}
/-- one step of the reader -/
def spStep (K : PySem.W.Frag) (ok : List (List Nat) → Bool) : Sp := fun vs H Q E => ∃ (H0 : Hp) (r dxr p dxp : Addr) (z : Str) (i : Nat) (has : Bool) (st : List (List Nat)) (b : Nat) (l : List Nat), vs = [.ref r] ∧ ok st = true ∧ RS K H0 H r dxr p dxp z i has st b ∧ b ≤ 900000 ∧ (tl z).drop i = l ∧ l ≠ [] ∧
  (∀ s, (step st has l).2 = some s → ∀ H', RS K H0 H' r dxr p dxp z (i + (step st has l).1) s.2 s.1 (b + (step st has l).1) → Q .non H') ∧ ((step st has l).2 = none → ∀ H' d, FlR H0 H' d (i + (step st has l).1) → E (.ref (CN K)) (some d) H')
theorem ok_read_part_of_content (T : Tx w K mg) : Ok P w K mg base (L2.CX P w) 11 (He.fAd K d_Reader_read_part_of_content.at_) p_Reader_read_part_of_content (spStep K fun st => !st.isEmpty) := by
  obtain ⟨fd, F⟩ := f_Reader_read_part_of_content T
  obtain ⟨fP, GP, bP, kP⟩ := ok_peek (P := P) (base := base) T
  obtain ⟨fX, GX, bX, kX⟩ := ok_expect (P := P) (base := base) T
  obtain ⟨fM, GM, bM, kM⟩ := ok_read_markup (P := P) (base := base) T
  obtain ⟨fF, GF, bF, kF⟩ := ok_read_reference (P := P) (base := base) T
  obtain ⟨fL, GL, bL, kL⟩ := ok_read_plain (P := P) (base := base) T
  refine ⟨fd, ?_, b_Reader_read_part_of_content F, F.kp⟩
  refine F.ok sc_Reader_read_part_of_content (fun vs H Q E h => ?_) (fun cdv A outer s H vs Q E hr h => ?_)
  · obtain ⟨H0, r, dxr, p, dxp, z, i, has, st, b, l, rfl, _⟩ := h
    rfl
  · obtain ⟨H0, r, dxr, p, dxp, z, i, has, st0, b, l, rfl, hst0, hRS, hb, hl, hne, kok, kno⟩ := h
    have nd := sc_Reader_read_part_of_content.nd
    obtain ⟨nm, st, rfl⟩ : ∃ nm st, st0 = nm :: st := by
      cases st0 with
      | nil => cases hst0
      | cons a b => exact ⟨a, b, rfl⟩
    refine ⟨_, pss_cons (ps_set (i := 1) nd rfl (.inl rfl) (pe_meth0 (E := E0) (pe_fld (pv 0) rfl) (cls_Scanner T) (m_Scanner_peek T) GP (hr.mono (by decide)) bP .nil pass0))
      (pss_one (ps_if (pt_cmpR op_eq (pv 1) pe_str (nomark _)) (pss_cons (ps_expr (pe_meth (E := E) (pe_fld (pv 0) rfl) (cls_Scanner T) (m_Scanner_expect T) GX (hr.mono (by decide)) bX .nil (passes_call (takes_of rfl rfl rfl rfl) (fun _ _ _ _ h => h)) (pa_cons pe_str pa_nil))) (pss_one (ps_expr (pe_meth0 (E := E) (pv 0) (cls_Reader T) (m_Reader_read_markup T) GM (hr.mono (by decide)) bM .nil (passes_call (takes_of rfl rfl rfl rfl) (fun _ _ _ _ h => h))))))
        (pss_one (ps_if (pt_cmpR op_eq (pv 1) pe_str (nomark _))
          (pss_one (ps_expr (pe_bm PySem.F.plainAttrs_list PySem.F.slot_list_append PySem.F.type_list_append mt_append (pe_fld (pv 0) rfl) (pa_cons (pe_meth0 (E := E) (pe_fld (pv 0) rfl) (cls_Scanner T) (m_Scanner_read_reference T) GF (hr.mono (by decide)) bF .nil (passes_call (takes_of rfl rfl rfl rfl) (fun _ _ _ _ h => h))) pa_nil))))
          (pss_one (ps_expr (pe_bm PySem.F.plainAttrs_list PySem.F.slot_list_append PySem.F.type_list_append mt_append (pe_fld (pv 0) rfl) (pa_cons (pe_meth0 (E := E) (pe_fld (pv 0) rfl) (cls_Scanner T) (m_Scanner_read_plain T) GL (hr.mono (by decide)) bL .nil (passes_call (takes_of rfl rfl rfl rfl) (fun _ _ _ _ h => h))) pa_nil)))))))), ?_⟩
    have hRS' := hRS
    obtain ⟨HC, L, ys, f, fr, q, hw, hst, hnl⟩ := hRS
    have hlen : z.length = (tl z).length := len_tl z
    have hlen4 := q.gd.len
    have hpn := q.pn
    have hqi := q.hi
    refine ⟨_, rfl, r, CRd K, dxr, _, _, rfl, q.rd, cls_Reader T, na_Reader_scan T, rd_scan, p, dxp, _, rfl, q.sc, sc_no (by decide +kernel) (by decide +kernel), p, dxp, z, i, rfl, q.sc, q.gd, ?_⟩
    rw [hl]
    refine ⟨_, rfl, rfl, _, rfl, ?_⟩
    show if decide (V.str (sg l) = V.str (Str.ofString "<")) = true then _ else _
    rw [sg_lit _ (c := 60)]
    refine ite2 (fun h60 => ?_) (fun h60 => ?_)
    · obtain ⟨l2, rfl⟩ := hB_true h60
      have hdc := drop_cons hl
      have ex : exN (tl (Str.ofString "<")) ((tl z).drop i) = (1, true) := by
        rw [hl]
        exact exN_one
      rw [step_mk] at kok kno
      refine ⟨_, rfl, r, CRd K, dxr, _, _, rfl, q.rd, cls_Reader T, na_Reader_scan T, rd_scan, p, dxp, _, rfl, q.sc, sc_no (by decide +kernel) (by decide +kernel), z, Str.ofString "<", i, p, dxp, rfl, q.sc, q.gd, q.hi, fun e1 H1 y hy m => ?_, fun e1 H1 d fl => by rw [ex] at e1; cases e1⟩
      rw [ex] at m
      have q1 := q.move m (Nat.le_add_right _ _) (by show i + 1 ≤ z.length; omega)
      replace q1 : RQ K H0 HC H1 r dxr p dxp z (i + 1) L ys has f.a [] (f :: fr) [] := q1
      refine ⟨_, rfl, r, dxr, _, rfl, q1.rd, rd_no (by decide +kernel), H0, r, dxr, p, dxp, z, i + 1, has, nm, st, b, l2, rfl, ⟨HC, L, ys, f, fr, q1, hw, hst, hnl⟩, by omega, hdc.2, fun s' e2 H' hR => ?_, fun e2 H' d fl => ?_⟩
      · refine kok (s', has) (by show (mkN nm st l2).2.map _ = _; rw [e2]; rfl) H' ?_
        exact hR.mono (by show i + 1 + (mkN nm st l2).1 = i + ((mkN nm st l2).1 + 1); omega) (by show b + (mkN nm st l2).1 + 1 ≤ b + ((mkN nm st l2).1 + 1); omega)
      · exact kno (by show (mkN nm st l2).2.map _ = _; rw [e2]; rfl) H' d (fl.eq (by show i + 1 + (mkN nm st l2).1 = i + ((mkN nm st l2).1 + 1); omega))
    refine ⟨_, rfl, rfl, _, rfl, ?_⟩
    show if decide (V.str (sg l) = V.str (Str.ofString "&")) = true then _ else _
    rw [sg_lit _ (c := 38)]
    refine ite2 (fun h38 => ?_) (fun h38 => ?_)
    · obtain ⟨l2, rfl⟩ := hB_true h38
      rw [step_rf] at kok kno
      have hdc := drop_cons hl
      have hll : l2.length = z.length - (i + 1) := by
        rw [← hdc.2, List.length_drop]
        omega
      have hrl := rfN_le l2
      refine ⟨_, rfl, r, CRd K, dxr, _, _, rfl, q.rd, cls_Reader T, na_Reader_pieces T, rd_pieces, .inl ⟨rfl, _, SqL.of q.pc⟩, _, rfl, r, CRd K, dxr, _, _, rfl, q.rd, cls_Reader T, na_Reader_scan T, rd_scan, p, dxp, _, rfl, q.sc, sc_no (by decide +kernel) (by decide +kernel), z, i, l2, hl, p, dxp, rfl, q.sc, q.gd, q.hi, fun e1 H1 y1 hy1 m => ?_, fun e1 H1 d fl => ?_⟩
      · obtain ⟨y, rfl, hy⟩ := hy1
        have q1 := q.move m (Nat.le_add_right _ _) (by show i + ((rfN l2).1 + 1) ≤ z.length; omega)
        replace q1 : RQ K H0 HC H1 r dxr p dxp z (i + ((rfN l2).1 + 1)) L ys has f.a [] (f :: fr) [] := q1
        refine ⟨L, ys.map V.str, .str y, rfl, rfl, q1.pc, by rw [List.length_map, sizeLine_eq]; omega, ?_⟩
        refine kok (nm :: st, has) (by show (if (rfN l2).2 = true then _ else _) = _; rw [if_pos e1]) _ ?_
        exact ⟨HC, L, ys ++ [y], f, fr, q1.piece (y := y) (by omega) (by omega), by omega, hst, hnl⟩
      · exact kno (by show (if (rfN l2).2 = true then _ else _) = _; rw [if_neg (by rw [e1]; simp)]) _ d (q.fail fl)
    · have h60' := hB_false (c := 60) h60
      have h38' := hB_false (c := 38) h38
      rw [step_pl nm st has h60' h38'] at kok kno
      have hpp : 0 < (plN l).1 := by
        cases l with
        | nil => exact absurd rfl hne
        | cons c r => exact plN_pos (fun e => h60' r (by rw [e])) (fun e => h38' r (by rw [e]))
      have hple := plN_le l
      have hll : l.length = z.length - i := by
        rw [← hl, List.length_drop]
        omega
      refine ⟨_, rfl, r, CRd K, dxr, _, _, rfl, q.rd, cls_Reader T, na_Reader_pieces T, rd_pieces, .inl ⟨rfl, _, SqL.of q.pc⟩, _, rfl, r, CRd K, dxr, _, _, rfl, q.rd, cls_Reader T, na_Reader_scan T, rd_scan, p, dxp, _, rfl, q.sc, sc_no (by decide +kernel) (by decide +kernel), z, i, p, dxp, rfl, q.sc, q.gd, q.hi, fun e1 H1 y1 hy1 m => ?_, fun e1 H1 d fl => ?_⟩
      · rw [hl] at e1 hy1 m
        obtain ⟨y, rfl, hy⟩ := hy1
        have q1 := q.move m (Nat.le_add_right _ _) (by omega)
        refine ⟨L, ys.map V.str, .str y, rfl, rfl, q1.pc, by rw [List.length_map, sizeLine_eq]; omega, ?_⟩
        refine kok (nm :: st, has) (by show (if (plN l).2 = true then _ else _) = _; rw [if_pos e1]) _ ?_
        exact ⟨HC, L, ys ++ [y], f, fr, q1.piece (y := y) (by omega) (by omega), by omega, hst, hnl⟩
      · rw [hl] at e1 fl
        exact kno (by show (if (plN l).2 = true then _ else _) = _; rw [if_neg (by rw [e1]; simp)]) _ d (q.fail fl)
end
end K2
/-! K02Rm10 -/
namespace K2
open PySem PySem.Spec PyProof.Rows L2 TL
theorem step_bl {has : Bool} {l : List Nat} (h : blN l ≠ 0) : step [] has l = (blN l, some ([], has)) := by
  unfold step
  dsimp only
  rw [if_pos h]
theorem step_no {has : Bool} {l : List Nat} (h : blN l = 0) (h2 : ∀ r, l ≠ 60 :: r) : step [] has l = (0, none) := by
  unfold step
  dsimp only
  rw [if_neg (by omega)]
  split
  · exact absurd rfl (h2 _)
  · exact absurd rfl (h2 _)
  · exact absurd rfl (h2 _)
  · rfl
theorem bl60 (r : List Nat) : blN (60 :: r) = 0 := rfl
theorem step_cm {has : Bool} {r : List Nat} : step [] has (60 :: 33 :: r) = ((cmN r).1 + 2, if (cmN r).2 = true then some ([], has) else none) := by
  have e : step [] has (60 :: 33 :: r) = if (cmN r).2 = true then ((cmN r).1 + 2, some ([], has)) else ((cmN r).1 + 2, none) := rfl
  rw [e]
  split <;> rfl
theorem step_in {has : Bool} {r : List Nat} : step [] has (60 :: 63 :: r) = ((inN r).1 + 2, if (inN r).2 = true then some ([], has) else none) := by
  have e : step [] has (60 :: 63 :: r) = if (inN r).2 = true then ((inN r).1 + 2, some ([], has)) else ((inN r).1 + 2, none) := rfl
  rw [e]
  split <;> rfl
theorem step_te {has : Bool} {r : List Nat} (h1 : ∀ s, r ≠ 33 :: s) (h2 : ∀ s, r ≠ 63 :: s) : step [] has (60 :: r) = if has = true then (1, none) else
      if (teN r).2.1 = true then ((teN r).1 + 1, some (if (teN r).2.2 = true then [] else [r.take (nmN r).1], true)) else ((teN r).1 + 1, none) := by
  unfold step
  dsimp only
  rw [if_neg (by rw [bl60]; decide)]
  split
  · rename_i r2 e
    exact absurd (List.cons.inj e).2 (h1 _)
  · rename_i r2 e
    exact absurd (List.cons.inj e).2 (h2 _)
  · rename_i e
    obtain rfl := (List.cons.inj e).2
    rfl
  · rename_i h
    exact (h r rfl).elim
section
variable {P : Program} {w : World} {K : PySem.W.Frag} {mg : Str → Option Value} {base : Heap}
theorem ok_read_part_around (T : Tx w K mg) : Ok P w K mg base (L2.CX P w) 10 (He.fAd K d_Reader_read_part_around.at_) p_Reader_read_part_around (spStep K fun st => st.isEmpty) := by
  obtain ⟨fd, F⟩ := f_Reader_read_part_around T
  obtain ⟨fP, GP, bP, kP⟩ := ok_peek (P := P) (base := base) T
  obtain ⟨fX, GX, bX, kX⟩ := ok_expect (P := P) (base := base) T
  obtain ⟨fB, GB, bB, kB⟩ := ok_read_blanks (P := P) (base := base) T
  obtain ⟨fC, GC, bC, kC⟩ := ok_read_comment (P := P) (base := base) T
  obtain ⟨fI, GI, bI, kI⟩ := ok_read_instruction (P := P) (base := base) T
  obtain ⟨fT, GT, bT, kT⟩ := ok_read_tag (P := P) (base := base) T
  refine ⟨fd, ?_, b_Reader_read_part_around F, F.kp⟩
  refine F.ok sc_Reader_read_part_around (fun vs H Q E h => ?_) (fun cdv A outer s H vs Q E hr h => ?_)
  · obtain ⟨H0, r, dxr, p, dxp, z, i, has, st, b, l, rfl, _⟩ := h
    rfl
  · obtain ⟨H0, r, dxr, p, dxp, z, i, has, st0, b, l, rfl, hst0, hRS, hb, hl, hne, kok, kno⟩ := h
    have nd := sc_Reader_read_part_around.nd
    obtain rfl : st0 = [] := by
      cases st0 with
      | nil => rfl
      | cons a b => cases hst0
    refine ⟨_, pss_cons (ps_set (i := 1) nd rfl (.inl rfl) (pe_fld (pv 0) rfl))
      (pss_cons (ps_if (pt_val (pe_meth0 (E := E0) (pv 1) (cls_Scanner T) (m_Scanner_read_blanks T) GB (hr.mono (by decide)) bB .nil pass0)) (pss_one ps_retN) pss_nil)
      (pss_cons (ps_expr (pe_meth (E := E) (pv 1) (cls_Scanner T) (m_Scanner_expect T) GX (hr.mono (by decide)) bX .nil (passes_call (takes_of rfl rfl rfl rfl) (fun _ _ _ _ h => h)) (pa_cons pe_str pa_nil)))
      (pss_one (ps_if (pt_cmpR op_eq (pe_meth0 (E := E0) (pv 1) (cls_Scanner T) (m_Scanner_peek T) GP (hr.mono (by decide)) bP .nil pass0) pe_str (nomark _)) (pss_one (ps_expr (pe_meth0 (E := E) (pv 0) (cls_Reader T) (m_Reader_read_comment T) GC (hr.mono (by decide)) bC .nil (passes_call (takes_of rfl rfl rfl rfl) (fun _ _ _ _ h => h)))))
        (pss_one (ps_if (pt_cmpR op_eq (pe_meth0 (E := E0) (pv 1) (cls_Scanner T) (m_Scanner_peek T) GP (hr.mono (by decide)) bP .nil pass0) pe_str (nomark _)) (pss_one (ps_expr (pe_meth0 (E := E) (pv 0) (cls_Reader T) (m_Reader_read_instruction T) GI (hr.mono (by decide)) bI .nil (passes_call (takes_of rfl rfl rfl rfl) (fun _ _ _ _ h => h)))))
        (pss_one (ps_if (pt_val (pe_fld (pv 0) rfl)) (pss_one (ps_raise rfl (takes_of rfl rfl rfl rfl) (pmk_nd T (hr.mono (by decide)) (pa_cons (pe_fld (pv 1) rfl) pa_nil))))
          (pss_cons (ps_fld (pv 0) pe_bl rfl) (pss_one (ps_expr (pe_meth0 (E := E) (pv 0) (cls_Reader T) (m_Reader_read_tag T) GT (hr.mono (by decide)) bT .nil (passes_call (takes_of rfl rfl rfl rfl) (fun _ _ _ _ h => h)))))))))))))), ?_⟩
    obtain ⟨HC, L, ys, f, fr, q, hw, hst, hnl⟩ := hRS
    have hlen : z.length = (tl z).length := len_tl z
    have hlen4 := q.gd.len
    have hqi := q.hi
    refine ⟨_, rfl, r, CRd K, dxr, _, _, rfl, q.rd, cls_Reader T, na_Reader_scan T, rd_scan, _, rfl, p, dxp, _, rfl, q.sc, sc_no (by decide +kernel) (by decide +kernel), z, i, p, dxp, rfl, q.sc, q.gd, q.hi, fun _ H1 y hy m => ?_, fun e => by cases e⟩
    rw [hl] at hy m
    have hy2 : y = .bl (decide (0 < blN l)) := hy
    subst hy2
    have hll : l.length = z.length - i := by
      rw [← hl, List.length_drop]
      omega
    have hble := blN_le l
    have q1 := q.move m (Nat.le_add_right _ _) (by omega)
    refine ⟨_, rfl, ?_⟩
    refine ite2 (fun hp => ?_) (fun hp => ?_)
    · have hp' : blN l ≠ 0 := by
        have := of_decide_eq_true hp
        omega
      rw [step_bl hp'] at kok
      exact kok _ rfl H1 ⟨HC, L, ys, f, fr, q1, by omega, hst, hnl⟩
    have hp' : blN l = 0 := by
      have := of_decide_eq_false (Bool.eq_false_iff.mpr hp)
      omega
    rw [hp'] at q1
    replace q1 : RQ K H0 HC H1 r dxr p dxp z i L ys has f.a [] (f :: fr) [] := q1
    refine ⟨_, rfl, p, dxp, _, rfl, q1.sc, sc_no (by decide +kernel) (by decide +kernel), z, Str.ofString "<", i, p, dxp, rfl, q1.sc, q1.gd, q1.hi, fun e2 H2 y2 hy2 m2 => ?_, fun e2 H2 d fl => ?_⟩
    · rw [lit (s := "<") (l := [60]), tl_mkS, hl] at e2 m2
      obtain ⟨l2, rfl, e3⟩ := ex_eq e2
      rw [e3] at m2
      have hdc := drop_cons hl
      have q2 := q1.move m2 (Nat.le_add_right _ _) (by omega)
      have hR2 : RS K H0 H2 r dxr p dxp z (i + 1) has [] b := ⟨HC, L, ys, f, fr, q2, hw, hst, hnl⟩
      refine ⟨_, rfl, p, dxp, _, rfl, q2.sc, sc_no (by decide +kernel) (by decide +kernel), p, dxp, z, _, rfl, q2.sc, q2.gd, ?_⟩
      refine ⟨rfl, _, rfl, ?_⟩
      rw [hdc.2]
      show if decide (V.str (sg l2) = V.str (Str.ofString "!")) = true then _ else _
      rw [sg_lit _ (c := 33)]
      refine ite2 (fun h33 => ?_) (fun h33 => ?_)
      · obtain ⟨l3, rfl⟩ := hB_true h33
        rw [step_cm] at kok kno
        refine ⟨_, rfl, r, dxr, _, rfl, q2.rd, rd_no (by decide +kernel), H0, r, dxr, p, dxp, z, i + 1, has, [], b, l3, rfl, hR2, by omega, hdc.2, fun e4 H' hR => ?_, fun e4 H' d fl => ?_⟩
        · exact kok ([], has) (by show (if (cmN l3).2 = true then _ else _) = _; rw [if_pos e4]) H' (hR.mono (by show i + 1 + ((cmN l3).1 + 1) = i + ((cmN l3).1 + 2); omega) (by show b + 2 ≤ b + ((cmN l3).1 + 2); omega))
        · exact kno (by show (if (cmN l3).2 = true then _ else _) = _; rw [if_neg (by rw [e4]; simp)]) H' d (fl.eq (by show i + 1 + ((cmN l3).1 + 1) = i + ((cmN l3).1 + 2); omega))
      refine ⟨_, rfl, p, dxp, _, rfl, q2.sc, sc_no (by decide +kernel) (by decide +kernel), p, dxp, z, _, rfl, q2.sc, q2.gd, ?_⟩
      refine ⟨rfl, _, rfl, ?_⟩
      rw [hdc.2]
      show if decide (V.str (sg l2) = V.str (Str.ofString "?")) = true then _ else _
      rw [sg_lit _ (c := 63)]
      refine ite2 (fun h63 => ?_) (fun h63 => ?_)
      · obtain ⟨l3, rfl⟩ := hB_true h63
        rw [step_in] at kok kno
        refine ⟨_, rfl, r, dxr, _, rfl, q2.rd, rd_no (by decide +kernel), H0, r, dxr, p, dxp, z, i + 1, has, [], b, l3, rfl, hR2, by omega, hdc.2, fun e4 H' hR => ?_, fun e4 H' d fl => ?_⟩
        · exact kok ([], has) (by show (if (inN l3).2 = true then _ else _) = _; rw [if_pos e4]) H' (hR.mono (by show i + 1 + ((inN l3).1 + 1) = i + ((inN l3).1 + 2); omega) (by show b + 2 ≤ b + ((inN l3).1 + 2); omega))
        · exact kno (by show (if (inN l3).2 = true then _ else _) = _; rw [if_neg (by rw [e4]; simp)]) H' d (fl.eq (by show i + 1 + ((inN l3).1 + 1) = i + ((inN l3).1 + 2); omega))
      have est := step_te (has := has) (hB_false (c := 33) h33) (hB_false (c := 63) h63)
      rw [est] at kok kno
      refine ⟨_, rfl, r, CRd K, dxr, _, _, rfl, q2.rd, cls_Reader T, na_Reader_has_outermost T, rd_has, _, rfl, ?_⟩
      cases has with
      | true =>
        refine iteT ?_
        exact ⟨_, rfl, p, CSc K, dxp, _, _, rfl, q2.sc, cls_Scanner T, na_Scanner_at T, sc_at, nd_ok (q2.gd.log q2.hi) fun d y hd => kno rfl _ d (q2.raise hd rfl)⟩
      | false =>
        refine iteF ?_
        refine ⟨_, rfl, r, CRd K, dxr, _, rfl, q2.rd, cls_Reader T, na_Reader_has_outermost T, (by show 5 < 1000; decide), ?_⟩
        rw [rdp_has]
        have q3 := q2.field true f.a
        rw [if_neg Bool.false_ne_true] at kok kno
        refine ⟨_, rfl, r, dxr, _, rfl, q3.rd, rd_no (by decide +kernel), H0, r, dxr, p, dxp, z, i + 1, true, [], b, l2, rfl, ⟨HC, L, ys, f, fr, q3, hw, hst, hnl⟩, by omega, hdc.2, fun e4 H' hR => ?_, fun e4 H' d fl => ?_⟩
        · rw [if_pos e4] at kok
          exact kok _ rfl H' (hR.mono (by show i + 1 + (teN l2).1 = i + ((teN l2).1 + 1); omega) (by show b + (teN l2).1 + 1 ≤ b + ((teN l2).1 + 1); omega))
        · rw [if_neg (by rw [e4]; simp)] at kno
          exact kno rfl H' d (fl.eq (by show i + 1 + (teN l2).1 = i + ((teN l2).1 + 1); omega))
    · rw [lit (s := "<") (l := [60]), tl_mkS, hl] at e2 fl
      obtain ⟨h1, h2⟩ := ex_ne e2
      rw [step_no hp' h1] at kno
      rw [h2] at fl
      exact kno rfl _ d (q1.fail fl)
end
end K2
/-! K02Rd -/
namespace K2
open PySem PySem.Spec PyProof.Rows L2 TL
theorem run_step {N : Nat} {st : List (List Nat)} {has : Bool} {l : List Nat} (h : l ≠ []) (hN : l.length ≤ N) : run N st has l = match step st has l with
    | (n, none) => (n, false)
    | (n, some s) => ((run N s.1 s.2 (l.drop n)).1 + n, (run N s.1 s.2 (l.drop n)).2) := by
  cases l with
  | nil => exact absurd rfl h
  | cons c r =>
    cases N with
    | zero => simp at hN
    | succ f =>
      conv => lhs; unfold run
      cases e : step st has (c :: r) with
      | mk n o =>
        cases o with
        | none => rfl
        | some s =>
          have hp := step_pos (by simp) e
          have e2 := run_fuel f (f + 1) s.1 s.2 ((c :: r).drop n) (by simp only [List.length_drop, List.length_cons] at *; omega) (by simp only [List.length_drop, List.length_cons] at *; omega)
          dsimp only
          rw [e2]
theorem run_nil {N : Nat} {st : List (List Nat)} {has : Bool} : run N st has [] = (0, st.isEmpty && has) := by
  cases N <;> rfl
def xmlB (l : List Nat) : Bool := decide (l.take 5 = [60, 63, 120, 109, 108]) && hB isBl (l.drop 5)
theorem dcN_eq (l : List Nat) : dcN l = if xmlB l = true then upN [63, 62] l else (0, true) := by
  unfold dcN
  split
  · rename_i c r
    have e : xmlB (60 :: 63 :: 120 :: 109 :: 108 :: c :: r) = isBl c := by
      unfold xmlB
      rw [show (60 :: 63 :: 120 :: 109 :: 108 :: c :: r).take 5 = [60, 63, 120, 109, 108] from rfl]
      simp [hB]
    rw [e]
  · rename_i h
    have e : xmlB l = false := by
      unfold xmlB
      by_cases h1 : l.take 5 = [60, 63, 120, 109, 108]
      · rw [decide_eq_true h1, Bool.true_and]
        cases e2 : l.drop 5 with
        | nil => rfl
        | cons c r =>
          have := List.take_append_drop 5 l
          rw [h1, e2] at this
          exact (h c r this.symm).elim
      · rw [decide_eq_false h1, Bool.false_and]
    rw [e]
    rfl
section
variable {P : Program} {w : World} {K : PySem.W.Frag} {mg : Str → Option Value} {base : Heap}
def spDc (K : PySem.W.Frag) : Sp := fun vs H Q E => ∃ (H0 : Hp) (r dxr p dxp : Addr) (z : Str) (b : Nat), vs = [.ref r] ∧ RS K H0 H r dxr p dxp z 0 false [] b ∧
  ((dcN (tl z)).2 = true → ∀ H', RS K H0 H' r dxr p dxp z (dcN (tl z)).1 false [] b → Q .non H') ∧ ((dcN (tl z)).2 = false → ∀ H' d, FlR H0 H' d (dcN (tl z)).1 → E (.ref (CN K)) (some d) H')
theorem ok_read_declaration (T : Tx w K mg) : Ok P w K mg base (L2.CX P w) 5 (He.fAd K d_Reader_read_declaration.at_) p_Reader_read_declaration (spDc K) := by
  obtain ⟨fd, F⟩ := f_Reader_read_declaration T
  obtain ⟨fB, GB, bB, kB⟩ := ok_is_blank (P := P) (base := base) T
  obtain ⟨fU, GU, bU, kU⟩ := ok_read_up_to (P := P) (base := base) T
  refine ⟨fd, ?_, b_Reader_read_declaration F, F.kp⟩
  refine F.ok sc_Reader_read_declaration (fun vs H Q E h => ?_) (fun cdv A outer s H vs Q E hr h => ?_)
  · obtain ⟨H0, r, dxr, p, dxp, z, b, rfl, _⟩ := h
    rfl
  · obtain ⟨H0, r, dxr, p, dxp, z, b, rfl, hRS, kok, kno⟩ := h
    refine ⟨_, pss_one (ps_if (pw_and (pt_val (pe_bm PySem.F.plainAttrs_str PySem.F.slot_str_startswith PySem.F.type_str_startswith mt_startswith (pe_fld (pe_fld (pv 0) rfl) rfl) (pa_cons pe_str pa_nil)))
        (pw_and1 (pt_val (pe_call (E := E0) GB (hr.mono (by decide)) (by rfl) (g_is_blank T) kB bB .nil pass0 (pa_cons (pe_slice sl_str (pe_fld (pe_fld (pv 0) rfl) rfl) (po_some pe_int) (po_some pe_int)) pa_nil))))).pt
      (pss_one (ps_expr (pe_meth (E := E) (pe_fld (pv 0) rfl) (cls_Scanner T) (m_Scanner_read_up_to T) GU (hr.mono (by decide)) bU .nil (passes_call (takes_of rfl rfl rfl rfl) (fun _ _ _ _ h => h)) (pa_cons pe_str pa_nil)))) pss_nil), ?_⟩
    obtain ⟨HC, L, ys, f, fr, q, hw, hst, hnl⟩ := hRS
    have hlen : z.length = (tl z).length := len_tl z
    rw [dcN_eq] at kok kno
    have fin : xmlB (tl z) = false → ∀ H', Same H H' → Q .non H' := fun e H' s => by
      rw [e, if_neg Bool.false_ne_true] at kok
      exact kok rfl H' ⟨HC, L, ys, f, fr, q.same s, hw, hst, hnl⟩
    refine ⟨_, rfl, r, CRd K, dxr, _, _, rfl, q.rd, cls_Reader T, na_Reader_scan T, rd_scan, p, CSc K, dxp, _, _, rfl, q.sc, cls_Scanner T, na_Scanner_text T, sc_text, rfl, z, Str.ofString "<?xml", rfl, rfl, ?_⟩
    rw [starts0, lit (s := "<?xml") (l := [60, 63, 120, 109, 108]), tl_mkS]
    refine ⟨_, rfl, ?_⟩
    show if decide ((tl z).take 5 = [60, 63, 120, 109, 108]) = true then _ else _
    refine ite2 (fun h5 => ?_) (fun h5 => ?_)
    · refine ⟨_, rfl, r, CRd K, dxr, _, _, rfl, q.rd, cls_Reader T, na_Reader_scan T, rd_scan, p, CSc K, dxp, _, _, rfl, q.sc, cls_Scanner T, na_Scanner_text T, sc_text, _, rfl, _, rfl, z, rfl, q.gd.line, ?_⟩
      have ec : cutS z (some (5 : Int)) (some (6 : Int)) = sg ((tl z).drop 5) := cut_one z 5
      rw [ec]
      refine ⟨_, rfl, fun H2 s2 => ⟨_, rfl, ?_⟩⟩
      have ex : xmlB (tl z) = hB isBl ((tl z).drop 5) := by
        unfold xmlB
        rw [h5, Bool.true_and]
      show if hB isBl ((tl z).drop 5) = true then _ else _
      rw [← ex]
      refine ite2 (fun h6 => ?_) (fun h6 => fin (Bool.eq_false_iff.mpr h6) _ s2)
      rw [if_pos h6] at kok kno
      have q2 := q.same s2
      refine ⟨_, rfl, r, CRd K, dxr, _, _, rfl, q2.rd, cls_Reader T, na_Reader_scan T, rd_scan, p, dxp, _, rfl, q2.sc, sc_no (by decide +kernel) (by decide +kernel), z, Str.ofString "?>", 0, by decide, by decide, p, dxp, rfl, q2.sc, q2.gd, q2.hi, fun e3 H3 y3 hy3 m3 => ?_, fun e3 H3 d fl => ?_⟩
      · have q3 := q2.move m3 (Nat.le_add_right _ _) (pos_le q2.hi (upN_le _ _))
        rw [lit (s := "?>") (l := [63, 62]), tl_mkS, List.drop_zero, Nat.zero_add] at q3
        rw [lit (s := "?>") (l := [63, 62]), tl_mkS, List.drop_zero] at e3
        exact kok e3 _ ⟨HC, L, ys, f, fr, q3, hw, hst, hnl⟩
      · rw [lit (s := "?>") (l := [63, 62]), tl_mkS, List.drop_zero] at e3 fl
        exact kno e3 _ d ((q2.fail fl).eq (Nat.zero_add _))
    · refine fin ?_ _ (Same.refl _)
      unfold xmlB
      rw [Bool.eq_false_iff.mpr h5, Bool.false_and]
end
end K2
/-! K02Re -/
namespace K2
open PySem PySem.Spec PyProof.Rows L2 TL
section
variable {P : Program} {w : World} {K : PySem.W.Frag} {mg : Str → Option Value} {base : Heap}
theorem RQ.kindB {H0 HC H : Hp} {r dxr p dxp : Addr} {z : Str} {i : Nat} {L : Addr} {ys : List Str} {has : Bool} {hr : Addr} {hs : List Fr} {f : Fr} {fr : List Fr} {last : List V} {st : List (List Nat)}
    (q : RQ K H0 HC H r dxr p dxp z i L ys has hr hs (f :: fr) last) (h : nms (f :: fr) = st) : ∃ k : Str, f.kd = .str k ∧ decide (V.str k = V.str (Str.ofString "root")) = st.isEmpty := by
  cases fr with
  | nil =>
    obtain ⟨_, h2, _⟩ := q.ch
    refine ⟨_, h2, ?_⟩
    rw [← h]
    rfl
  | cons g fr =>
    obtain ⟨_, h2, _⟩ := q.ch
    refine ⟨_, h2, ?_⟩
    rw [← h]
    show decide (V.str (Str.ofString "element") = V.str (Str.ofString "root")) = false
    rw [dec_str]
    decide +kernel
/-- the root, closed -/
theorem RQ.root {H0 HC H : Hp} {r dxr p dxp : Addr} {z : Str} {i : Nat} {L : Addr} {ys : List Str} {has : Bool} {hr : Addr} {hs : List Fr} {f : Fr} (q : RQ K H0 HC H r dxr p dxp z i L ys has hr hs [f] []) : Cl K H0 H f.w f.a := by
  have fk := q.ch.1
  have h0 : H0 f.a = none := q.s0.free (q.cf _ (by rw [adrs_app, adrs_cons]; simp))
  have hC := fk.C
  rw [List.append_nil] at hC
  exact .mk (A := f.A) (C := f.C) (dx := f.dx) (k := f.kd) (nm := f.nm) (tx := f.tx) (pr := f.par) (pt := f.pt) (od := f.od) (as := f.as) (ps := f.ps) h0 fk.a fk.A hC (fun v hv => (fk.at_ v hv).mono q.s1) (fun x hx => (fk.ki x hx).mono q.s1) (Nat.le_refl _)
def spDoc (K : PySem.W.Frag) : Sp := fun vs H Q E => ∃ (H0 : Hp) (r dxr p dxp : Addr) (z : Str), vs = [.ref r] ∧ RS K H0 H r dxr p dxp z 0 false [] 1 ∧
  ((docN (tl z)).2 = true → ∀ H' t, Same H0 H' → Q (.ref t) H') ∧ ((docN (tl z)).2 = false → ∀ H' d, FlR H0 H' d (docN (tl z)).1 → E (.ref (CN K)) (some d) H')
theorem ok_read_document (T : Tx w K mg) : Ok P w K mg base (L2.CX P w) 12 (He.fAd K d_Reader_read_document.at_) p_Reader_read_document (spDoc K) := by
  obtain ⟨fd, F⟩ := f_Reader_read_document T
  obtain ⟨fD, GD, bD, kD⟩ := ok_is_done (P := P) (base := base) T
  obtain ⟨fC, GC, bC, kC⟩ := ok_read_declaration (P := P) (base := base) T
  obtain ⟨fA, GA, bA, kA⟩ := ok_read_part_around (P := P) (base := base) T
  obtain ⟨fI, GI, bI, kI⟩ := ok_read_part_of_content (P := P) (base := base) T
  obtain ⟨fT, GT, bT, kT⟩ := ok_Tree_init (P := P) (base := base) T
  refine ⟨fd, ?_, b_Reader_read_document F, F.kp⟩
  refine F.ok sc_Reader_read_document (fun vs H Q E h => ?_) (fun cdv A outer s H vs Q E hr h => ?_)
  · obtain ⟨H0, r, dxr, p, dxp, z, rfl, _⟩ := h
    rfl
  · obtain ⟨H0, r, dxr, p, dxp, z, rfl, hRS, kok, kno⟩ := h
    refine ⟨_, pss_cons (ps_expr (pe_meth0 (E := E) (pv 0) (cls_Reader T) (m_Reader_read_declaration T) GC (hr.mono (by decide)) bC .nil (passes_call (takes_of rfl rfl rfl rfl) (fun _ _ _ _ h => h))))
      (pss_cons (ps_while (passes_of rfl) (pt_not (pt_val (pe_meth0 (E := E0) (pe_fld (pv 0) rfl) (cls_Scanner T) (m_Scanner_is_done T) GD (hr.mono (by decide)) bD .nil pass0)))
        (pss_one (ps_if (pt_cmpR op_eq (pe_fld (pe_fld (pv 0) rfl) rfl) pe_str (nomark _)) (pss_one (ps_expr (pe_meth0 (E := E) (pv 0) (cls_Reader T) (m_Reader_read_part_around T) GA (hr.mono (by decide)) bA .nil (passes_call (takes_of rfl rfl rfl rfl) (fun _ _ _ _ h => h)))))
          (pss_one (ps_expr (pe_meth0 (E := E) (pv 0) (cls_Reader T) (m_Reader_read_part_of_content T) GI (hr.mono (by decide)) bI .nil (passes_call (takes_of rfl rfl rfl rfl) (fun _ _ _ _ h => h))))))))
      (pss_cons (ps_if (pw_or (pt_cmpR op_ne (pe_fld (pe_fld (pv 0) rfl) rfl) pe_str (nomark _)) (pw_or1 (pt_not (pt_val (pe_fld (pv 0) (by rfl)))))).pt (pss_one (ps_raise rfl (takes_of rfl rfl rfl rfl) (pmk_nd T (hr.mono (by decide)) (pa_cons (pe_fld (pe_fld (pv 0) rfl) rfl) pa_nil)))) pss_nil)
      (pss_one (ps_ret (pe_make (E := E0) (mk_Tree T) GT (hr.mono (by decide)) rfl (g_Tree T) bT .nil pass0 (pa_cons (pe_fld (pv 0) rfl) pa_nil)))))), ?_⟩
    have hlen : z.length = (tl z).length := len_tl z
    have hRS0 := hRS
    obtain ⟨HC, L, ys, f, fr, q, hw, hst, hnl⟩ := hRS
    refine ⟨_, rfl, r, dxr, _, rfl, q.rd, rd_no (by decide +kernel), H0, r, dxr, p, dxp, z, 1, rfl, hRS0, fun e1 H1 hR1 => ?_, fun e1 H1 d fl => ?_⟩
    · have edoc : docN (tl z) = ((run z.length [] false ((tl z).drop (dcN (tl z)).1)).1 + (dcN (tl z)).1, (run z.length [] false ((tl z).drop (dcN (tl z)).1)).2) := by
        unfold docN
        rw [if_pos e1, hlen]
      refine while_x (fun mm σ H2 => ∃ (j : Nat) (has : Bool) (st : List (List Nat)), mm = z.length - j ∧ σ = [some (V.ref r)] ∧ RS K H0 H2 r dxr p dxp z j has st (j + 1) ∧
          docN (tl z) = ((run z.length st has ((tl z).drop j)).1 + j, (run z.length st has ((tl z).drop j)).2))
        (fun σ H2 => ∃ (has : Bool) (st : List (List Nat)), σ = [some (V.ref r)] ∧ RS K H0 H2 r dxr p dxp z z.length has st (z.length + 1) ∧ docN (tl z) = (z.length, st.isEmpty && has))
        ⟨_, (dcN (tl z)).1, false, [], rfl, rfl, hR1.mono rfl (by omega), edoc⟩ ?_ ?_
      · rintro σ H2 ⟨has, st, rfl, ⟨HC2, L2, ys2, f2, fr2, q2, hw2, hst2, hnl2⟩, e2⟩
        obtain ⟨k, hk1, hk2⟩ := q2.kindB hst2
        have fk2 := q2.ch.head
        have hlen4 := q2.gd.len
        refine ⟨_, rfl, r, CRd K, dxr, _, _, rfl, q2.rd, cls_Reader T, na_Reader_here T, rd_here, f2.a, CNd K, f2.dx, f2.F, _, rfl, fk2.a, cls_Node T, na_Node_kind T, nd_kind.trans (congrArg some hk1), rfl, _, rfl, ?_⟩
        show if (!decide (V.str k = V.str (Str.ofString "root"))) = true then _ else _
        rw [hk2]
        have bad : (st.isEmpty && has) = false → ∀ d y, H2 d = none → E (.ref (CN K)) (some d) (upd H2 d (.xd [("at", .int (z.length : Int)), ("why", y)])) := fun e d y hd => by
          rw [e2, e] at kno
          exact kno rfl _ d (q2.raise hd rfl)
        cases hs : st.isEmpty with
        | false =>
          refine iteT ?_
          refine iteT ?_
          exact ⟨_, rfl, r, CRd K, dxr, _, _, rfl, q2.rd, cls_Reader T, na_Reader_scan T, rd_scan, p, CSc K, dxp, _, _, rfl, q2.sc, cls_Scanner T, na_Scanner_at T, sc_at, nd_ok (q2.gd.log q2.hi) fun d y hd => bad (by rw [hs]; rfl) d y hd⟩
        | true =>
          refine iteF ?_
          refine ⟨_, rfl, r, CRd K, dxr, _, _, rfl, q2.rd, cls_Reader T, na_Reader_has_outermost T, rd_has, _, rfl, ?_⟩
          cases hh : has with
          | false =>
            refine iteT ?_
            exact ⟨_, rfl, r, CRd K, dxr, _, _, rfl, q2.rd, cls_Reader T, na_Reader_scan T, rd_scan, p, CSc K, dxp, _, _, rfl, q2.sc, cls_Scanner T, na_Scanner_at T, sc_at, nd_ok (q2.gd.log q2.hi) fun d y hd => bad (by rw [hs, hh]; rfl) d y hd⟩
          | true =>
            refine iteF ?_
            rw [e2, hs, hh] at kok
            have hfr : fr2 = [] := by
              cases fr2 with
              | nil => rfl
              | cons g fr2 =>
                rw [← hst2] at hs
                cases hs
            subst hfr
            refine ⟨_, rfl, r, CRd K, dxr, _, _, rfl, q2.rd, cls_Reader T, na_Reader_root T, rd_root, fun t dx ht hdx hne => ?_⟩
            have sm : Same H2 (upd (upd H2 dx (.own t)) t (.ins (CTr K) dx [])) := fun b o e => by
              rw [upd_ne (ne_of_none e ht), upd_ne (ne_of_none e hdx)]
              exact e
            refine ⟨H0, H2, t, dx, f2.a, f2.w, rfl, upd_same, q2.s0.trans q2.s1, sm, ht, q2.root, ?_, fun H' s' => ⟨rfl, kok rfl H' t s'⟩⟩
            have : wsum [f2] = f2.w := rfl
            omega
      · rintro - mm σ H2 R ⟨j, has, st, rfl, rfl, hR2, e2⟩ hfin hbody
        have hR2' := hR2
        obtain ⟨HC2, L2, ys2, f2, fr2, q2, hw2, hst2, hnl2⟩ := hR2
        have hqi := q2.hi
        have hlen4 := q2.gd.len
        refine ⟨_, rfl, r, CRd K, dxr, _, _, rfl, q2.rd, cls_Reader T, na_Reader_scan T, rd_scan, p, dxp, _, rfl, q2.sc, sc_no (by decide +kernel) (by decide +kernel), p, dxp, z, j, rfl, q2.sc, q2.gd, _, rfl, ?_⟩
        show R (!decide (j = z.length)) H2
        by_cases hj : j = z.length
        · rw [decide_eq_true hj]
          subst hj
          refine hfin _ ⟨has, st, rfl, hR2', ?_⟩
          have hd : (tl z).drop z.length = [] := by rw [hlen]; exact List.drop_length
          rw [e2, hd, run_nil, Nat.zero_add]
        · rw [decide_eq_false hj]
          refine hbody _ ?_
          have hne : (tl z).drop j ≠ [] := fun e => by
            have := congrArg List.length e
            rw [List.length_drop, List.length_nil] at this
            omega
          have er := run_step (N := z.length) (st := st) (has := has) hne (by rw [List.length_drop]; omega)
          rw [er] at e2
          have go : ∀ s, (step st has ((tl z).drop j)).2 = some s → ∀ H', RS K H0 H' r dxr p dxp z (j + (step st has ((tl z).drop j)).1) s.2 s.1 (j + 1 + (step st has ((tl z).drop j)).1) → ∃ m', m' < z.length - j ∧ ∃ (j' : Nat) (has' : Bool) (st' : List (List Nat)), m' = z.length - j' ∧ [some (V.ref r)] = [some (V.ref r)] ∧ RS K H0 H' r dxr p dxp z j' has' st' (j' + 1) ∧
              docN (tl z) = ((run z.length st' has' ((tl z).drop j')).1 + j', (run z.length st' has' ((tl z).drop j')).2) := by
            intro s hs H' hR
            cases es : step st has ((tl z).drop j) with
            | mk n o =>
              rw [es] at hs hR e2
              obtain rfl : o = some s := hs
              have hp := step_pos hne es
              have hjn : j + n ≤ z.length := by
                obtain ⟨_, _, _, _, _, q9, _⟩ := hR
                exact q9.hi
              refine ⟨z.length - (j + n), by omega, j + n, s.2, s.1, rfl, rfl, hR.mono rfl (by show j + 1 + n ≤ j + n + 1; omega), ?_⟩
              rw [e2, drop_add]
              dsimp only
              rw [show ∀ a : Nat, a + n + j = a + (j + n) by intro a; omega]
          have stop : (step st has ((tl z).drop j)).2 = none → ∀ H' d, FlR H0 H' d (j + (step st has ((tl z).drop j)).1) → E (.ref (CN K)) (some d) H' := by
            intro hs H' d fl
            cases es : step st has ((tl z).drop j) with
            | mk n o =>
              rw [es] at hs fl e2
              obtain rfl : o = none := hs
              rw [e2] at kno
              exact kno rfl H' d (fl.eq (Nat.add_comm _ _))
          obtain ⟨k, hk1, hk2⟩ := q2.kindB hst2
          have fk2 := q2.ch.head
          refine ⟨_, rfl, r, CRd K, dxr, _, _, rfl, q2.rd, cls_Reader T, na_Reader_here T, rd_here, f2.a, CNd K, f2.dx, f2.F, _, rfl, fk2.a, cls_Node T, na_Node_kind T, nd_kind.trans (congrArg some hk1), rfl, _, rfl, ?_⟩
          show if decide (V.str k = V.str (Str.ofString "root")) = true then _ else _
          rw [hk2]
          refine ite2 (fun hs => ?_) (fun hs => ?_)
          · exact ⟨_, rfl, r, dxr, _, rfl, q2.rd, rd_no (by decide +kernel), H0, r, dxr, p, dxp, z, j, has, st, j + 1, _, rfl, hs, hR2', by omega, rfl, hne, fun s hs H' hR => go s hs H' hR, fun hs H' d fl => stop hs H' d fl⟩
          · exact ⟨_, rfl, r, dxr, _, rfl, q2.rd, rd_no (by decide +kernel), H0, r, dxr, p, dxp, z, j, has, st, j + 1, _, rfl, by show (!st.isEmpty) = true; rw [Bool.eq_false_iff.mpr hs]; rfl, hR2', by omega, rfl, hne, fun s hs H' hR => go s hs H' hR, fun hs H' d fl => stop hs H' d fl⟩
    · have edoc : docN (tl z) = ((dcN (tl z)).1, false) := by
        unfold docN
        rw [if_neg (by rw [e1]; simp)]
      rw [edoc] at kno
      exact kno rfl _ d fl
end
end K2
/-! K02Rf -/
namespace K2
open PySem PySem.Spec PyProof.Rows L2 TL
theorem cut_all (z : Str) : cutS z none (some (z.length : Int)) = z := by
  refine ext_tl ?_
  have hl : z.length = (tl z).length := len_tl z
  show (((tl z).drop 0).take (min z.length z.length - 0)) = tl z
  rw [Nat.min_self, Nat.sub_zero, List.drop_zero, hl, List.take_length]
section
variable {P : Program} {w : World} {K : PySem.W.Frag} {mg : Str → Option Value} {base : Heap}
def spRdInit (K : PySem.W.Frag) : Sp := fun vs H Q _ => ∃ (H0 : Hp) (r dxr : Addr) (z : Str), vs = [.ref r, .str z] ∧ H r = some (.ins (CRd K) dxr []) ∧ Same H0 H ∧ H0 r = none ∧ Gd z ∧ ∀ H' p dxp, RS K H0 H' r dxr p dxp z 0 false [] 1 → Q .non H'
theorem ok_Reader_init (T : Tx w K mg) : Ok P w K mg base CX0 3 (He.fAd K d_Reader_init.at_) p_Reader_init (spRdInit K) := by
  obtain ⟨fd, F⟩ := f_Reader_init T
  obtain ⟨fS, GS, bS, kS⟩ := ok_Scanner_init (P := P) (base := base) T
  obtain ⟨fI, GI, bI, kI⟩ := ok_Node_init (P := P) (base := base) T
  refine ⟨fd, ?_, b_Reader_init F, F.kp⟩
  refine F.ok sc_Reader_init (fun vs H Q E h => ?_) (fun cdv A outer s H vs Q E hr h => ?_)
  · obtain ⟨H0, r, dxr, z, rfl, _⟩ := h
    rfl
  · obtain ⟨H0, r, dxr, z, rfl, hH, s0, h0r, g, kk⟩ := h
    refine ⟨_, PSs.nox (pss_cons (ps_fld (pv 0) (pe_make (E := E0) (mk_Scanner T) GS (hr.mono (by decide)) rfl (g_Scanner T) bS .nil pass0 (pa_cons (pv 1) pa_nil)) rfl)
      (pss_cons (ps_fld (pv 0) (pe_make (E := E0) (mk_Node T) GI (hr.mono (by decide)) rfl (g_Node T) bI .nil pass0 (pa_cons pe_str (pa_cons pe_non (pa_cons pe_str pa_nil)))) rfl)
      (pss_cons (ps_fld (pv 0) (pe_fld (pv 0) rfl) rfl)
      (pss_cons (ps_fld (pv 0) pe_bl rfl)
      (pss_one (ps_fld (pv 0) (pe_lst pa_nil) rfl)))))), ?_⟩
    refine ⟨_, rfl, fun p dxp hp hdxp hne => ?_⟩
    show spScInit K [.ref p, .str z] (upd (upd H dxp (.own p)) p (.ins (CSc K) dxp [])) _ _
    refine ⟨p, dxp, z, rfl, upd_same, rfl, ?_⟩
    have hpr : r ≠ p := ne_of_none hH hp
    have hdr : r ≠ dxp := ne_of_none hH hdxp
    have h0p : H0 p = none := s0.free hp
    have hr1 : upd (upd (upd (upd H dxp (.own p)) p (.ins (CSc K) dxp [])) p (.ins (CSc K) dxp [("text", .str z)])) p (.ins (CSc K) dxp (scF z 0)) r = some (.ins (CRd K) dxr []) := by
      rw [upd_ne hpr, upd_ne hpr, upd_ne hpr, upd_ne hdr]
      exact hH
    have hp1 : upd (upd (upd (upd H dxp (.own p)) p (.ins (CSc K) dxp [])) p (.ins (CSc K) dxp [("text", .str z)])) p (.ins (CSc K) dxp (scF z 0)) p = some (.ins (CSc K) dxp (scF z 0)) := upd_same
    have s1 : Same H0 (upd (upd (upd (upd H dxp (.own p)) p (.ins (CSc K) dxp [])) p (.ins (CSc K) dxp [("text", .str z)])) p (.ins (CSc K) dxp (scF z 0))) :=
      same_upd0 (same_upd0 (same_upd0 (s0.trans (same_new hdxp)) h0p) h0p) h0p
    generalize upd (upd (upd (upd H dxp (.own p)) p (.ins (CSc K) dxp [])) p (.ins (CSc K) dxp [("text", .str z)])) p (.ins (CSc K) dxp (scF z 0)) = H1 at hr1 hp1 s1 ⊢
    refine ⟨_, rfl, r, CRd K, dxr, _, rfl, hr1, cls_Reader T, na_Reader_scan T, (by decide), ?_⟩
    have s2 : Same H0 (upd H1 r (.ins (CRd K) dxr (putF "scan" (.ref p) []))) := same_upd0 s1 h0r
    have hr2 : upd H1 r (.ins (CRd K) dxr (putF "scan" (.ref p) [])) r = some (.ins (CRd K) dxr [("scan", .ref p)]) := upd_same
    have hp2 : upd H1 r (.ins (CRd K) dxr (putF "scan" (.ref p) [])) p = some (.ins (CSc K) dxp (scF z 0)) := by
      rw [upd_ne (Ne.symm hpr)]
      exact hp1
    generalize upd H1 r (.ins (CRd K) dxr (putF "scan" (.ref p) [])) = H2 at hr2 hp2 s2 ⊢
    intro a dx ha hdx hne2
    refine ⟨a, dx, .str (Str.ofString "root"), .non, .str (Str.ofString ""), rfl, upd_same, fun H3 A C hA hC nAC nA nC s3 f1 f2 f3 => ⟨rfl, ?_⟩⟩
    have hra : r ≠ a := ne_of_none hr2 ha
    have hrd : r ≠ dx := ne_of_none hr2 hdx
    have hpa : p ≠ a := ne_of_none hp2 ha
    have hpd : p ≠ dx := ne_of_none hp2 hdx
    have keep : ∀ b o, H2 b = some o → H3 b = some o := fun b o h => by
      have n1 := ne_of_none h ha
      refine s3 b o n1 ?_
      rw [upd_ne n1, upd_ne (ne_of_none h hdx)]
      exact h
    have live : ∀ b o, H2 b = some o → b ≠ A ∧ b ≠ C := fun b o h => by
      have e : upd (upd H2 dx (.own a)) a (.ins (CNd K) dx []) b = some o := by
        rw [upd_ne (ne_of_none h ha), upd_ne (ne_of_none h hdx)]
        exact h
      exact ⟨ne_of_none e hA, ne_of_none e hC⟩
    have hr3 := keep _ _ hr2
    have hp3 := keep _ _ hp2
    have s4 : Same H0 H3 := fun b o h => keep b o (s2 b o h)
    have h0a : H0 a = none := s2.free ha
    have h0A : H0 A = none := by
      cases e : H0 A with
      | none => rfl
      | some o => exact absurd rfl (live _ _ (s2 _ _ e)).1
    have h0C : H0 C = none := by
      cases e : H0 C with
      | none => rfl
      | some o => exact absurd rfl (live _ _ (s2 _ _ e)).2
    obtain ⟨rA, rC⟩ := live _ _ hr2
    obtain ⟨pA, pC⟩ := live _ _ hp2
    refine ⟨_, rfl, r, CRd K, dxr, _, rfl, hr3, cls_Reader T, na_Reader_root T, (by show 1 < 1000; decide), ?_⟩
    have e5 : putF "root" (.ref a) [(("scan" : Str), V.ref p)] = ([(("scan" : Str), V.ref p), (("root" : Str), V.ref a)] : List (Str × V)) := by
      rw [put_skip (by decide +kernel), put_new]
    rw [e5]
    refine ⟨_, rfl, r, CRd K, dxr, _, .ref a, rfl, upd_same, cls_Reader T, na_Reader_root T, (lk_skip (by decide +kernel)).trans lk_hit, _, rfl, r, CRd K, dxr, _, rfl, upd_same, cls_Reader T, na_Reader_here T, (by show 2 < 1000; decide), ?_⟩
    have e6 : putF "here" (.ref a) [(("scan" : Str), V.ref p), (("root" : Str), V.ref a)] = ([(("scan" : Str), V.ref p), (("root" : Str), V.ref a), (("here" : Str), V.ref a)] : List (Str × V)) := by
      rw [put_skip (by decide +kernel), put_skip (by decide +kernel), put_new]
    rw [e6, upd_upd]
    refine ⟨_, rfl, r, CRd K, dxr, _, rfl, upd_same, cls_Reader T, na_Reader_has_outermost T, (by show 3 < 1000; decide), ?_⟩
    have e7 : putF "has_outermost" (.bl false) [(("scan" : Str), V.ref p), (("root" : Str), V.ref a), (("here" : Str), V.ref a)] = ([(("scan" : Str), V.ref p), (("root" : Str), V.ref a), (("here" : Str), V.ref a), (("has_outermost" : Str), V.bl false)] : List (Str × V)) := by
      rw [put_skip (by decide +kernel), put_skip (by decide +kernel), put_skip (by decide +kernel), put_new]
    rw [e7, upd_upd]
    refine ⟨Nat.zero_le _, fun L hL => ?_⟩
    have hrL : r ≠ L := fun e => by
      rw [← e, upd_same] at hL
      cases hL
    have hL3 : H3 L = none := by
      rw [upd_ne (Ne.symm hrL)] at hL
      exact hL
    refine ⟨_, rfl, r, CRd K, dxr, _, rfl, (by rw [upd_ne hrL, upd_same]), cls_Reader T, na_Reader_pieces T, (by show 4 < 1000; decide), ?_⟩
    have e8 : putF "pieces" (.ref L) [(("scan" : Str), V.ref p), (("root" : Str), V.ref a), (("here" : Str), V.ref a), (("has_outermost" : Str), V.bl false)] = rdF p a a false L := by
      rw [put_skip (by decide +kernel), put_skip (by decide +kernel), put_skip (by decide +kernel), put_skip (by decide +kernel), put_new]
      rfl
    rw [e8]
    have pL : p ≠ L := ne_of_none hp3 hL3
    have aL : a ≠ L := ne_of_none f1 hL3
    have AL : A ≠ L := ne_of_none f2 hL3
    have CL : C ≠ L := ne_of_none f3 hL3
    refine kk _ p dxp ⟨H0, L, [], ⟨a, A, C, dx, [], .str (Str.ofString "root"), .non, .str (Str.ofString ""), .non, .non, .int 0, [], []⟩, [], ?_, Nat.le_refl _, rfl, fun x hx => by cases hx⟩
    have look : ∀ b o, b ≠ r → b ≠ L → H3 b = some o → upd (upd (upd H3 r (.ins (CRd K) dxr [("scan", .ref p), ("root", .ref a), ("here", .ref a), ("has_outermost", .bl false)])) L (.lst [])) r (.ins (CRd K) dxr (rdF p a a false L)) b = some o := fun b o n1 n2 h => by
      rw [upd_ne n1, upd_ne n2, upd_ne n1]
      exact h
    exact { s0 := Same.refl _, s1 := fun b o h => look b o (ne_of_none h h0r) (ne_of_none (s4 _ _ h) hL3) (s4 _ _ h), cr := h0r, cp := h0p, cL := s4.free hL3,
            cf := by
              intro b hb
              simp only [adrs, List.nil_append, List.flatMap_cons, List.flatMap_nil, List.append_nil, Fr.ad, List.mem_cons, List.not_mem_nil, or_false] at hb
              rcases hb with rfl | rfl | rfl
              · exact h0a
              · exact h0A
              · exact h0C
            rd := upd_same, sc := look _ _ (Ne.symm hpr) pL hp3, pc := by rw [upd_ne (Ne.symm hrL), upd_same]; rfl, pn := ⟨Nat.zero_le _, Nat.zero_le _⟩,
            nd := by
              simp only [adrs, List.nil_append, List.flatMap_cons, List.flatMap_nil, List.append_nil, Fr.ad, List.nodup_cons, List.mem_cons, List.not_mem_nil, or_false, not_or, List.nodup_nil, and_true, not_false_eq_true]
              exact ⟨⟨hpr, hrL, hra, rA, rC⟩, ⟨pL, hpa, pA, pC⟩, ⟨Ne.symm aL, Ne.symm AL, Ne.symm CL⟩, ⟨Ne.symm nA, Ne.symm nC⟩, nAC⟩
            hh := fun g hg => by cases hg
            ch := ⟨⟨look _ _ (Ne.symm hra) aL f1, look _ _ (Ne.symm rA) AL f2, look _ _ (Ne.symm rC) CL f3, fun v hv => (by cases hv), fun x hx => (by cases hx)⟩, rfl, rfl⟩
            gd := g, hi := Nat.zero_le _ }
end
end K2
/-! K02Rg -/
namespace K2
open PySem PySem.Spec PyProof.Rows L2 TL
section
variable {P : Program} {w : World} {K : PySem.W.Frag} {mg : Str → Option Value} {base : Heap}
abbrev CBv (K : PySem.W.Frag) : Addr := CB K
def spRead (K : PySem.W.Frag) : Sp := fun vs H Q E =>
  (∃ z : Str, vs = [.str z] ∧ Gd z ∧ ((docN (tl z)).2 = true → ∀ H' t, Same H H' → Q (.ref t) H') ∧ ((docN (tl z)).2 = false → ∀ H' d, FlR H H' d (docN (tl z)).1 → E (.ref (CN K)) (some d) H')) ∨
  (∃ (x : V) (t : Value), vs = [x] ∧ TyX K H x t ∧ PySem.W.kitOne K t (.type "str") = some false ∧ ∀ d y, H d = none → E (.ref (CB K)) (some d) (upd H d (.xd [("why", y)])))
theorem ok_read (T : Tx w K mg) : ∃ fd, FnOk P w K mg base (L2.CX P w) 13 (He.fAd K d_read.at_) fd p_read (spRead K) ∧ Binds K fd p_read [] ∧ PySem.W.keepIn K (.ref (He.fAd K d_read.at_)) = true := by
  obtain ⟨fd, F⟩ := f_read T
  obtain ⟨fE, GE, bE, kE⟩ := ok_end_of_signs (P := P) (base := base) T
  obtain ⟨fI, GI, bI, kI⟩ := ok_Reader_init (P := P) (base := base) T
  obtain ⟨fD, GD, bD, kD⟩ := ok_read_document (P := P) (base := base) T
  refine ⟨fd, ?_, b_read F, F.kp⟩
  refine F.ok sc_read (fun vs H Q E h => ?_) (fun cdv A outer s H vs Q E hr h => ?_)
  · rcases h with ⟨z, rfl, _⟩ | ⟨x, t, rfl, _⟩ <;> rfl
  · have nd := sc_read.nd
    refine ⟨_, pss_cons (ps_if (pt_not (pt_val (pe_callB call_isi (by rfl) (n_isinstance T) boot_isinstance (pa_cons (pv 0) (pa_cons (pe_bltn (v := .ty "str") (by rfl) (n_str T) boot_str rfl) pa_nil)))))
        (pss_one (ps_raise rfl (takes_of rfl rfl rfl rfl) (pmk_bv T (hr.mono (by decide)) (pa_cons pe_str pa_nil)))) pss_nil)
      (pss_cons (ps_set (i := 1) nd rfl (.inl rfl) (pe_call (E := E0) GE (hr.mono (by decide)) rfl (g_end_of_signs T) kE bE .nil pass0 (pa_cons (pv 0) pa_nil)))
      (pss_cons (ps_set (i := 2) nd rfl (.inl rfl) (pe_meth0 (E := E) (pe_make (E := E0) (mk_Reader T) GI (hr.mono (by decide)) rfl (g_Reader T) bI .nil pass0 (pa_cons (pe_slice sl_str (pv 0) po_none (po_some (pv 1))) pa_nil))
        (cls_Reader T) (m_Reader_read_document T) GD (hr.mono (by decide)) bD .nil (passes_call (takes_of rfl rfl rfl rfl) (fun _ _ _ _ h => h))))
      (pss_cons (ps_if (pt_cmpR op_lt (pv 1) (pe_callB call_len (by rfl) (n_len T) PySem.boot_len (pa_cons (pv 0) pa_nil)) (nomark _)) (pss_one (ps_raise rfl (takes_of rfl rfl rfl rfl) (pmk_nd T (hr.mono (by decide)) (pa_cons (pv 1) pa_nil)))) pss_nil)
      (pss_one (ps_ret (pv 2)))))), ?_⟩
    rcases h with ⟨z, rfl, g, kok, kno⟩ | ⟨x, t, rfl, hty, hk, kE⟩
    · refine ⟨_, rfl, _, _, _, _, true, rfl, .ty "str", .base (.str z), kit_ty (by decide), _, rfl, ?_⟩
      refine iteF ?_
      refine ⟨_, rfl, z, rfl, g.sg, ?_, fun H1 s1 => ?_⟩
      · rw [sizeLine_eq]
        have := g.len
        omega
      refine ⟨_, rfl, _, rfl, _, rfl, z, rfl, g.line, ?_⟩
      rw [cut_all]
      intro r dxr hr0 hd0 hne
      show spRdInit K [.ref r, .str z] (upd (upd H1 dxr (.own r)) r (.ins (CRd K) dxr [])) _ _
      refine ⟨H1, r, dxr, z, rfl, upd_same, ?_, hr0, g, fun H2 p dxp hR => ⟨rfl, ?_⟩⟩
      · intro b o e
        rw [upd_ne (ne_of_none e hr0), upd_ne (ne_of_none e hd0)]
        exact e
      have hR' := hR
      obtain ⟨HC, L, ys, f, fr, q, hw, hst, hnl⟩ := hR
      refine ⟨r, dxr, _, rfl, q.rd, rd_no (by decide +kernel), H1, r, dxr, p, dxp, z, rfl, hR', fun e3 H3 t s3 => ?_, fun e3 H3 d fl => ?_⟩
      · refine ⟨_, rfl, _, rfl, _, _, rfl, ⟨g.line, rfl⟩, _, _, rfl, rfl, _, rfl, ?_⟩
        show if decide (((z.length : Nat) : Int) < ((z.length : Nat) : Int)) = true then _ else _
        rw [decide_eq_false (by omega)]
        refine iteF ?_
        exact ⟨_, rfl, kok e3 H3 t (s1.trans s3)⟩
      · exact kno e3 H3 d ⟨s1.trans fl.1, fl.2⟩
    · refine ⟨_, rfl, _, _, _, _, false, rfl, .ty "str", hty, hk, _, rfl, ?_⟩
      refine iteT ?_
      exact bv_ok fun d hd => kE d _ hd
end
end K2
/-! K02La -/
namespace K2
open PySem PySem.Spec PyProof.Rows L2 TL
/-! ### the law's reader -/
def rP (H : Hp) (Q : VK) (n : Nat) (b : Bool) : Prop := ∀ H' t, Same H H' → H' t = some (.tup [.int (n : Int), .bl b]) → Q (.ref t) H'
theorem mem_eq {l : List Nat} {p : Nat → Bool} (h1 : (List.range 128).all (fun c => decide (c ∈ l) == p c) = true) (h2 : l.all (fun c => decide (c < 128)) = true) (h3 : ∀ c, 128 ≤ c → p c = false) (c : Nat) : decide (c ∈ l) = p c := by
  by_cases h : c < 128
  · have := List.all_eq_true.mp h1 c (List.mem_range.mpr h)
    exact eq_of_beq this
  · rw [h3 c (by omega)]
    refine decide_eq_false fun hc => ?_
    have := List.all_eq_true.mp h2 c hc
    exact h (of_decide_eq_true this)
section
variable {P : Program} {w : World} {K : PySem.W.Frag} {mg : Str → Option Value} {base : Heap}
theorem isLt_hi (c : Nat) (h : 128 ≤ c) : isLt c = false := by
  unfold isLt
  have a1 : decide (c ≤ 122) = false := decide_eq_false (by omega)
  have a2 : decide (c ≤ 90) = false := decide_eq_false (by omega)
  have a3 : (c == 95) = false := by simp; omega
  rw [a1, a2, a3]
  simp
theorem isSg_hi (c : Nat) (h : 128 ≤ c) : isSg c = false := by
  unfold isSg
  have a1 : decide (c ≤ 126) = false := decide_eq_false (by omega)
  have a2 : (c == 9) = false := by simp; omega
  have a3 : (c == 10) = false := by simp; omega
  rw [a1, a2, a3]
  simp
theorem ok_Lletter (T : Tx w K mg) : Ok P w K mg base CX0 1 (He.fAd K d_Lletter.at_) p_Lletter (spSg isLt) := by
  obtain ⟨fd, F⟩ := f_Lletter T
  refine ⟨fd, ?_, b_Lletter F, F.kp⟩
  refine F.ok sc_Lletter (fun vs H Q E h => ?_) (fun cdv A outer s H vs Q E hr h => ?_)
  · obtain ⟨l, rfl, _⟩ := h
    rfl
  · obtain ⟨l, rfl, k⟩ := h
    refine ⟨_, PSs.nox (pss_one (ps_ret (pe_and (pe_cmpR op_ne (pv 0) pe_str (nomark _)) (pe_one (pe_cmpR op_in_sign (pv 0) pe_str (by rfl)))))), ?_⟩
    refine ⟨_, rfl, rfl, _, rfl, ?_⟩
    cases l with
    | nil =>
      refine iteF ?_
      exact k _ (Same.refl _)
    | cons c r =>
      show if (!decide (V.str (sg (c :: r)) = V.str (Str.ofString ""))) = true then _ else _
      have e : decide (V.str (sg (c :: r)) = V.str (Str.ofString "")) = false := by
        rw [dec_str, lit (s := "") (l := [])]
        exact decide_eq_false (fun h => List.cons_ne_nil c [] h)
      rw [e]
      refine iteT ?_
      refine ⟨_, rfl, c, _, rfl, rfl, ?_⟩
      have em := mem_eq (l := (Str.ofString "abcdefghijklmnopqrstuvwxyzABCDEFGHIJKLMNOPQRSTUVWXYZ_").cps.toList) (p := isLt) (by decide +kernel) (by decide +kernel) isLt_hi c
      rw [em]
      exact k _ (Same.refl _)
theorem ok_Lis_sign (T : Tx w K mg) : Ok P w K mg base CX0 1 (He.fAd K d_Lis_sign.at_) p_Lis_sign (spSg isSg) := by
  obtain ⟨fd, F⟩ := f_Lis_sign T
  refine ⟨fd, ?_, b_Lis_sign F, F.kp⟩
  refine F.ok sc_Lis_sign (fun vs H Q E h => ?_) (fun cdv A outer s H vs Q E hr h => ?_)
  · obtain ⟨l, rfl, _⟩ := h
    rfl
  · obtain ⟨l, rfl, k⟩ := h
    refine ⟨_, PSs.nox (pss_one (ps_ret (pe_and (pe_cmpR op_ne (pv 0) pe_str (nomark _)) (pe_one (pe_or (pe_cmpR op_in_sign (pv 0) pe_str (by rfl))
      (pe_one (pe_chain op_le op_le pe_int (pe_callB call_ord (by rfl) (n_ord T) boot_ord (pa_cons (pv 0) pa_nil)) pe_int))))))), ?_⟩
    refine ⟨_, rfl, rfl, _, rfl, ?_⟩
    cases l with
    | nil =>
      refine iteF ?_
      exact k _ (Same.refl _)
    | cons c r =>
      show if (!decide (V.str (sg (c :: r)) = V.str (Str.ofString ""))) = true then _ else _
      have e : decide (V.str (sg (c :: r)) = V.str (Str.ofString "")) = false := by
        rw [dec_str, lit (s := "") (l := [])]
        exact decide_eq_false (fun h => List.cons_ne_nil c [] h)
      rw [e]
      refine iteT ?_
      refine ⟨_, rfl, c, _, rfl, rfl, _, rfl, ?_⟩
      have h9 : decide (c ∈ (Str.ofString "\t\n").cps.toList) = (c == 9 || c == 10) := by
        rw [show (Str.ofString "\t\n").cps.toList = [9, 10] by rfl]
        simp
        rfl
      rw [h9]
      have hs : hB isSg (c :: r) = ((c == 9 || c == 10) || (decide (32 ≤ c) && decide (c ≤ 126))) := by
        show ((decide (32 ≤ c) && decide (c ≤ 126)) || c == 9 || c == 10) = _
        cases decide (32 ≤ c) <;> cases decide (c ≤ 126) <;> cases c == 9 <;> cases c == 10 <;> rfl
      rw [hs] at k
      cases e9 : (c == 9 || c == 10) with
      | true =>
        refine iteT ?_
        rw [e9] at k
        exact k _ (Same.refl _)
      | false =>
        refine iteF ?_
        rw [e9, Bool.false_or] at k
        refine ⟨_, rfl, _, rfl, rfl, _, _, rfl, rfl, _, rfl, ?_⟩
        show if decide ((32 : Int) ≤ ((c : Nat) : Int)) = true then _ else _
        have e1 : decide ((32 : Int) ≤ ((c : Nat) : Int)) = decide (32 ≤ c) := by
          by_cases h : 32 ≤ c
          · rw [decide_eq_true h, decide_eq_true (by omega)]
          · rw [decide_eq_false h, decide_eq_false (by omega)]
        have e2 : decide (((c : Nat) : Int) ≤ (126 : Int)) = decide (c ≤ 126) := by
          by_cases h : c ≤ 126
          · rw [decide_eq_true h, decide_eq_true (by omega)]
          · rw [decide_eq_false h, decide_eq_false (by omega)]
        rw [e1]
        cases e3 : decide (32 ≤ c) with
        | true =>
          refine iteT ?_
          rw [e3, Bool.true_and] at k
          refine ⟨_, _, rfl, rfl, ?_⟩
          show Q (.bl (decide (((c : Nat) : Int) ≤ (126 : Int)))) H
          rw [e2]
          exact k _ (Same.refl _)
        | false =>
          refine iteF ?_
          rw [e3, Bool.false_and] at k
          exact k _ (Same.refl _)
theorem cp_at {z : Str} {i c : Nat} {r : List Nat} (h : (tl z).drop i = c :: r) : atI z.cps.toList (i : Int) = some c := by
  refine atI_nat ?_
  show (tl z)[i]? = some c
  have h1 : ((tl z).drop i)[0]? = some c := by rw [h]; rfl
  rw [List.getElem?_drop, Nat.add_zero] at h1
  exact h1
theorem isBl_hi (c : Nat) (h : 128 ≤ c) : isBl c = false := by
  unfold isBl
  have a1 : (c == 32) = false := by simp; omega
  have a2 : (c == 9) = false := by simp; omega
  have a3 : (c == 10) = false := by simp; omega
  rw [a1, a2, a3]
  rfl
theorem len_lt {z : Str} {i : Nat} (h : i ≤ z.length) : decide (((i : Nat) : Int) < ((z.length : Nat) : Int)) = !((tl z).drop i).isEmpty := by
  have hlen : z.length = (tl z).length := len_tl z
  cases y : (tl z).drop i with
  | nil =>
    have := congrArg List.length y
    rw [List.length_drop, List.length_nil] at this
    rw [decide_eq_false (by omega)]
    rfl
  | cons c r =>
    have := congrArg List.length y
    rw [List.length_drop, List.length_cons] at this
    rw [decide_eq_true (by omega)]
    rfl
def spLbl : Sp := fun vs H Q _ => ∃ (z : Str) (i : Nat), vs = [.str z, .int i] ∧ Gd z ∧ i ≤ z.length ∧ Q (.int ((i + blN ((tl z).drop i) : Nat) : Int)) H
theorem ok_Lblank (T : Tx w K mg) : Ok P w K mg base CX0 1 (He.fAd K d_Lblank.at_) p_Lblank spLbl := by
  obtain ⟨fd, F⟩ := f_Lblank T
  refine ⟨fd, ?_, b_Lblank F, F.kp⟩
  refine F.ok sc_Lblank (fun vs H Q E h => ?_) (fun cdv A outer s H vs Q E hr h => ?_)
  · obtain ⟨z, i, rfl, _⟩ := h
    rfl
  · obtain ⟨z, i, rfl, g, hi, k⟩ := h
    have nd := sc_Lblank.nd
    have hlen : z.length = (tl z).length := len_tl z
    refine ⟨_, PSs.nox (pss_cons (ps_while PassesOwn.never (pw_and (pt_cmpR op_lt (pv 1) (pe_callB call_len (by rfl) (n_len T) PySem.boot_len (pa_cons (pv 0) pa_nil)) (nomark _)) (pw_and1 (pt_cmpR op_in_sign (pe_ix ix_str (pv 0) (pv 1) (fun _ _ => rfl)) pe_str (by rfl)))).pt
      (pss_one (ps_set (i := 1) nd rfl (.inl rfl) (pe_op op_add (pv 1) pe_int)))) (pss_one (ps_ret (pv 1)))), ?_⟩
    refine while_x (fun mm σ H2 => ∃ (j : Nat), mm = z.length - j ∧ σ = [some (V.str z), some (.int (j : Int))] ∧ H2 = H ∧ j ≤ z.length ∧ i + blN ((tl z).drop i) = j + blN ((tl z).drop j))
      (fun σ H2 => σ = [some (V.str z), some (.int ((i + blN ((tl z).drop i) : Nat) : Int))] ∧ H2 = H) ⟨_, i, rfl, rfl, rfl, hi, rfl⟩ ?_ ?_
    · rintro σ H2 ⟨rfl, rfl⟩
      exact ⟨_, rfl, k⟩
    · rintro - mm σ H2 R ⟨j, rfl, rfl, rfl, hj, e⟩ hfin hbody
      refine ⟨_, rfl, _, rfl, _, _, rfl, ⟨g.line, rfl⟩, _, _, rfl, rfl, _, rfl, ?_⟩
      show if decide (((j : Nat) : Int) < ((z.length : Nat) : Int)) = true then _ else _
      rw [len_lt hj]
      cases hl : (tl z).drop j with
      | nil =>
        refine iteF ?_
        refine hfin _ ⟨?_, rfl⟩
        rw [e, hl]
        rfl
      | cons c r =>
        refine iteT ?_
        refine ⟨_, rfl, _, rfl, z, (j : Int), c, rfl, rfl, g.line, cp_at hl, c, _, rfl, rfl, _, rfl, ?_⟩
        show R (decide (c ∈ (Str.ofString " \t\n").cps.toList)) H2
        rw [mem_eq (p := isBl) (by decide +kernel) (by decide +kernel) isBl_hi c]
        have hb : blN (c :: r) = if isBl c then blN r + 1 else 0 := blN_cons c r
        cases hc : isBl c with
        | false =>
          refine hfin _ ⟨?_, rfl⟩
          rw [e, hl, hb, hc]
          rfl
        | true =>
          refine hbody _ ?_
          have hdj := drop_cons hl
          refine ⟨_, rfl, _, _, rfl, rfl, ?_⟩
          refine ⟨z.length - (j + 1), by omega, j + 1, rfl, ?_, rfl, by omega, ?_⟩
          · show [some (V.str z), some (.int ((j : Int) + 1))] = _
            rw [show ((j : Int) + 1) = ((j + 1 : Nat) : Int) by omega]
          · rw [e, hl, hb, hc, hdj.2, if_pos rfl]
            omega
/-- the law's exact -/
def spLex : Sp := fun vs H Q _ => ∃ (z W : Str) (i : Nat), vs = [.str z, .int i, .str W] ∧ Gd z ∧ i ≤ z.length ∧ rP H Q (i + (exN (tl W) ((tl z).drop i)).1) (exN (tl W) ((tl z).drop i)).2
theorem ok_Lexact (T : Tx w K mg) : Ok P w K mg base CX0 1 (He.fAd K d_Lexact.at_) p_Lexact spLex := by
  obtain ⟨fd, F⟩ := f_Lexact T
  refine ⟨fd, ?_, b_Lexact F, F.kp⟩
  refine F.ok sc_Lexact (fun vs H Q E h => ?_) (fun cdv A outer s H vs Q E hr h => ?_)
  · obtain ⟨z, W, i, rfl, _⟩ := h
    rfl
  · obtain ⟨z, W, i, rfl, g, hi, kk⟩ := h
    have nd := sc_Lexact.nd
    have hlen : z.length = (tl z).length := len_tl z
    refine ⟨_, PSs.nox (pss_cons (ps_for PassesOwn.never rfl (pi_str (pv 2)) (pg_name (i := 3) nd rfl (.inl rfl))
      (pss_cons (ps_if (pt_cmpR op_ne (pe_slice sl_str (pv 0) (po_some (pv 1)) (po_some (pe_op op_add (pv 1) pe_int))) (pv 3) (nomark _)) (pss_one (ps_ret (pe_tup (pa_cons (pv 1) (pa_cons pe_bl pa_nil))))) pss_nil)
      (pss_one (ps_set (i := 1) nd rfl (.inl rfl) (pe_op op_add (pv 1) pe_int))))) (pss_one (ps_ret (pe_tup (pa_cons (pv 1) (pa_cons pe_bl pa_nil)))))), ?_⟩
    refine ⟨_, rfl, W, rfl, for_it walk_str (fun k σ H1 => H1 = H ∧ (∃ v, σ = [some (.str z), some (.int ((i + k : Nat) : Int)), some (.str W), v]) ∧ i + k ≤ z.length ∧
      exN (tl W) ((tl z).drop i) = ((exN ((tl W).drop k) ((tl z).drop (i + k))).1 + k, (exN ((tl W).drop k) ((tl z).drop (i + k))).2)) ⟨rfl, ⟨none, rfl⟩, hi, rfl⟩ (fun _ _ _ _ _ => trivial) ?_ ?_⟩
    · rintro k x σ H1 H2 hk ⟨rfl, ⟨v, rfl⟩, hb, e⟩ ⟨rfl, c, hc, rfl⟩
      have hW : (tl W).drop k = c :: (tl W).drop (k + 1) := by
        have h1 : (tl W)[k]? = some c := by
          show W.cps.toList[k]? = some c
          rw [Array.getElem?_toList]
          exact hc
        have h2 : k < (tl W).length := by
          cases q : (tl W)[k]? with
          | none => rw [q] at h1; cases h1
          | some y => exact (List.getElem?_eq_some_iff.mp q).1
        rw [List.drop_eq_getElem_cons h2]
        congr 1
        rw [List.getElem?_eq_getElem h2] at h1
        exact Option.some.inj h1
      refine ⟨_, rfl, _, rfl, _, rfl, _, rfl, _, _, rfl, rfl, _, rfl, z, rfl, g.line, ?_⟩
      rw [cut_one]
      refine ⟨_, rfl, rfl, _, rfl, ?_⟩
      show if (!decide (V.str (sg ((tl z).drop (i + k))) = V.str ⟨#[c]⟩)) = true then _ else _
      rw [sg_is]
      refine ite2 (fun q => ?_) (fun q => ?_)
      · have q1 : ¬ hB (· == c) ((tl z).drop (i + k)) = true := by
          intro z2
          rw [z2] at q
          cases q
        have e2 : exN (tl W) ((tl z).drop i) = (k, false) := by
          rw [e, hW]
          cases y : (tl z).drop (i + k) with
          | nil => simp [exN]
          | cons d r =>
            have : ¬ d = c := fun z3 => hB_false q1 r (by rw [y, z3])
            simp [exN, this]
        rw [e2] at kk
        exact ⟨_, rfl, (by show 2 ≤ sizeLine; decide), fun p hp => kk _ p (same_new hp) upd_same⟩
      · have q1 : hB (· == c) ((tl z).drop (i + k)) = true := by
          cases y : hB (· == c) ((tl z).drop (i + k)) with
          | true => rfl
          | false =>
            rw [y] at q
            exact absurd rfl q
        obtain ⟨r, hr2⟩ := hB_true q1
        obtain ⟨h1, h2⟩ := drop_cons hr2
        refine ⟨_, rfl, _, _, rfl, rfl, ?_⟩
        refine ⟨rfl, ⟨some (.str ⟨#[c]⟩), ?_⟩, by omega, ?_⟩
        · show [some (V.str z), some (.int (((i + k : Nat) : Int) + 1)), some (.str W), some (V.str ⟨#[c]⟩)] = _
          rw [show (((i + k : Nat) : Int) + 1) = ((i + (k + 1) : Nat) : Int) by omega]
        · rw [e, hW, hr2, exN_cons, if_pos rfl, show i + (k + 1) = i + k + 1 by omega, h2]
          dsimp only
          rw [Nat.add_assoc, Nat.add_comm 1 k]
    · rintro σ H1 ⟨rfl, ⟨v, rfl⟩, hb, e⟩
      have e2 : exN (tl W) ((tl z).drop i) = (W.cps.size, true) := by
        have h1 : (tl W).drop W.cps.size = [] := List.drop_of_length_le (Nat.le_of_eq (by show W.cps.toList.length = _; rw [Array.length_toList]))
        rw [e, h1]
        show (0 + _, true) = _
        rw [Nat.zero_add]
      rw [e2] at kk
      exact ⟨_, rfl, (by show 2 ≤ sizeLine; decide), fun p hp => kk _ p (same_new hp) upd_same⟩
end
end K2
/-! K02Lb -/
namespace K2
open PySem PySem.Spec PyProof.Rows L2 TL
theorem wrN_of {l : List Nat} (h : hB isLt l = true) : wrN l = (wdN l, true) := by
  cases l with
  | nil => cases h
  | cons c r =>
    have h' : isLt c = true := h
    have hw : isWd c = true := by
      unfold isWd
      rw [h']
      rfl
    rw [wdN_cons, if_pos hw]
    show (if isLt c = true then (1 + wdN r, true) else (0, false)) = _
    rw [if_pos h', Nat.add_comm]
theorem wrN_no {l : List Nat} (h : hB isLt l = false) : wrN l = (0, false) := by
  cases l with
  | nil => rfl
  | cons c r =>
    have h' : isLt c = false := h
    show (if isLt c = true then (1 + wdN r, true) else (0, false)) = _
    rw [h']
    rfl
section
variable {P : Program} {w : World} {K : PySem.W.Frag} {mg : Str → Option Value} {base : Heap}
theorem isTail_hi (c : Nat) (h : 128 ≤ c) : (48 ≤ c && c ≤ 57 || c == 45 || c == 46) = false := by
  have a1 : decide (c ≤ 57) = false := decide_eq_false (by omega)
  have a2 : (c == 45) = false := by simp; omega
  have a3 : (c == 46) = false := by simp; omega
  rw [a1, a2, a3]
  simp
def spLp (f : List Nat → Nat × Bool) : Sp := fun vs H Q _ => ∃ (z : Str) (i : Nat), vs = [.str z, .int i] ∧ Gd z ∧ i ≤ z.length ∧ rP H Q (i + (f ((tl z).drop i)).1) (f ((tl z).drop i)).2
theorem rP.mono {H H' : Hp} {Q : VK} {n m : Nat} {b : Bool} (h : rP H Q n b) (s : Same H H') (e : n = m) : rP H' Q m b := by
  subst e
  exact fun H2 t s2 ht => h H2 t (s.trans s2) ht
theorem ok_Lname (T : Tx w K mg) : Ok P w K mg base CX0 2 (He.fAd K d_Lname.at_) p_Lname (spLp nmN) := by
  obtain ⟨fd, F⟩ := f_Lname T
  obtain ⟨fL, GL, bL, kL⟩ := ok_Lletter (P := P) (base := base) T
  refine ⟨fd, ?_, b_Lname F, F.kp⟩
  refine F.ok sc_Lname (fun vs H Q E h => ?_) (fun cdv A outer s H vs Q E hr h => ?_)
  · obtain ⟨z, i, rfl, _⟩ := h
    rfl
  · obtain ⟨z, i, rfl, g, hi, kk⟩ := h
    have nd := sc_Lname.nd
    have hlen : z.length = (tl z).length := len_tl z
    refine ⟨_, PSs.nox (pss_cons (ps_for PassesOwn.never rfl (pi_range1 (by rfl) (n_range T) (pa_cons pe_int pa_nil)) (pg_name (i := 2) nd rfl (.inl rfl))
      (pss_cons (ps_if (pt_not (pt_val (pe_call (E := E0) GL (hr.mono (by decide)) (by rfl) (g_Lletter T) kL bL .nil pass0 (pa_cons (pe_slice sl_str (pv 0) (po_some (pv 1)) (po_some (pe_op op_add (pv 1) pe_int))) pa_nil)))) (pss_one (ps_ret (pe_tup (pa_cons (pv 1) (pa_cons pe_bl pa_nil))))) pss_nil)
      (pss_cons (ps_while PassesOwn.never (pw_and (pt_cmpR op_lt (pv 1) (pe_callB call_len (by rfl) (n_len T) PySem.boot_len (pa_cons (pv 0) pa_nil)) (nomark _))
          (pw_and1 (pw_or (pt_val (pe_call (E := E0) GL (hr.mono (by decide)) (by rfl) (g_Lletter T) kL bL .nil pass0 (pa_cons (pe_ix ix_str (pv 0) (pv 1) (fun _ _ => rfl)) pa_nil)))
            (pw_or1 (pt_cmpR op_in_sign (pe_ix ix_str (pv 0) (pv 1) (fun _ _ => rfl)) pe_str (by rfl)))).pt)).pt
        (pss_one (ps_set (i := 1) nd rfl (.inl rfl) (pe_op op_add (pv 1) pe_int))))
      (pss_cons (ps_if (pw_or (pt_cmpR op_eq (pv 2) pe_int (nomark _)) (pw_or1 (pt_cmpR op_ne (pe_slice sl_str (pv 0) (po_some (pv 1)) (po_some (pe_op op_add (pv 1) pe_int))) pe_str (nomark _)))).pt (pss_one (ps_ret (pe_tup (pa_cons (pv 1) (pa_cons pe_bl pa_nil))))) pss_nil)
      (pss_one (ps_set (i := 1) nd rfl (.inl rfl) (pe_op op_add (pv 1) pe_int)))))))
      (pss_one (ps_ret (pe_tup (pa_cons (pv 1) (pa_cons pe_bl pa_nil)))))), ?_⟩
    have ret : ∀ (H1 : Hp) (n : Nat) (b : Bool), Same H H1 → nmN ((tl z).drop i) = (n, b) → ∀ j, j = i + n → ∀ p, H1 p = none → Q (.ref p) (upd H1 p (.tup [.int ((j : Nat) : Int), .bl b])) := by
      intro H1 n b s1 e j hj p hp
      rw [e] at kk
      subst hj
      exact kk _ p (s1.trans (same_new hp)) upd_same
    refine ⟨2, rfl, by decide, by decide, for_it walk_range (fun k σ H1 => Same H H1 ∧ ∃ (j : Nat) (v : Option V), σ = [some (.str z), some (.int (j : Int)), v] ∧ j ≤ z.length ∧ i ≤ j ∧
      ((k = 0 ∧ j = i) ∨ (k = 1 ∧ nmN ((tl z).drop i) = ((j - i) + (wrN ((tl z).drop j)).1, (wrN ((tl z).drop j)).2)))) ⟨Same.refl H, i, none, rfl, hi, Nat.le_refl _, .inl ⟨rfl, rfl⟩⟩ (fun _ _ _ _ _ => trivial) ?_ ?_⟩
    · rintro k x σ H1 H2 hk ⟨s1, j, v, rfl, hj, hij, hcase⟩ ⟨rfl, rfl⟩
      refine ⟨_, rfl, _, rfl, _, rfl, _, rfl, _, _, rfl, rfl, _, rfl, z, rfl, g.line, ?_⟩
      rw [cut_one]
      refine ⟨_, rfl, fun H3 s3 => ⟨_, rfl, ?_⟩⟩
      have s03 := s1.trans s3
      cases hl : hB isLt ((tl z).drop j) with
      | false =>
        refine iteT ?_
        refine ⟨_, rfl, (by show 2 ≤ sizeLine; decide), ?_⟩
        have ew := wrN_no hl
        rcases hcase with ⟨rfl, rfl⟩ | ⟨rfl, e⟩
        · refine ret H3 0 false s03 ?_ j rfl
          unfold nmN
          rw [ew]
        · rw [ew] at e
          exact ret H3 _ false s03 e j (by show j = i + (j - i + 0); omega)
      | true =>
        refine iteF ?_
        have ew := wrN_of hl
        refine while_x (fun mm σ H4 => ∃ j' : Nat, mm = z.length - j' ∧ σ = [some (V.str z), some (.int (j' : Int)), some (.int (0 + (k : Int)))] ∧ Same H H4 ∧ j' ≤ z.length ∧ j + wdN ((tl z).drop j) = j' + wdN ((tl z).drop j'))
          (fun σ H4 => σ = [some (V.str z), some (.int ((j + wdN ((tl z).drop j) : Nat) : Int)), some (.int (0 + (k : Int)))] ∧ Same H H4) ⟨_, j, rfl, rfl, s03, hj, rfl⟩ ?_ ?_
        · rintro σ H4 ⟨rfl, s4⟩
          have hwl := wdN_le ((tl z).drop j)
          rw [List.length_drop] at hwl
          rcases hcase with ⟨rfl, rfl⟩ | ⟨rfl, e⟩
          · refine ⟨_, rfl, rfl, _, rfl, ?_⟩
            refine iteF ?_
            refine ⟨_, rfl, _, rfl, _, rfl, _, rfl, _, _, rfl, rfl, _, rfl, z, rfl, g.line, ?_⟩
            rw [cut_one]
            refine ⟨rfl, _, rfl, ?_⟩
            have ed : (tl z).drop (j + wdN ((tl z).drop j)) = ((tl z).drop j).drop (wdN ((tl z).drop j)) := drop_add
            show if (!decide (V.str (sg ((tl z).drop (j + wdN ((tl z).drop j)))) = V.str (Str.ofString ":"))) = true then _ else _
            rw [sg_lit _ (c := 58), ed]
            cases h58 : hB (· == 58) (((tl z).drop j).drop (wdN ((tl z).drop j))) with
            | false =>
              refine iteT ?_
              refine ⟨_, rfl, (by show 2 ≤ sizeLine; decide), ret H4 _ true s4 ?_ _ rfl⟩
              unfold nmN
              rw [ew]
              dsimp only
              rw [if_neg]
              intro h
              cases y : ((tl z).drop j).drop (wdN ((tl z).drop j)) with
              | nil => rw [y] at h; cases h
              | cons c r =>
                rw [y] at h h58
                have h2 : c = 58 := Option.some.inj h
                subst h2
                cases h58
            | true =>
              refine iteF ?_
              obtain ⟨r, hr2⟩ := hB_true h58
              rw [← ed] at hr2
              have hd2 := drop_cons hr2
              refine ⟨_, rfl, _, _, rfl, rfl, ?_⟩
              refine ⟨s4, j + wdN ((tl z).drop j) + 1, some (.int (0 + ((0 : Nat) : Int))), ?_, by omega, by omega, .inr ⟨rfl, ?_⟩⟩
              · show [some (V.str z), some (.int (((j + wdN ((tl z).drop j) : Nat) : Int) + 1)), _] = _
                rw [show (((j + wdN ((tl z).drop j) : Nat) : Int) + 1) = ((j + wdN ((tl z).drop j) + 1 : Nat) : Int) by omega]
              · have ed2 : (tl z).drop (j + wdN ((tl z).drop j) + 1) = ((tl z).drop j).drop (wdN ((tl z).drop j) + 1) := by rw [Nat.add_assoc, drop_add]
                rw [ed2]
                conv => lhs; unfold nmN
                rw [ew]
                dsimp only
                rw [if_pos (by rw [← ed, hr2]; rfl)]
                rw [show j + wdN ((tl z).drop j) + 1 - j = wdN ((tl z).drop j) + 1 by omega]
          · refine ⟨_, rfl, rfl, _, rfl, ?_⟩
            refine iteT ?_
            refine iteT ?_
            rw [ew] at e
            exact ⟨_, rfl, (by show 2 ≤ sizeLine; decide), ret H4 _ true s4 e _ (by show j + wdN ((tl z).drop j) = i + (j - i + wdN ((tl z).drop j)); omega)⟩
        · rintro - mm σ H4 R ⟨j', rfl, rfl, s4, hj', e'⟩ hfin hbody
          refine ⟨_, rfl, _, rfl, _, _, rfl, ⟨g.line, rfl⟩, _, _, rfl, rfl, _, rfl, ?_⟩
          show if decide (((j' : Nat) : Int) < ((z.length : Nat) : Int)) = true then _ else _
          rw [len_lt hj']
          have body : ∀ c r H5, (tl z).drop j' = c :: r → isWd c = true → Same H H5 → R true H5 := by
            intro c r H5 hl2 hc s5
            refine hbody _ ?_
            have hdj := drop_cons hl2
            refine ⟨_, rfl, _, _, rfl, rfl, ?_⟩
            refine ⟨z.length - (j' + 1), by omega, j' + 1, rfl, ?_, s5, by omega, ?_⟩
            · show [some (V.str z), some (.int ((j' : Int) + 1)), some (.int (0 + (k : Int)))] = _
              rw [show ((j' : Int) + 1) = ((j' + 1 : Nat) : Int) by omega]
            · rw [e', hl2, wdN_cons, if_pos hc, hdj.2]
              omega
          cases hl2 : (tl z).drop j' with
          | nil =>
            refine iteF ?_
            refine hfin _ ⟨?_, s4⟩
            rw [e', hl2]
            rfl
          | cons c r =>
            refine iteT ?_
            refine ⟨_, rfl, _, rfl, z, (j' : Int), c, rfl, rfl, g.line, cp_at hl2, c :: r, rfl, fun H5 s5 => ⟨_, rfl, ?_⟩⟩
            show if isLt c = true then _ else _
            cases hc : isLt c with
            | true =>
              refine iteT ?_
              exact body c r H5 hl2 (by unfold isWd; rw [hc]; rfl) (s4.trans s5)
            | false =>
              refine iteF ?_
              refine ⟨_, rfl, _, rfl, z, (j' : Int), c, rfl, rfl, g.line, cp_at hl2, c, _, rfl, rfl, _, rfl, ?_⟩
              show R (decide (c ∈ (Str.ofString "0123456789-.").cps.toList)) H5
              rw [mem_eq (p := fun c => (48 ≤ c && c ≤ 57 || c == 45 || c == 46)) (by decide +kernel) (by decide +kernel) isTail_hi c]
              have hw : isWd c = (48 ≤ c && c ≤ 57 || c == 45 || c == 46) := by
                unfold isWd
                rw [hc, Bool.false_or]
              rw [← hw]
              cases hcw : isWd c with
              | true => exact body c r H5 hl2 hcw (s4.trans s5)
              | false =>
                refine hfin _ ⟨?_, s4.trans s5⟩
                rw [e', hl2, wdN_cons, hcw]
                rfl
    · rintro σ H1 ⟨s1, j, v, rfl, hj, hij, hcase⟩
      rcases hcase with ⟨h, _⟩ | ⟨h, _⟩ <;> cases h
end
end K2
/-! K02Lc -/
namespace K2
open PySem PySem.Spec PyProof.Rows L2 TL
/-- the law's until -/
def unN (S X l : List Nat) : Nat × Bool := match fdN S l with
  | some j => ((exN X (l.drop j)).1 + j, (exN X (l.drop j)).2)
  | none => (l.length, false)
theorem fdN_none_of {S l : List Nat} (hS : S ≠ []) (h : ∀ k, k < l.length → (l.drop k).take S.length ≠ S) : fdN S l = none := by
  cases e : fdN S l with
  | none => rfl
  | some j =>
    have h1 := (fdN_some e).1
    by_cases hj : j < l.length
    · exact absurd h1 (h j hj)
    · rw [List.drop_of_length_le (by omega), List.take_nil] at h1
      exact absurd h1.symm hS
section
variable {P : Program} {w : World} {K : PySem.W.Frag} {mg : Str → Option Value} {base : Heap}
def spLun : Sp := fun vs H Q _ => ∃ (z W Y : Str) (i : Nat), vs = [.str z, .int i, .str W, .str Y] ∧ Gd z ∧ i ≤ z.length ∧ tl W ≠ [] ∧ W.length ≤ 100 ∧ rP H Q (i + (unN (tl W) (tl Y) ((tl z).drop i)).1) (unN (tl W) (tl Y) ((tl z).drop i)).2
theorem ok_Luntil (T : Tx w K mg) : Ok P w K mg base CX0 2 (He.fAd K d_Luntil.at_) p_Luntil spLun := by
  obtain ⟨fd, F⟩ := f_Luntil T
  obtain ⟨fL, GL, bL, kL⟩ := ok_Lis_sign (P := P) (base := base) T
  obtain ⟨fX, GX, bX, kX⟩ := ok_Lexact (P := P) (base := base) T
  refine ⟨fd, ?_, b_Luntil F, F.kp⟩
  refine F.ok sc_Luntil (fun vs H Q E h => ?_) (fun cdv A outer s H vs Q E hr h => ?_)
  · obtain ⟨z, W, Y, i, rfl, _⟩ := h
    rfl
  · obtain ⟨z, W, Y, i, rfl, g, hi, hW, hW2, kk⟩ := h
    have nd := sc_Luntil.nd
    have hlen : z.length = (tl z).length := len_tl z
    have hlW : W.length = (tl W).length := len_tl W
    refine ⟨_, PSs.nox (pss_cons (ps_while PassesOwn.never (pt_cmpR op_ne (pe_slice sl_str (pv 0) (po_some (pv 1)) (po_some (pe_op op_add (pv 1) (pe_callB call_len (by rfl) (n_len T) PySem.boot_len (pa_cons (pv 2) pa_nil))))) (pv 2) (nomark _))
        (pss_cons (ps_if (pt_not (pt_val (pe_call (E := E0) GL (hr.mono (by decide)) (by rfl) (g_Lis_sign T) kL bL .nil pass0 (pa_cons (pe_slice sl_str (pv 0) (po_some (pv 1)) (po_some (pe_op op_add (pv 1) pe_int))) pa_nil)))) (pss_one (ps_ret (pe_tup (pa_cons (pv 1) (pa_cons pe_bl pa_nil))))) pss_nil)
        (pss_one (ps_set (i := 1) nd rfl (.inl rfl) (pe_op op_add (pv 1) pe_int)))))
      (pss_one (ps_ret (pe_call (E := E0) GX (hr.mono (by decide)) (by rfl) (g_Lexact T) kX bX .nil pass0 (pa_cons (pv 0) (pa_cons (pv 1) (pa_cons (pv 3) pa_nil))))))), ?_⟩
    refine while_x (fun mm σ H1 => ∃ j : Nat, mm = z.length - j ∧ σ = [some (V.str z), some (.int (j : Int)), some (.str W), some (.str Y)] ∧ Same H H1 ∧ i ≤ j ∧ j ≤ z.length ∧ ∀ k, i + k < j → (((tl z).drop i).drop k).take (tl W).length ≠ tl W)
      (fun σ H1 => ∃ j : Nat, σ = [some (V.str z), some (.int (j : Int)), some (.str W), some (.str Y)] ∧ Same H H1 ∧ i ≤ j ∧ j ≤ z.length ∧ fdN (tl W) ((tl z).drop i) = some (j - i)) ⟨_, i, rfl, rfl, Same.refl H, Nat.le_refl _, hi, fun k hk => by omega⟩ ?_ ?_
    · rintro σ H1 ⟨j, rfl, s1, hij, hj, e⟩
      have eu : unN (tl W) (tl Y) ((tl z).drop i) = ((exN (tl Y) ((tl z).drop j)).1 + (j - i), (exN (tl Y) ((tl z).drop j)).2) := by
        unfold unN
        rw [e]
        dsimp only
        rw [← drop_add, show i + (j - i) = j by omega]
      rw [eu] at kk
      refine ⟨_, rfl, _, rfl, _, rfl, z, Y, j, rfl, g, hj, kk.mono s1 (by show i + ((exN (tl Y) ((tl z).drop j)).1 + (j - i)) = j + (exN (tl Y) ((tl z).drop j)).1; omega)⟩
    · rintro - mm σ H1 R ⟨j, rfl, rfl, s1, hij, hj, hno⟩ hfin hbody
      refine ⟨_, rfl, _, rfl, _, rfl, _, rfl, _, rfl, _, _, rfl, ⟨by rw [sizeLine_eq]; omega, rfl⟩, _, _, rfl, rfl, _, rfl, z, rfl, g.line, ?_⟩
      have ec : cutS z (some (j : Int)) (some ((j : Int) + ((W.length : Nat) : Int))) = mkS (((tl z).drop j).take (tl W).length) := by
        rw [show ((j : Int) + ((W.length : Nat) : Int)) = ((j + W.length : Nat) : Int) by omega, cut_nat, show j + W.length - j = (tl W).length by omega]
      refine ⟨_, rfl, rfl, _, rfl, ?_⟩
      show R (!decide (V.str (cutS z (some (j : Int)) (some ((j : Int) + ((W.length : Nat) : Int)))) = V.str W)) H1
      rw [ec, dec_str, tl_mkS]
      have ejj : ((tl z).drop i).drop (j - i) = (tl z).drop j := by rw [← drop_add, show i + (j - i) = j by omega]
      by_cases h : ((tl z).drop j).take (tl W).length = tl W
      · rw [decide_eq_true h]
        refine hfin _ ⟨j, rfl, s1, hij, hj, ?_⟩
        exact fdN_of hW (by rw [ejj]; exact h) fun k hk => hno k (by omega)
      · rw [decide_eq_false h]
        refine hbody _ ?_
        refine ⟨_, rfl, _, rfl, _, rfl, _, rfl, _, _, rfl, rfl, _, rfl, z, rfl, g.line, ?_⟩
        rw [cut_one]
        refine ⟨_, rfl, fun H3 s3 => ⟨_, rfl, ?_⟩⟩
        have no2 : ∀ k, i + k < j + 1 → (((tl z).drop i).drop k).take (tl W).length ≠ tl W := fun k hk => by
          by_cases hk2 : i + k < j
          · exact hno k hk2
          · rw [show k = j - i by omega, ejj]
            exact h
        cases hl : (tl z).drop j with
        | nil =>
          refine iteT ?_
          have hjl := congrArg List.length hl
          rw [List.length_drop, List.length_nil] at hjl
          have eu : unN (tl W) (tl Y) ((tl z).drop i) = (j - i, false) := by
            unfold unN
            rw [fdN_none_of hW fun k hk => no2 k (by rw [List.length_drop] at hk; omega)]
            show (((tl z).drop i).length, false) = _
            rw [List.length_drop, show (tl z).length - i = j - i by omega]
          rw [eu] at kk
          refine ⟨_, rfl, (by show 2 ≤ sizeLine; decide), fun p hp => kk _ p ((s1.trans s3).trans (same_new hp)) ?_⟩
          rw [upd_same]
          show some (HO.tup [.int (j : Int), .bl false]) = some (HO.tup [.int ((i + (j - i) : Nat) : Int), .bl false])
          rw [show i + (j - i) = j by omega]
        | cons c r =>
          have hdj := drop_cons hl
          have hsg : hB isSg (c :: r) = true := g.sg c (List.mem_of_mem_drop (i := j) (by rw [hl]; exact List.mem_cons_self))
          rw [hsg]
          refine iteF ?_
          refine ⟨_, rfl, _, _, rfl, rfl, ?_⟩
          refine ⟨z.length - (j + 1), by omega, j + 1, rfl, ?_, s1.trans s3, by omega, by omega, no2⟩
          show [some (V.str z), some (.int ((j : Int) + 1)), some (.str W), some (.str Y)] = _
          rw [show ((j : Int) + 1) = ((j + 1 : Nat) : Int) by omega]
end
end K2
/-! K02Lv -/
namespace K2
open PySem PySem.Spec PyProof.Rows L2 TL
theorem in_quo (l : List Nat) : inV (.str (sg l)) [.str (Str.ofString "'"), .str (Str.ofString "\"")] = hB (fun c => c == 34 || c == 39) l := by
  show (eqV _ _ || (eqV _ _ || false)) = _
  rw [eqV_str, eqV_str, lit (s := "'") (l := [39]), lit (s := "\"") (l := [34]), tl_mkS, tl_mkS, tl_mkS]
  cases l with
  | nil => rfl
  | cons c r =>
    show (decide ([39] = [c]) || (decide ([34] = [c]) || false)) = (c == 34 || c == 39)
    rw [dec1, dec1, Bool.or_false]
    cases c == 34 <;> cases c == 39 <;> rfl
section
variable {P : Program} {w : World} {K : PySem.W.Frag} {mg : Str → Option Value} {base : Heap}
theorem ok_Lvalue_end (T : Tx w K mg) (hRef : Ok P w K mg base CX0 4 (He.fAd K d_Lreference.at_) p_Lreference (spLp rfN)) : Ok P w K mg base CX0 5 (He.fAd K d_Lvalue_end.at_) p_Lvalue_end (spLp vlN) := by
  obtain ⟨fd, F⟩ := f_Lvalue_end T
  obtain ⟨fL, GL, bL, kL⟩ := ok_Lis_sign (P := P) (base := base) T
  obtain ⟨fR, GR, bR, kR⟩ := hRef
  refine ⟨fd, ?_, b_Lvalue_end F, F.kp⟩
  refine F.ok sc_Lvalue_end (fun vs H Q E h => ?_) (fun cdv A outer s H vs Q E hr h => ?_)
  · obtain ⟨z, i, rfl, _⟩ := h
    rfl
  · obtain ⟨z, i, rfl, g, hi, kk⟩ := h
    have nd := sc_Lvalue_end.nd
    have hlen : z.length = (tl z).length := len_tl z
    refine ⟨_, PSs.nox (pss_cons (ps_set (i := 2) nd rfl (.inl rfl) (pe_slice sl_str (pv 0) (po_some (pv 1)) (po_some (pe_op op_add (pv 1) pe_int))))
      (pss_cons (ps_if (pt_cmpR op_notIn_seq (pv 2) (pe_tup (pa_cons pe_str (pa_cons pe_str pa_nil))) (by rfl)) (pss_one (ps_ret (pe_tup (pa_cons (pv 1) (pa_cons pe_bl pa_nil))))) pss_nil)
      (pss_cons (ps_set (i := 1) nd rfl (.inl rfl) (pe_op op_add (pv 1) pe_int))
      (pss_cons (ps_while PassesOwn.never (pt_cmpR op_ne (pe_slice sl_str (pv 0) (po_some (pv 1)) (po_some (pe_op op_add (pv 1) pe_int))) (pv 2) (nomark _))
        (pss_one (ps_if (pt_cmpR op_eq (pe_slice sl_str (pv 0) (po_some (pv 1)) (po_some (pe_op op_add (pv 1) pe_int))) pe_str (nomark _))
          (pss_cons (ps_asg (pe_call (E := E0) GR (hr.mono (by decide)) (by rfl) (g_Lreference T) kR bR .nil pass0 (pa_cons (pv 0) (pa_cons (pe_op op_add (pv 1) pe_int) pa_nil)))
              (pg_tup (by rfl) (pgs_cons (pg_name (i := 1) nd rfl (.inl rfl)) (pgs_cons (pg_name (i := 3) nd rfl (.inl rfl)) pgs_nil))))
            (pss_one (ps_if (pt_not (pt_val (pv 3))) (pss_one (ps_ret (pe_tup (pa_cons (pv 1) (pa_cons pe_bl pa_nil))))) pss_nil)))
          (pss_one (ps_if (pw_or (pt_cmpR op_eq (pe_slice sl_str (pv 0) (po_some (pv 1)) (po_some (pe_op op_add (pv 1) pe_int))) pe_str (nomark _)) (pw_or1 (pt_not (pt_val (pe_call (E := E0) GL (hr.mono (by decide)) (by rfl) (g_Lis_sign T) kL bL .nil pass0 (pa_cons (pe_slice sl_str (pv 0) (po_some (pv 1)) (po_some (pe_op op_add (pv 1) pe_int))) pa_nil)))))).pt
            (pss_one (ps_ret (pe_tup (pa_cons (pv 1) (pa_cons pe_bl pa_nil)))))
            (pss_one (ps_set (i := 1) nd rfl (.inl rfl) (pe_op op_add (pv 1) pe_int))))))))
      (pss_one (ps_ret (pe_tup (pa_cons (pe_op op_add (pv 1) pe_int) (pa_cons pe_bl pa_nil))))))))), ?_⟩
    have ret : ∀ (H1 : Hp) (n : Nat) (b : Bool), Same H H1 → vlN ((tl z).drop i) = (n, b) → ∀ j : Int, j = ((i + n : Nat) : Int) → ∀ p, H1 p = none → Q (.ref p) (upd H1 p (.tup [.int j, .bl b])) := by
      intro H1 n b s1 e j hj p hp
      rw [e] at kk
      subst hj
      exact kk _ p (s1.trans (same_new hp)) upd_same
    refine ⟨_, rfl, _, rfl, _, rfl, _, rfl, _, _, rfl, rfl, _, rfl, z, rfl, g.line, ?_⟩
    rw [cut_one]
    refine ⟨_, rfl, (by decide), fun t ht => ⟨t, _, rfl, .inr (SqT.of upd_same), rfl, rfl, ?_⟩⟩
    rw [if_pos rfl, in_quo]
    refine ⟨_, rfl, ?_⟩
    have s1 : Same H (upd H t (.tup [.str (Str.ofString "'"), .str (Str.ofString "\"")])) := same_new ht
    generalize upd H t (.tup [.str (Str.ofString "'"), .str (Str.ofString "\"")]) = H1 at s1 ⊢
    cases hq : hB (fun c => c == 34 || c == 39) ((tl z).drop i) with
    | false =>
      refine iteT ?_
      have ev : vlN ((tl z).drop i) = (0, false) := by
        cases y : (tl z).drop i with
        | nil => rfl
        | cons c r =>
          rw [y] at hq
          have hq' : (c == 34 || c == 39) = false := hq
          rw [vlN_cons, if_neg]
          rintro (h | h) <;> (subst h; cases hq')
      exact ⟨_, rfl, (by show 2 ≤ sizeLine; decide), ret H1 0 false s1 ev _ rfl⟩
    | true =>
      refine iteF ?_
      obtain ⟨q, r, hc, hq2⟩ : ∃ q r, (tl z).drop i = q :: r ∧ (q = 34 ∨ q = 39) := by
        cases y : (tl z).drop i with
        | nil => rw [y] at hq; cases hq
        | cons c r =>
          rw [y] at hq
          have hq' : (c == 34 || c == 39) = true := hq
          exact ⟨c, r, rfl, by simpa using hq'⟩
      have hdc := drop_cons hc
      have evl : vlN ((tl z).drop i) = ((vbN q r).1 + 1, (vbN q r).2) := by rw [hc, vlN_cons, if_pos hq2]
      refine ⟨_, rfl, _, _, rfl, rfl, ?_⟩
      rw [hc, sg_cons]
      refine while_x (fun mm σ H2 => ∃ (j : Nat) (v : Option V), mm = z.length - j ∧ σ = [some (V.str z), some (.int (j : Int)), some (.str (mkS [q])), v] ∧ Same H H2 ∧ i + 1 ≤ j ∧ j ≤ z.length ∧ vbN q r = ((vbN q ((tl z).drop j)).1 + (j - (i + 1)), (vbN q ((tl z).drop j)).2))
        (fun σ H2 => ∃ (j : Nat) (v : Option V), σ = [some (V.str z), some (.int (j : Int)), some (.str (mkS [q])), v] ∧ Same H H2 ∧ i + 1 ≤ j ∧ vbN q r = (1 + (j - (i + 1)), true))
        ⟨_, i + 1, none, rfl, rfl, s1, Nat.le_refl _, by omega, by rw [hdc.2, Nat.sub_self, Nat.add_zero]⟩ ?_ ?_
      · rintro σ H2 ⟨j, v, rfl, s2, hij, e2⟩
        rw [e2] at evl
        refine ⟨_, rfl, _, _, rfl, rfl, (by show 2 ≤ sizeLine; decide), ret H2 _ true s2 evl _ (by omega)⟩
      · rintro - mm σ H2 R ⟨j, v, rfl, rfl, s2, hij, hj, e2⟩ hfin hbody
        refine ⟨_, rfl, _, rfl, _, rfl, _, rfl, _, _, rfl, rfl, _, rfl, z, rfl, g.line, ?_⟩
        rw [cut_one]
        refine ⟨_, rfl, rfl, _, rfl, ?_⟩
        show R (!decide (V.str (sg ((tl z).drop j)) = V.str ⟨#[q]⟩)) H2
        rw [sg_is]
        cases hqq : hB (· == q) ((tl z).drop j) with
        | true =>
          obtain ⟨r9, h9⟩ := hB_true hqq
          refine hfin _ ⟨j, v, rfl, s2, hij, ?_⟩
          rw [e2, h9, vbN_cons, if_pos rfl]
        | false =>
          have hnq := hB_false (c := q) (l := (tl z).drop j) (by rw [hqq]; exact Bool.false_ne_true)
          refine hbody _ ?_
          refine ⟨_, rfl, _, rfl, _, rfl, _, rfl, _, _, rfl, rfl, _, rfl, z, rfl, g.line, ?_⟩
          rw [cut_one]
          refine ⟨rfl, _, rfl, ?_⟩
          show if decide (V.str (sg ((tl z).drop j)) = V.str (Str.ofString "&")) = true then _ else _
          rw [sg_lit _ (c := 38)]
          cases h38 : hB (· == 38) ((tl z).drop j) with
          | true =>
            refine iteT ?_
            obtain ⟨r', hr'⟩ := hB_true h38
            have hdj := drop_cons hr'
            have h38q : ¬ 38 = q := fun e => hnq r' (by rw [hr', e])
            have hrl := rfN_le r'
            have hll : r'.length = z.length - (j + 1) := by
              rw [← hdj.2, List.length_drop]
              omega
            rw [hr', vbN_cons, if_neg h38q, if_pos rfl] at e2
            refine ⟨_, rfl, _, rfl, _, _, rfl, rfl, z, j + 1, by show [V.str z, .int ((j : Int) + 1)] = _; rw [show ((j : Int) + 1) = ((j + 1 : Nat) : Int) by omega], g, by omega, fun H3 t3 s3 ht3 => ?_⟩
            rw [hdj.2] at ht3
            refine ⟨t3, _, rfl, SqT.of ht3, rfl, _, _, rfl, _, _, rfl, rfl, ?_⟩
            refine ⟨_, rfl, _, rfl, ?_⟩
            cases h3 : (rfN r').2 with
            | false =>
              refine iteT ?_
              rw [h3, if_neg Bool.false_ne_true] at e2
              rw [e2] at evl
              exact ⟨_, rfl, (by show 2 ≤ sizeLine; decide), ret H3 _ false (s2.trans s3) evl _ (by omega)⟩
            | true =>
              refine iteF ?_
              rw [h3, if_pos rfl] at e2
              refine ⟨z.length - (j + 1 + (rfN r').1), by omega, j + 1 + (rfN r').1, some (.bl true), rfl, rfl, s2.trans s3, by omega, by omega, ?_⟩
              rw [e2, drop_add, hdj.2]
              dsimp only
              rw [show (vbN q (r'.drop (rfN r').1)).1 + (rfN r').1 + 1 + (j - (i + 1)) = (vbN q (r'.drop (rfN r').1)).1 + (j + 1 + (rfN r').1 - (i + 1)) by omega]
          | false =>
            refine iteF ?_
            have h38' := hB_false (c := 38) (l := (tl z).drop j) (by rw [h38]; exact Bool.false_ne_true)
            refine ⟨_, rfl, _, rfl, _, rfl, _, rfl, _, _, rfl, rfl, _, rfl, z, rfl, g.line, ?_⟩
            rw [cut_one]
            refine ⟨rfl, _, rfl, ?_⟩
            show if decide (V.str (sg ((tl z).drop j)) = V.str (Str.ofString "<")) = true then _ else _
            rw [sg_lit _ (c := 60)]
            cases h60 : hB (· == 60) ((tl z).drop j) with
            | true =>
              refine iteT ?_
              refine iteT ?_
              obtain ⟨r', hr'⟩ := hB_true h60
              have h60q : ¬ 60 = q := fun e => hnq r' (by rw [hr', e])
              rw [hr', vbN_cons, if_neg h60q, if_neg (by decide), if_pos rfl] at e2
              rw [e2] at evl
              exact ⟨_, rfl, (by show 2 ≤ sizeLine; decide), ret H2 _ false s2 evl _ (by omega)⟩
            | false =>
              refine iteF ?_
              refine ⟨_, rfl, _, rfl, _, rfl, _, rfl, _, _, rfl, rfl, _, rfl, z, rfl, g.line, ?_⟩
              rw [cut_one]
              refine ⟨_, rfl, fun H3 s3 => ⟨_, rfl, ?_⟩⟩
              cases hl : (tl z).drop j with
              | nil =>
                refine iteT ?_
                rw [hl, vbN_nil] at e2
                rw [e2] at evl
                exact ⟨_, rfl, (by show 2 ≤ sizeLine; decide), ret H3 _ false (s2.trans s3) evl _ (by omega)⟩
              | cons c r' =>
                have hdj := drop_cons hl
                have hsg : hB isSg (c :: r') = true := g.sg c (List.mem_of_mem_drop (i := j) (by rw [hl]; exact List.mem_cons_self))
                rw [hsg]
                refine iteF ?_
                have hcq : ¬ c = q := fun e => hnq r' (by rw [hl, e])
                have hc38 : ¬ c = 38 := fun e => h38' r' (by rw [hl, e])
                have hc60 : ¬ c = 60 := fun e => hB_false (c := 60) (l := (tl z).drop j) (by rw [h60]; exact Bool.false_ne_true) r' (by rw [hl, e])
                rw [hl, vbN_cons, if_neg hcq, if_neg hc38, if_neg hc60] at e2
                refine ⟨_, rfl, _, _, rfl, rfl, ?_⟩
                refine ⟨z.length - (j + 1), by omega, j + 1, v, rfl, ?_, s2.trans s3, by omega, by omega, ?_⟩
                · show [some (V.str z), some (.int ((j : Int) + 1)), some (.str (mkS [q])), v] = _
                  rw [show ((j : Int) + 1) = ((j + 1 : Nat) : Int) by omega]
                · rw [e2, hdj.2]
                  dsimp only
                  rw [show (vbN q r').1 + 1 + (j - (i + 1)) = (vbN q r').1 + (j + 1 - (i + 1)) by omega]
end
end K2
/-! K02Ls -/
namespace K2
open PySem PySem.Spec PyProof.Rows L2 TL
theorem ex_self {S l : List Nat} (h : l.take S.length = S) : exN S l = (S.length, true) := by
  induction S generalizing l with
  | nil => rfl
  | cons d ds ih =>
    cases l with
    | nil => simp at h
    | cons c r =>
      rw [List.length_cons, List.take_succ_cons] at h
      obtain ⟨h1, h2⟩ := List.cons.inj h
      rw [exN_cons, if_pos h1, ih h2]
      rfl
theorem un_self (S l : List Nat) : unN S S l = upN S l := by
  unfold unN upN
  cases e : fdN S l with
  | none => rfl
  | some j =>
    have h1 := (fdN_some e).1
    dsimp only
    rw [ex_self h1, Nat.add_comm]
theorem ex_app {S Y l : List Nat} (h : l.take S.length = S) : exN (S ++ Y) l = ((exN Y (l.drop S.length)).1 + S.length, (exN Y (l.drop S.length)).2) := by
  induction S generalizing l with
  | nil => rfl
  | cons d ds ih =>
    cases l with
    | nil => simp at h
    | cons c r =>
      rw [List.length_cons, List.take_succ_cons] at h
      obtain ⟨h1, h2⟩ := List.cons.inj h
      rw [List.cons_append, exN_cons, if_pos h1, ih h2]
      rfl
/-- an instruction, a comment or a CDATA part behind < -/
def spN (b : Bool) : List Nat → Nat × Bool
  | 63 :: r => ((inN r).1 + 1, (inN r).2)
  | 33 :: r => if b = true then ((ccN r).1 + 1, (ccN r).2) else ((cmN r).1 + 1, (cmN r).2)
  | _ => (0, false)
theorem cm_un (r : List Nat) : cmN r = if (exN [45, 45] r).2 = true then ((unN [45, 45] [45, 45, 62] (r.drop 2)).1 + 2, (unN [45, 45] [45, 45, 62] (r.drop 2)).2) else ((exN [45, 45] r).1, false) := by
  unfold cmN
  cases h : (exN [45, 45] r).2 with
  | false => rfl
  | true =>
    rw [if_neg (by simp), if_pos rfl]
    unfold unN upN
    cases e : fdN [45, 45] (r.drop 2) with
    | none =>
      dsimp only
      rw [if_pos rfl]
    | some j =>
      dsimp only
      have h1 := (fdN_some e).1
      have h2 := ex_app (Y := [62]) h1
      rw [if_neg (by simp)]
      have h3 : exN [45, 45, 62] ((r.drop 2).drop j) = ((exN [62] (((r.drop 2).drop j).drop 2)).1 + 2, (exN [62] (((r.drop 2).drop j).drop 2)).2) := h2
      have h4 : ((r.drop 2).drop j).drop 2 = (r.drop 2).drop (j + 2) := by rw [drop_add]
      rw [h3, h4]
      show ((exN [62] ((r.drop 2).drop (j + 2))).1 + (j + 2) + 2, _) = ((exN [62] ((r.drop 2).drop (j + 2))).1 + 2 + j + 2, _)
      rw [show (exN [62] ((r.drop 2).drop (j + 2))).1 + (j + 2) + 2 = (exN [62] ((r.drop 2).drop (j + 2))).1 + 2 + j + 2 by omega]
      rfl
section
variable {P : Program} {w : World} {K : PySem.W.Frag} {mg : Str → Option Value} {base : Heap}
def spLsp : Sp := fun vs H Q _ => ∃ (z : Str) (i : Nat) (b : Bool) (l : List Nat), vs = [.str z, .int i, .bl b] ∧ Gd z ∧ i ≤ z.length ∧ (tl z).drop i = 60 :: l ∧ ((∃ r, l = 63 :: r) ∨ ∃ r, l = 33 :: r) ∧ rP H Q (i + ((spN b l).1 + 1)) (spN b l).2
theorem ok_Lspecial (T : Tx w K mg) : Ok P w K mg base CX0 3 (He.fAd K d_Lspecial.at_) p_Lspecial spLsp := by
  obtain ⟨fd, F⟩ := f_Lspecial T
  obtain ⟨fN, GN, bN, kN⟩ := ok_Lname (P := P) (base := base) T
  obtain ⟨fX, GX, bX, kX⟩ := ok_Lexact (P := P) (base := base) T
  obtain ⟨fU, GU, bU, kU⟩ := ok_Luntil (P := P) (base := base) T
  obtain ⟨fB, GB, bB, kB⟩ := ok_Lblank (P := P) (base := base) T
  refine ⟨fd, ?_, b_Lspecial F, F.kp⟩
  refine F.ok sc_Lspecial (fun vs H Q E h => ?_) (fun cdv A outer s H vs Q E hr h => ?_)
  · obtain ⟨z, i, b, l, rfl, _⟩ := h
    rfl
  · obtain ⟨z, i, b, l, rfl, g, hi, hl, hx, kk⟩ := h
    have nd := sc_Lspecial.nd
    have hlen : z.length = (tl z).length := len_tl z
    refine ⟨_, PSs.nox (pss_cons (ps_if (pt_cmpR op_eq (pe_slice sl_str (pv 0) (po_some (pv 1)) (po_some (pe_op op_add (pv 1) pe_int))) pe_str (nomark _))
        (pss_cons (ps_set (i := 3) nd rfl (.inl rfl) (pe_op op_add (pv 1) pe_int))
        (pss_cons (ps_asg (pe_call (E := E0) GN (hr.mono (by decide)) (by rfl) (g_Lname T) kN bN .nil pass0 (pa_cons (pv 0) (pa_cons (pv 3) pa_nil)))
              (pg_tup (by rfl) (pgs_cons (pg_name (i := 1) nd rfl (.inl rfl)) (pgs_cons (pg_name (i := 4) nd rfl (.inl rfl)) pgs_nil))))
        (pss_cons (ps_if (pw_or (pt_not (pt_val (pv 4))) (pw_or1 (pt_cmpR op_eq (pe_lower (pe_slice sl_str (pv 0) (po_some (pv 3)) (po_some (pv 1)))) pe_str (nomark _)))).pt (pss_one (ps_ret (pe_tup (pa_cons (pv 1) (pa_cons pe_bl pa_nil))))) pss_nil)
        (pss_cons (ps_if (pw_or (pt_cmpR op_eq (pe_slice sl_str (pv 0) (po_some (pv 1)) (po_some (pe_op op_add (pv 1) pe_int))) pe_str (nomark _)) (pw_or1 (pt_cmpR op_eq (pe_call (E := E0) GB (hr.mono (by decide)) (by rfl) (g_Lblank T) kB bB .nil pass0 (pa_cons (pv 0) (pa_cons (pv 1) pa_nil))) (pv 1) (nomark _)))).pt
          (pss_one (ps_ret (pe_call (E := E0) GX (hr.mono (by decide)) (by rfl) (g_Lexact T) kX bX .nil pass0 (pa_cons (pv 0) (pa_cons (pv 1) (pa_cons pe_str pa_nil)))))) pss_nil)
        (pss_one (ps_ret (pe_call (E := E0) GU (hr.mono (by decide)) (by rfl) (g_Luntil T) kU bU .nil pass0 (pa_cons (pv 0) (pa_cons (pe_call (E := E0) GB (hr.mono (by decide)) (by rfl) (g_Lblank T) kB bB .nil pass0 (pa_cons (pv 0) (pa_cons (pv 1) pa_nil))) (pa_cons pe_str (pa_cons pe_str pa_nil)))))))))))
        pss_nil)
      (pss_cons (ps_if (pw_and (pt_val (pv 2)) (pw_and1 (pt_cmpR op_eq (pe_slice sl_str (pv 0) (po_some (pv 1)) (po_some (pe_op op_add (pv 1) pe_int))) pe_str (nomark _)))).pt
        (pss_cons (ps_asg (pe_call (E := E0) GX (hr.mono (by decide)) (by rfl) (g_Lexact T) kX bX .nil pass0 (pa_cons (pv 0) (pa_cons (pv 1) (pa_cons pe_str pa_nil))))
              (pg_tup (by rfl) (pgs_cons (pg_name (i := 1) nd rfl (.inl rfl)) (pgs_cons (pg_name (i := 4) nd rfl (.inl rfl)) pgs_nil))))
        (pss_one (ps_ret (pe_ifExp (pt_val (pv 4)) (pe_call (E := E0) GU (hr.mono (by decide)) (by rfl) (g_Luntil T) kU bU .nil pass0 (pa_cons (pv 0) (pa_cons (pv 1) (pa_cons pe_str (pa_cons pe_str pa_nil))))) (pe_tup (pa_cons (pv 1) (pa_cons pe_bl pa_nil)))))))
        pss_nil)
      (pss_cons (ps_asg (pe_call (E := E0) GX (hr.mono (by decide)) (by rfl) (g_Lexact T) kX bX .nil pass0 (pa_cons (pv 0) (pa_cons (pv 1) (pa_cons pe_str pa_nil))))
              (pg_tup (by rfl) (pgs_cons (pg_name (i := 1) nd rfl (.inl rfl)) (pgs_cons (pg_name (i := 4) nd rfl (.inl rfl)) pgs_nil))))
        (pss_one (ps_ret (pe_ifExp (pt_val (pv 4)) (pe_call (E := E0) GU (hr.mono (by decide)) (by rfl) (g_Luntil T) kU bU .nil pass0 (pa_cons (pv 0) (pa_cons (pv 1) (pa_cons pe_str (pa_cons pe_str pa_nil))))) (pe_tup (pa_cons (pv 1) (pa_cons pe_bl pa_nil))))))))), ?_⟩
    refine ⟨_, rfl, _, rfl, _, rfl, _, rfl, _, _, rfl, rfl, _, rfl, z, rfl, g.line, ?_⟩
    have c2 : cutS z (some (i : Int)) (some ((i : Int) + 2)) = mkS (((tl z).drop i).take 2) := by
      rw [show ((i : Int) + 2) = ((i + 2 : Nat) : Int) by omega, cut_nat, show i + 2 - i = 2 by omega]
    rw [c2, hl]
    refine ⟨rfl, _, rfl, ?_⟩
    have ret : ∀ (H1 : Hp) (n : Nat) (bb : Bool), Same H H1 → spN b l = (n, bb) → ∀ j : Nat, j = i + (n + 1) → rP H1 Q j bb := by
      intro H1 n bb s1 e j hj
      rw [e] at kk
      exact kk.mono s1 hj.symm
    have ret2 : ∀ (H1 : Hp) (n : Nat), Same H H1 → spN b l = (n, false) → ∀ j : Nat, j = i + (n + 1) → ∀ p, H1 p = none → Q (.ref p) (upd H1 p (.tup [.int (j : Int), .bl false])) := by
      intro H1 n s1 e j hj p hp
      exact ret H1 n false s1 e j hj _ p (same_new hp) upd_same
    rcases hx with ⟨r, rfl⟩ | ⟨r, rfl⟩
    · show if decide (V.str (mkS ((60 :: 63 :: r).take 2)) = V.str (Str.ofString "<?")) = true then _ else _
      have e0 : decide (V.str (mkS ((60 :: 63 :: r).take 2)) = V.str (Str.ofString "<?")) = true := by
        rw [dec_str, lit (s := "<?") (l := [60, 63]), tl_mkS, tl_mkS]
        rfl
      rw [e0]
      refine iteT ?_
      have h2 : (tl z).drop (i + 2) = r := by rw [drop_add, hl]; rfl
      have hrl : r.length + 2 = z.length - i := by
        have := congrArg List.length hl
        rw [List.length_drop] at this
        simp only [List.length_cons] at this
        omega
      refine ⟨_, rfl, _, _, rfl, rfl, ?_⟩
      refine ⟨_, rfl, _, rfl, z, i + 2, by show [V.str z, .int ((i : Int) + 2)] = _; rw [show ((i : Int) + 2) = ((i + 2 : Nat) : Int) by omega], g, by omega, fun H1 t1 s1 ht1 => ⟨t1, _, rfl, SqT.of ht1, rfl, _, _, rfl, _, _, rfl, rfl, ?_⟩⟩
      rw [h2]
      have esp : spN b (63 :: r) = ((inN r).1 + 1, (inN r).2) := rfl
      have hnl := nmN_le r
      refine ⟨_, rfl, _, rfl, ?_⟩
      cases hn : (nmN r).2 with
      | false =>
        refine iteT ?_
        refine iteT ?_
        have ein : inN r = ((nmN r).1, false) := by
          unfold inN
          rw [if_pos hn]
        rw [ein] at esp
        exact ⟨_, rfl, (by show 2 ≤ sizeLine; decide), ret2 H1 _ s1 esp _ (by omega)⟩
      | true =>
        refine iteF ?_
        have hlow : ∀ c ∈ r.take (nmN r).1, c < 128 := by
          rw [← h2]
          exact g.low
        have cn : cutS z (some ((i : Int) + 2)) (some ((i + 2 + (nmN r).1 : Nat) : Int)) = mkS (r.take (nmN r).1) := by
          rw [show ((i : Int) + 2) = ((i + 2 : Nat) : Int) by omega, cut_nat, h2, show i + 2 + (nmN r).1 - (i + 2) = (nmN r).1 by omega]
        have hzl := g.len
        refine ⟨_, rfl, _, rfl, _, rfl, _, rfl, _, rfl, z, rfl, g.line, ⟨_, rfl⟩, _, rfl, rfl, ?_, ?_⟩
        · rw [cn, mkS_len, List.length_take]
          omega
        rw [cn, lower_eq hlow]
        refine ⟨rfl, _, rfl, ?_⟩
        show if decide (V.str (mkS ((r.take (nmN r).1).map lowC)) = V.str (Str.ofString "xml")) = true then _ else _
        rw [xml_eq]
        have h3 : (tl z).drop (i + 2 + (nmN r).1) = r.drop (nmN r).1 := by rw [drop_add, h2]
        cases hxm : isXml (r.take (nmN r).1) with
        | true =>
          refine iteT ?_
          have ein : inN r = ((nmN r).1, false) := by
            unfold inN
            rw [if_neg (by rw [hn]; simp), if_pos hxm]
          rw [ein] at esp
          exact ⟨_, rfl, (by show 2 ≤ sizeLine; decide), ret2 H1 _ s1 esp _ (by omega)⟩
        | false =>
          refine iteF ?_
          have ein : inN r = if blN (r.drop (nmN r).1) = 0 then ((exN [63, 62] (r.drop (nmN r).1)).1 + (nmN r).1, (exN [63, 62] (r.drop (nmN r).1)).2)
              else ((upN [63, 62] ((r.drop (nmN r).1).drop (blN (r.drop (nmN r).1)))).1 + blN (r.drop (nmN r).1) + (nmN r).1, (upN [63, 62] ((r.drop (nmN r).1).drop (blN (r.drop (nmN r).1)))).2) := by
            unfold inN
            rw [if_neg (by rw [hn]; simp), if_neg (by rw [hxm]; simp)]
          have short : blN (r.drop (nmN r).1) = 0 → ∀ H2 vs', Same H H2 → vs' = [V.str z, V.int ((i + 2 + (nmN r).1 : Nat) : Int), V.str (Str.ofString "?>")] → spLex vs' H2 Q E0 := by
            intro hb0 H2 vs' s2 hv
            rw [ein, if_pos hb0] at esp
            refine ⟨z, Str.ofString "?>", i + 2 + (nmN r).1, hv, g, by omega, ?_⟩
            rw [lit (s := "?>") (l := [63, 62]), tl_mkS, h3]
            exact ret H2 _ _ s2 esp _ (by omega)
          refine ⟨_, rfl, _, rfl, _, rfl, _, rfl, _, _, rfl, rfl, _, rfl, z, rfl, g.line, ?_⟩
          rw [cut_one, h3]
          refine ⟨rfl, _, rfl, ?_⟩
          show if decide (V.str (sg (r.drop (nmN r).1)) = V.str (Str.ofString "?")) = true then _ else _
          rw [sg_lit _ (c := 63)]
          cases h63 : hB (· == 63) (r.drop (nmN r).1) with
          | true =>
            refine iteT ?_
            refine iteT ?_
            obtain ⟨r2, hr2⟩ := hB_true h63
            exact ⟨_, rfl, _, rfl, short (by rw [hr2]; rfl) _ _ s1 rfl⟩
          | false =>
            refine iteF ?_
            refine ⟨_, rfl, _, rfl, z, i + 2 + (nmN r).1, rfl, g, by omega, ?_⟩
            rw [h3]
            refine ⟨_, rfl, rfl, _, rfl, ?_⟩
            show if decide (V.int ((i + 2 + (nmN r).1 + blN (r.drop (nmN r).1) : Nat) : Int) = V.int ((i + 2 + (nmN r).1 : Nat) : Int)) = true then _ else _
            have hbl := blN_le (r.drop (nmN r).1)
            rw [List.length_drop] at hbl
            by_cases hb0 : blN (r.drop (nmN r).1) = 0
            · rw [decide_eq_true (by rw [hb0]; rfl)]
              refine iteT ?_
              exact ⟨_, rfl, _, rfl, short hb0 _ _ s1 rfl⟩
            · rw [decide_eq_false (fun h => by
                have := V.int.inj h
                omega)]
              refine iteF ?_
              rw [ein, if_neg hb0] at esp
              refine ⟨_, rfl, _, rfl, _, rfl, z, i + 2 + (nmN r).1, rfl, g, by omega, ?_⟩
              rw [h3]
              refine ⟨z, Str.ofString "?>", Str.ofString "?>", i + 2 + (nmN r).1 + blN (r.drop (nmN r).1), rfl, g, by omega, by decide, by decide, ?_⟩
              rw [lit (s := "?>") (l := [63, 62]), tl_mkS, drop_add, h3, un_self]
              exact ret H1 _ _ s1 esp _ (by omega)
    · show if decide (V.str (mkS ((60 :: 33 :: r).take 2)) = V.str (Str.ofString "<?")) = true then _ else _
      have e0 : decide (V.str (mkS ((60 :: 33 :: r).take 2)) = V.str (Str.ofString "<?")) = false := by
        rw [dec_str, lit (s := "<?") (l := [60, 63]), tl_mkS, tl_mkS]
        exact decide_eq_false (fun h => by
          have h' : [60, 33] = [60, 63] := h
          cases h')
      rw [e0]
      refine iteF ?_
      have h2 : (tl z).drop (i + 2) = r := by rw [drop_add, hl]; rfl
      have hrl : r.length + 2 = z.length - i := by
        have := congrArg List.length hl
        rw [List.length_drop] at this
        simp only [List.length_cons] at this
        omega
      have exc : exN (tl (Str.ofString "<!--")) ((tl z).drop i) = ((exN [45, 45] r).1 + 2, (exN [45, 45] r).2) := by
        rw [lit (s := "<!--") (l := [60, 33, 45, 45]), tl_mkS, hl, exN_cons, if_pos rfl, exN_cons, if_pos rfl]
      refine ⟨_, rfl, _, rfl, ?_⟩
      cases b with
      | false =>
        refine iteF ?_
        refine iteF ?_
        have esp : spN false (33 :: r) = ((cmN r).1 + 1, (cmN r).2) := rfl
        refine ⟨_, rfl, _, rfl, z, Str.ofString "<!--", i, rfl, g, hi, fun H2 t2 s2 ht2 => ?_⟩
        rw [exc] at ht2
        refine ⟨t2, _, rfl, SqT.of ht2, rfl, _, _, rfl, _, _, rfl, rfl, ?_⟩
        refine ⟨_, rfl, _, rfl, ?_⟩
        rw [cm_un] at esp
        cases he : (exN [45, 45] r).2 with
        | true =>
          refine iteT ?_
          rw [he, if_pos rfl] at esp
          have en : (exN [45, 45] r).1 = 2 := exN_ok _ r he
          rw [en]
          have hle := exN_le [45, 45] r
          rw [en] at hle
          refine ⟨_, rfl, _, rfl, z, Str.ofString "--", Str.ofString "-->", i + (2 + 2), rfl, g, by omega, by decide, by decide, ?_⟩
          rw [lit (s := "--") (l := [45, 45]), lit (s := "-->") (l := [45, 45, 62]), tl_mkS, tl_mkS, show (tl z).drop (i + (2 + 2)) = r.drop 2 by rw [show i + (2 + 2) = i + 2 + 2 by omega, drop_add, h2]]
          exact ret H2 _ _ s2 esp _ (by omega)
        | false =>
          refine iteF ?_
          rw [he, if_neg Bool.false_ne_true] at esp
          exact ⟨_, rfl, (by show 2 ≤ sizeLine; decide), ret2 H2 _ s2 esp _ (by omega)⟩
      | true =>
        refine iteT ?_
        have c3 : cutS z (some (i : Int)) (some ((i : Int) + 3)) = mkS (((tl z).drop i).take 3) := by
          rw [show ((i : Int) + 3) = ((i + 3 : Nat) : Int) by omega, cut_nat, show i + 3 - i = 3 by omega]
        refine ⟨_, rfl, _, rfl, _, rfl, _, rfl, _, _, rfl, rfl, _, rfl, z, rfl, g.line, ?_⟩
        rw [c3, hl]
        refine ⟨rfl, _, rfl, ?_⟩
        have e3 : decide (V.str (mkS ((60 :: 33 :: r).take 3)) = V.str (Str.ofString "<![")) = hB (· == 91) r := by
          rw [dec_str, lit (s := "<![") (l := [60, 33, 91]), tl_mkS, tl_mkS]
          cases r with
          | nil => rfl
          | cons c r =>
            show decide ([60, 33, c] = [60, 33, 91]) = (c == 91)
            by_cases h : c = 91
            · subst h; rfl
            · simp [h]
        show if decide (V.str (mkS ((60 :: 33 :: r).take 3)) = V.str (Str.ofString "<![")) = true then _ else _
        rw [e3]
        cases h91 : hB (· == 91) r with
        | false =>
          refine iteF ?_
          have esp : spN true (33 :: r) = ((cmN r).1 + 1, (cmN r).2) := by
            show (if true = true then ((ccN r).1 + 1, (ccN r).2) else ((cmN r).1 + 1, (cmN r).2)) = _
            rw [if_pos rfl, ccN_cm (hB_false (c := 91) (by rw [h91]; exact Bool.false_ne_true))]
          refine ⟨_, rfl, _, rfl, z, Str.ofString "<!--", i, rfl, g, hi, fun H2 t2 s2 ht2 => ?_⟩
          rw [exc] at ht2
          refine ⟨t2, _, rfl, SqT.of ht2, rfl, _, _, rfl, _, _, rfl, rfl, ?_⟩
          refine ⟨_, rfl, _, rfl, ?_⟩
          rw [cm_un] at esp
          cases he : (exN [45, 45] r).2 with
          | true =>
            refine iteT ?_
            rw [he, if_pos rfl] at esp
            have en : (exN [45, 45] r).1 = 2 := exN_ok _ r he
            rw [en]
            have hle := exN_le [45, 45] r
            rw [en] at hle
            refine ⟨_, rfl, _, rfl, z, Str.ofString "--", Str.ofString "-->", i + (2 + 2), rfl, g, by omega, by decide, by decide, ?_⟩
            rw [lit (s := "--") (l := [45, 45]), lit (s := "-->") (l := [45, 45, 62]), tl_mkS, tl_mkS, show (tl z).drop (i + (2 + 2)) = r.drop 2 by rw [show i + (2 + 2) = i + 2 + 2 by omega, drop_add, h2]]
            exact ret H2 _ _ s2 esp _ (by omega)
          | false =>
            refine iteF ?_
            rw [he, if_neg Bool.false_ne_true] at esp
            exact ⟨_, rfl, (by show 2 ≤ sizeLine; decide), ret2 H2 _ s2 esp _ (by omega)⟩
        | true =>
          refine iteT ?_
          obtain ⟨r2, rfl⟩ := hB_true h91
          have esp : spN true (33 :: 91 :: r2) = ((cdN (91 :: r2)).1 + 1, (cdN (91 :: r2)).2) := rfl
          have exd' : exN (tl (Str.ofString "<![CDATA[")) ((tl z).drop i) = ((exN [91, 67, 68, 65, 84, 65, 91] (91 :: r2)).1 + 2, (exN [91, 67, 68, 65, 84, 65, 91] (91 :: r2)).2) := by
            rw [lit (s := "<![CDATA[") (l := [60, 33, 91, 67, 68, 65, 84, 65, 91]), tl_mkS, hl, exN_cons, if_pos rfl, exN_cons, if_pos rfl]
          generalize hr9 : 91 :: r2 = r at *
          refine ⟨_, rfl, _, rfl, z, Str.ofString "<![CDATA[", i, rfl, g, hi, fun H2 t2 s2 ht2 => ?_⟩
          rw [exd'] at ht2
          refine ⟨t2, _, rfl, SqT.of ht2, rfl, _, _, rfl, _, _, rfl, rfl, ?_⟩
          refine ⟨_, rfl, _, rfl, ?_⟩
          cases he : (exN [91, 67, 68, 65, 84, 65, 91] r).2 with
          | true =>
            refine iteT ?_
            have ecd : cdN r = ((upN [93, 93, 62] (r.drop 7)).1 + 7, (upN [93, 93, 62] (r.drop 7)).2) := by
              unfold cdN
              rw [if_neg (by rw [he]; simp)]
            rw [ecd] at esp
            have en : (exN [91, 67, 68, 65, 84, 65, 91] r).1 = 7 := exN_ok _ r he
            rw [en]
            have hle := exN_le [91, 67, 68, 65, 84, 65, 91] r
            rw [en] at hle
            refine ⟨_, rfl, _, rfl, z, Str.ofString "]]>", Str.ofString "]]>", i + (7 + 2), rfl, g, by omega, by decide, by decide, ?_⟩
            rw [lit (s := "]]>") (l := [93, 93, 62]), tl_mkS, show (tl z).drop (i + (7 + 2)) = r.drop 7 by rw [show i + (7 + 2) = i + 2 + 7 by omega, drop_add, h2], un_self]
            exact ret H2 _ _ s2 esp _ (by omega)
          | false =>
            refine iteF ?_
            have ecd : cdN r = ((exN [91, 67, 68, 65, 84, 65, 91] r).1, false) := by
              unfold cdN
              rw [if_pos he]
            rw [ecd] at esp
            exact ⟨_, rfl, (by show 2 ≤ sizeLine; decide), ret2 H2 _ s2 esp _ (by omega)⟩
end
end K2
/-! K02Lr -/
namespace K2
open PySem PySem.Spec PyProof.Rows L2 TL
def hd2 : List Nat → Bool
  | 60 :: x :: _ => x == 33 || x == 63
  | _ => false
theorem hd2_true {l : List Nat} (h : hd2 l = true) : ∃ l2, l = 60 :: l2 ∧ ((∃ r, l2 = 63 :: r) ∨ ∃ r, l2 = 33 :: r) := by
  unfold hd2 at h
  split at h
  · rename_i x r
    refine ⟨x :: r, rfl, ?_⟩
    rcases Bool.or_eq_true_iff.mp h with h | h
    · exact .inr ⟨r, by rw [eq_of_beq h]⟩
    · exact .inl ⟨r, by rw [eq_of_beq h]⟩
  · cases h
/-- what stands around the outermost element, behind its blanks: by fuel -/
def arB : Nat → List Nat → Nat × Bool
  | 0, l => (0, true)
  | f + 1, l => if hd2 l = true then
      (if (spN false (l.drop 1)).2 = true then
        ((arB f ((l.drop ((spN false (l.drop 1)).1 + 1)).drop (blN (l.drop ((spN false (l.drop 1)).1 + 1))))).1 + blN (l.drop ((spN false (l.drop 1)).1 + 1)) + ((spN false (l.drop 1)).1 + 1),
          (arB f ((l.drop ((spN false (l.drop 1)).1 + 1)).drop (blN (l.drop ((spN false (l.drop 1)).1 + 1))))).2)
      else ((spN false (l.drop 1)).1 + 1, false))
    else (0, true)
def arN (l : List Nat) : Nat × Bool := ((arB (l.length + 1) (l.drop (blN l))).1 + blN l, (arB (l.length + 1) (l.drop (blN l))).2)
theorem in_hd2 (l : List Nat) : inV (.str (mkS (l.take 2))) [.str (Str.ofString "<!"), .str (Str.ofString "<?")] = hd2 l := by
  show (eqV _ _ || (eqV _ _ || false)) = _
  rw [eqV_str, eqV_str, lit (s := "<!") (l := [60, 33]), lit (s := "<?") (l := [60, 63]), tl_mkS, tl_mkS, tl_mkS]
  match l with
  | [] => rfl
  | [c] =>
    show (decide ([60, 33] = [c]) || (decide ([60, 63] = [c]) || false)) = hd2 [c]
    rw [decide_eq_false (by simp), decide_eq_false (by simp)]
    unfold hd2
    split
    · rename_i e
      cases e
    · rfl
  | c :: d :: r =>
    show (decide ([60, 33] = [c, d]) || (decide ([60, 63] = [c, d]) || false)) = hd2 (c :: d :: r)
    by_cases h : c = 60
    · subst h
      show _ = (d == 33 || d == 63)
      by_cases h1 : d = 33
      · subst h1; rfl
      · by_cases h2 : d = 63
        · subst h2; rfl
        · simp [h1, h2, Ne.symm h1, Ne.symm h2]
    · have e : hd2 (c :: d :: r) = false := by
        unfold hd2
        split
        · rename_i e
          exact absurd (List.cons.inj e).1 h
        · rfl
      rw [e]
      simp [Ne.symm h]
theorem inN_le (l : List Nat) : (inN l).1 ≤ l.length := by
  have h1 := nmN_le l
  have h2 := blN_le (l.drop (nmN l).1)
  have h3 := exN_le [63, 62] (l.drop (nmN l).1)
  have h4 := upN_le [63, 62] ((l.drop (nmN l).1).drop (blN (l.drop (nmN l).1)))
  simp only [List.length_drop] at h2 h3 h4
  unfold inN
  split
  · exact h1
  · split
    · exact h1
    · dsimp only
      split
      · dsimp only
        omega
      · dsimp only
        omega
theorem cmN_le (l : List Nat) : (cmN l).1 ≤ l.length := by
  have h3 := exN_le [45, 45] l
  have h4 := upN_le [45, 45] (l.drop 2)
  have h5 := exN_le [62] ((l.drop 2).drop (upN [45, 45] (l.drop 2)).1)
  simp only [List.length_drop] at h4 h5
  unfold cmN
  split
  · exact h3
  · rename_i h
    have h6 : (exN [45, 45] l).2 = true := by simpa using h
    have h7 := exN_ok _ l h6
    have h8 : ([45, 45] : List Nat).length = 2 := rfl
    split
    · dsimp only
      omega
    · dsimp only
      omega
theorem cdN_le (l : List Nat) : (cdN l).1 ≤ l.length := by
  have h3 := exN_le [91, 67, 68, 65, 84, 65, 91] l
  have h4 := upN_le [93, 93, 62] (l.drop 7)
  simp only [List.length_drop] at h4
  unfold cdN
  split
  · exact h3
  · rename_i h
    have h6 : (exN [91, 67, 68, 65, 84, 65, 91] l).2 = true := by simpa using h
    have h7 := exN_ok _ l h6
    have h8 : ([91, 67, 68, 65, 84, 65, 91] : List Nat).length = 7 := rfl
    dsimp only
    omega
theorem ccN_le (l : List Nat) : (ccN l).1 ≤ l.length := by
  unfold ccN
  split
  · exact cdN_le _
  · exact cmN_le _
theorem spN_len (b : Bool) (l : List Nat) : (spN b l).1 ≤ l.length := by
  unfold spN
  split
  · rename_i r
    have := inN_le r
    rw [List.length_cons]
    dsimp only
    omega
  · rename_i r
    have h1 := ccN_le r
    have h2 := cmN_le r
    rw [List.length_cons]
    split
    · dsimp only
      omega
    · dsimp only
      omega
  · exact Nat.zero_le _
theorem spN_le {b : Bool} {l : List Nat} (h : (spN b l).2 = true) : 0 < (spN b l).1 := by
  unfold spN at h ⊢
  split
  · simp
  · split <;> simp
  · simp at h
section
variable {P : Program} {w : World} {K : PySem.W.Frag} {mg : Str → Option Value} {base : Heap}
theorem ok_Laround (T : Tx w K mg) : Ok P w K mg base CX0 4 (He.fAd K d_Laround.at_) p_Laround (spLp arN) := by
  obtain ⟨fd, F⟩ := f_Laround T
  obtain ⟨fS, GS, bS, kS⟩ := ok_Lspecial (P := P) (base := base) T
  obtain ⟨fB, GB, bB, kB⟩ := ok_Lblank (P := P) (base := base) T
  refine ⟨fd, ?_, b_Laround F, F.kp⟩
  refine F.ok sc_Laround (fun vs H Q E h => ?_) (fun cdv A outer s H vs Q E hr h => ?_)
  · obtain ⟨z, i, rfl, _⟩ := h
    rfl
  · obtain ⟨z, i, rfl, g, hi, kk⟩ := h
    have nd := sc_Laround.nd
    have hlen : z.length = (tl z).length := len_tl z
    refine ⟨_, PSs.nox (pss_cons (ps_set (i := 1) nd rfl (.inl rfl) (pe_call (E := E0) GB (hr.mono (by decide)) (by rfl) (g_Lblank T) kB bB .nil pass0 (pa_cons (pv 0) (pa_cons (pv 1) pa_nil))))
      (pss_cons (ps_while PassesOwn.never (pt_cmpR op_in_seq (pe_slice sl_str (pv 0) (po_some (pv 1)) (po_some (pe_op op_add (pv 1) pe_int))) (pe_tup (pa_cons pe_str (pa_cons pe_str pa_nil))) (by rfl))
        (pss_cons (ps_asg (pe_call (E := E0) GS (hr.mono (by decide)) (by rfl) (g_Lspecial T) kS bS .nil pass0 (pa_cons (pv 0) (pa_cons (pv 1) (pa_cons pe_bl pa_nil))))
              (pg_tup (by rfl) (pgs_cons (pg_name (i := 1) nd rfl (.inl rfl)) (pgs_cons (pg_name (i := 2) nd rfl (.inl rfl)) pgs_nil))))
        (pss_cons (ps_if (pt_not (pt_val (pv 2))) (pss_one (ps_ret (pe_tup (pa_cons (pv 1) (pa_cons pe_bl pa_nil))))) pss_nil)
        (pss_one (ps_set (i := 1) nd rfl (.inl rfl) (pe_call (E := E0) GB (hr.mono (by decide)) (by rfl) (g_Lblank T) kB bB .nil pass0 (pa_cons (pv 0) (pa_cons (pv 1) pa_nil))))))))
      (pss_one (ps_ret (pe_tup (pa_cons (pv 1) (pa_cons pe_bl pa_nil))))))), ?_⟩
    have hbl := blN_le ((tl z).drop i)
    rw [List.length_drop] at hbl
    have ret : ∀ (H1 : Hp) (n : Nat) (bb : Bool), Same H H1 → arN ((tl z).drop i) = (n, bb) → ∀ j : Nat, j = i + n → ∀ p, H1 p = none → Q (.ref p) (upd H1 p (.tup [.int (j : Int), .bl bb])) := by
      intro H1 n bb s1 e j hj p hp
      rw [e] at kk
      subst hj
      exact kk _ p (s1.trans (same_new hp)) upd_same
    refine ⟨_, rfl, _, rfl, z, i, rfl, g, hi, ?_⟩
    refine while_x (fun mm σ H1 => ∃ (j f : Nat) (v : Option V), mm = f ∧ σ = [some (V.str z), some (.int (j : Int)), v] ∧ Same H H1 ∧ i ≤ j ∧ j ≤ z.length ∧ z.length < j + f ∧ arN ((tl z).drop i) = ((arB f ((tl z).drop j)).1 + (j - i), (arB f ((tl z).drop j)).2))
      (fun σ H1 => ∃ (j : Nat) (v : Option V), σ = [some (V.str z), some (.int (j : Int)), v] ∧ Same H H1 ∧ i ≤ j ∧ arN ((tl z).drop i) = (j - i, true))
      ⟨_, i + blN ((tl z).drop i), ((tl z).drop i).length + 1, none, rfl, rfl, Same.refl H, by omega, by omega, by rw [List.length_drop]; omega, by
        unfold arN
        rw [drop_add, show i + blN ((tl z).drop i) - i = blN ((tl z).drop i) by omega]⟩ ?_ ?_
    · rintro σ H1 ⟨j, v, rfl, s1, hij, e⟩
      exact ⟨_, rfl, (by show 2 ≤ sizeLine; decide), ret H1 _ true s1 e j (by omega)⟩
    · rintro - mm σ H1 R ⟨j, f, v, rfl, rfl, s1, hij, hj, hf, e⟩ hfin hbody
      have c2 : cutS z (some (j : Int)) (some ((j : Int) + 2)) = mkS (((tl z).drop j).take 2) := by
        rw [show ((j : Int) + 2) = ((j + 2 : Nat) : Int) by omega, cut_nat, show j + 2 - j = 2 by omega]
      refine ⟨_, rfl, _, rfl, _, rfl, _, rfl, _, _, rfl, rfl, _, rfl, z, rfl, g.line, ?_⟩
      rw [c2]
      refine ⟨(by decide), fun t ht => ⟨t, _, rfl, .inr (SqT.of upd_same), rfl, rfl, ?_⟩⟩
      rw [if_neg Bool.false_ne_true]
      refine ⟨_, rfl, ?_⟩
      rw [in_hd2]
      have s2 : Same H (upd H1 t (.tup [.str (Str.ofString "<!"), .str (Str.ofString "<?")])) := s1.trans (same_new ht)
      generalize upd H1 t (.tup [.str (Str.ofString "<!"), .str (Str.ofString "<?")]) = H2 at s2 ⊢
      obtain ⟨f, rfl⟩ : ∃ f', mm = f' + 1 := ⟨mm - 1, by omega⟩
      have eb : arB (f + 1) ((tl z).drop j) = if hd2 ((tl z).drop j) = true then
          (if (spN false (((tl z).drop j).drop 1)).2 = true then
            ((arB f ((((tl z).drop j).drop ((spN false (((tl z).drop j).drop 1)).1 + 1)).drop (blN (((tl z).drop j).drop ((spN false (((tl z).drop j).drop 1)).1 + 1))))).1 + blN (((tl z).drop j).drop ((spN false (((tl z).drop j).drop 1)).1 + 1)) + ((spN false (((tl z).drop j).drop 1)).1 + 1),
              (arB f ((((tl z).drop j).drop ((spN false (((tl z).drop j).drop 1)).1 + 1)).drop (blN (((tl z).drop j).drop ((spN false (((tl z).drop j).drop 1)).1 + 1))))).2)
          else ((spN false (((tl z).drop j).drop 1)).1 + 1, false))
        else (0, true) := rfl
      cases hh : hd2 ((tl z).drop j) with
      | false =>
        refine hfin _ ⟨j, v, rfl, s2, hij, ?_⟩
        rw [e, eb, hh, if_neg Bool.false_ne_true, Nat.zero_add]
      | true =>
        refine hbody _ ?_
        obtain ⟨l2, hl2, hx⟩ := hd2_true hh
        have hd1 : ((tl z).drop j).drop 1 = l2 := by rw [hl2]; rfl
        rw [hh, if_pos rfl, hd1] at eb
        refine ⟨_, rfl, _, rfl, z, j, false, l2, rfl, g, hj, hl2, hx, fun H3 t3 s3 ht3 => ?_⟩
        refine ⟨t3, _, rfl, SqT.of ht3, rfl, _, _, rfl, _, _, rfl, rfl, ?_⟩
        refine ⟨_, rfl, _, rfl, ?_⟩
        have hsl := spN_len false l2
        have hll : l2.length + 1 = z.length - j := by
          have := congrArg List.length hl2
          rw [List.length_drop, List.length_cons] at this
          omega
        cases h3 : (spN false l2).2 with
        | false =>
          refine iteT ?_
          rw [h3, if_neg Bool.false_ne_true] at eb
          rw [eb] at e
          exact ⟨_, rfl, (by show 2 ≤ sizeLine; decide), ret H3 _ false (s2.trans s3) e _ (by omega)⟩
        | true =>
          refine iteF ?_
          rw [h3, if_pos rfl] at eb
          refine ⟨_, rfl, _, rfl, z, j + ((spN false l2).1 + 1), rfl, g, by omega, ?_⟩
          have hb2 := blN_le ((tl z).drop (j + ((spN false l2).1 + 1)))
          rw [List.length_drop] at hb2
          refine ⟨f, by omega, j + ((spN false l2).1 + 1) + blN ((tl z).drop (j + ((spN false l2).1 + 1))), f, some (.bl true), rfl, rfl, s2.trans s3, by omega, by omega, by omega, ?_⟩
          rw [e, eb, drop_add (i := j + ((spN false l2).1 + 1)), drop_add (i := j)]
          dsimp only
          rw [show ∀ a b c : Nat, a + b + c + (j - i) = a + (j + c + b - i) by intros; omega]
end
end K2
/-! K02Lk -/
namespace K2
open PySem PySem.Spec PyProof.Rows L2 TL
/-- the names of the open elements, as a list: the innermost stands last -/
def opL (st : List (List Nat)) : List V := st.reverse.map fun n => V.str (mkS n)
theorem opL_cons (nm : List Nat) (st : List (List Nat)) : opL (nm :: st) = opL st ++ [V.str (mkS nm)] := by
  unfold opL
  rw [List.reverse_cons, List.map_append]
  rfl
section
variable {P : Program} {w : World} {K : PySem.W.Frag} {mg : Str → Option Value} {base : Heap}
def spLcl : Sp := fun vs H Q _ => ∃ (z : Str) (i : Nat) (p : Addr) (nm : List Nat) (st : List (List Nat)) (l : List Nat), vs = [.str z, .int i, .ref p] ∧ Gd z ∧ i ≤ z.length ∧ (tl z).drop i = 60 :: 47 :: l ∧ H p = some (.lst (opL (nm :: st))) ∧ nm.length ≤ 1000000 ∧
  ∀ H' t, SameB p H H' → H' t = some (.tup [.int ((i + ((clN nm l).1 + 2) : Nat) : Int), .bl (clN nm l).2]) → ((clN nm l).2 = true → H' p = some (.lst (opL st))) → Q (.ref t) H'
theorem ok_Lclosing (T : Tx w K mg) : Ok P w K mg base CX0 2 (He.fAd K d_Lclosing.at_) p_Lclosing spLcl := by
  obtain ⟨fd, F⟩ := f_Lclosing T
  obtain ⟨fX, GX, bX, kX⟩ := ok_Lexact (P := P) (base := base) T
  obtain ⟨fB, GB, bB, kB⟩ := ok_Lblank (P := P) (base := base) T
  refine ⟨fd, ?_, b_Lclosing F, F.kp⟩
  refine F.ok sc_Lclosing (fun vs H Q E h => ?_) (fun cdv A outer s H vs Q E hr h => ?_)
  · obtain ⟨z, i, p, nm, st, l, rfl, _⟩ := h
    rfl
  · obtain ⟨z, i, p, nm, st, l, rfl, g, hi, hl, hp, hnm, kk⟩ := h
    have nd := sc_Lclosing.nd
    have hlen : z.length = (tl z).length := len_tl z
    refine ⟨_, PSs.nox (pss_cons (ps_asg (pe_call (E := E0) GX (hr.mono (by decide)) (by rfl) (g_Lexact T) kX bX .nil pass0 (pa_cons (pv 0) (pa_cons (pv 1) (pa_cons (pe_op op_add_str pe_str (pe_ix ix_list (pv 2) (pe_un un_neg pe_int) (fun _ _ => rfl))) pa_nil))))
              (pg_tup (by rfl) (pgs_cons (pg_name (i := 1) nd rfl (.inl rfl)) (pgs_cons (pg_name (i := 3) nd rfl (.inl rfl)) pgs_nil))))
      (pss_cons (ps_if (pt_val (pv 3))
        (pss_cons (ps_asg (pe_call (E := E0) GX (hr.mono (by decide)) (by rfl) (g_Lexact T) kX bX .nil pass0 (pa_cons (pv 0) (pa_cons (pe_call (E := E0) GB (hr.mono (by decide)) (by rfl) (g_Lblank T) kB bB .nil pass0 (pa_cons (pv 0) (pa_cons (pv 1) pa_nil))) (pa_cons pe_str pa_nil))))
              (pg_tup (by rfl) (pgs_cons (pg_name (i := 1) nd rfl (.inl rfl)) (pgs_cons (pg_name (i := 3) nd rfl (.inl rfl)) pgs_nil))))
          (pss_one (ps_expr (pe_bm0 PySem.F.plainAttrs_list PySem.F.slot_list_pop PySem.F.type_list_pop mt_pop (pv 2))))) pss_nil)
      (pss_one (ps_ret (pe_tup (pa_cons (pv 1) (pa_cons (pv 3) pa_nil))))))), ?_⟩
    have hatl : atI (opL (nm :: st)) (-1) = some (V.str (mkS nm)) := by
      rw [opL_cons]
      exact atI_last _ _
    have ex : exN (tl (Str.ofString "</" ++ mkS nm)) ((tl z).drop i) = ((exN nm l).1 + 2, (exN nm l).2) := by
      rw [tl_append, lit (s := "</") (l := [60, 47]), tl_mkS, tl_mkS, hl]
      show exN (60 :: 47 :: nm) (60 :: 47 :: l) = _
      rw [exN_cons, if_pos rfl, exN_cons, if_pos rfl]
    have hsq : SqL K H p (opL (nm :: st)) := SqL.of hp
    refine ⟨_, rfl, _, rfl, _, rfl, _, rfl, p, opL (nm :: st), -1, V.str (mkS nm), rfl, rfl, hsq, hatl, _, _, rfl, rfl, ?_, ?_⟩
    · have h3 : (Str.ofString "</").length ≤ 2 := by decide
      rw [mkS_len, sizeLine_eq]
      omega
    refine ⟨z, Str.ofString "</" ++ mkS nm, i, rfl, g, hi, fun H1 t1 s1 ht1 => ?_⟩
    rw [ex] at ht1
    have hp1 : H1 p = some (.lst (opL (nm :: st))) := s1 _ _ hp
    refine ⟨t1, _, rfl, SqT.of ht1, rfl, _, _, rfl, _, _, rfl, rfl, ?_⟩
    refine ⟨_, rfl, _, rfl, ?_⟩
    have h2 : (tl z).drop (i + 2) = l := by rw [drop_add, hl]; rfl
    have hll : l.length + 2 = z.length - i := by
      have := congrArg List.length hl
      rw [List.length_drop] at this
      simp only [List.length_cons] at this
      omega
    cases he : (exN nm l).2 with
    | false =>
      refine iteF ?_
      have ecl : clN nm l = ((exN nm l).1, false) := by
        unfold clN
        rw [if_pos he]
      rw [ecl] at kk
      refine ⟨_, rfl, _, rfl, (by show 2 ≤ sizeLine; decide), fun t ht => kk _ t ((SameB.of s1).trans (.new ht)) ?_ (fun h => by cases h)⟩
      rw [upd_same, show i + ((exN nm l).1 + 2) = i + ((exN nm l).1 + 2) from rfl]
    | true =>
      refine iteT ?_
      have en := exN_ok nm l he
      have hle := exN_le nm l
      have ecl : clN nm l = ((exN [62] ((l.drop nm.length).drop (blN (l.drop nm.length)))).1 + blN (l.drop nm.length) + nm.length, (exN [62] ((l.drop nm.length).drop (blN (l.drop nm.length)))).2) := by
        unfold clN
        rw [if_neg (by rw [he]; simp)]
      rw [ecl] at kk
      rw [en] at hle ⊢
      have h3 : (tl z).drop (i + (nm.length + 2)) = l.drop nm.length := by rw [show i + (nm.length + 2) = i + 2 + nm.length by omega, drop_add, h2]
      have hbl := blN_le (l.drop nm.length)
      rw [List.length_drop] at hbl
      refine ⟨_, rfl, _, rfl, _, rfl, z, i + (nm.length + 2), rfl, g, by omega, ?_⟩
      rw [h3]
      refine ⟨z, Str.ofString ">", i + (nm.length + 2) + blN (l.drop nm.length), rfl, g, by omega, fun H2 t2 s2 ht2 => ?_⟩
      rw [lit (s := ">") (l := [62]), tl_mkS, drop_add (i := i + (nm.length + 2)), h3] at ht2
      have hp2 : H2 p = some (.lst (opL (nm :: st))) := s2 _ _ hp1
      refine ⟨t2, _, rfl, SqT.of ht2, rfl, _, _, rfl, _, _, rfl, rfl, ?_⟩
      refine ⟨_, rfl, .inl ⟨rfl, _, SqL.of hp2⟩, p, opL (nm :: st), V.str (mkS nm), rfl, rfl, hp2, ?_, ?_⟩
      · rw [opL_cons, List.length_append]
        simp
      · refine ⟨_, rfl, _, rfl, (by show 2 ≤ sizeLine; decide), fun t ht => kk _ t (((SameB.of (s1.trans s2)).trans .up).trans (.new ht)) ?_ fun _ => ?_⟩
        · rw [upd_same]
          rw [show i + ((exN [62] ((l.drop nm.length).drop (blN (l.drop nm.length)))).1 + blN (l.drop nm.length) + nm.length + 2) = i + (nm.length + 2) + blN (l.drop nm.length) + (exN [62] ((l.drop nm.length).drop (blN (l.drop nm.length)))).1 by omega]
        · have hpt : p ≠ t := fun e => by
            rw [← e, upd_same] at ht
            cases ht
          rw [upd_ne hpt, upd_same, opL_cons, List.dropLast_concat]
end
end K2
/-! K02Lt -/
namespace K2
open PySem PySem.Spec PyProof.Rows L2 TL
theorem ex_end {l : List Nat} (h : hB (· == 47) l = true) : exN [47, 62] l = ((endN l).1, (endN l).2.1) ∧ (endN l).2.2 = true := by
  obtain ⟨r, rfl⟩ := hB_true h
  rw [exN_cons, if_pos rfl]
  cases r with
  | nil => exact ⟨rfl, rfl⟩
  | cons d r =>
    by_cases h3 : d = 62
    · subst h3
      exact ⟨rfl, rfl⟩
    · have e1 : endN (47 :: d :: r) = (1, false, true) := by
        show (if (d :: r).head? = some 62 then (2, true, true) else (1, false, true) : Nat × Bool × Bool) = _
        rw [if_neg (by simpa using h3)]
      rw [e1, exN_cons, if_neg h3]
      exact ⟨rfl, rfl⟩
theorem in_known (s : List Nat) (xs : List (List Nat)) : inV (.str (mkS s)) (xs.map fun n => V.str (mkS n)) = decide (s ∈ xs) := by
  induction xs with
  | nil => rfl
  | cons a xs ih =>
    show (eqV _ _ || inV (.str (mkS s)) (xs.map fun n => V.str (mkS n))) = _
    rw [ih, eqV_str, tl_mkS, tl_mkS]
    by_cases h : s = a
    · subst h
      simp
    · simp [h, Ne.symm h]
theorem flat_known (xs : List (List Nat)) : (xs.map fun n => V.str (mkS n)).all flatV = true := by
  induction xs with
  | nil => rfl
  | cons a xs ih =>
    rw [List.map_cons, List.all_cons, ih]
    rfl
section
variable {P : Program} {w : World} {K : PySem.W.Frag} {mg : Str → Option Value} {base : Heap}
def spLtg : Sp := fun vs H Q _ => ∃ (z : Str) (i : Nat) (l : List Nat), vs = [.str z, .int i] ∧ Gd z ∧ i ≤ z.length ∧ (tl z).drop i = l ∧
  ∀ H' t nm c, Same H H' → H' t = some (.tup [.int ((i + (teN l).1 : Nat) : Int), .bl (teN l).2.1, .str nm, .bl c]) → ((teN l).2.1 = true → nm = mkS (l.take (nmN l).1) ∧ c = (teN l).2.2) → Q (.ref t) H'
theorem ok_Ltag (T : Tx w K mg) (hRef : Ok P w K mg base CX0 4 (He.fAd K d_Lreference.at_) p_Lreference (spLp rfN)) : Ok P w K mg base CX0 6 (He.fAd K d_Ltag.at_) p_Ltag spLtg := by
  obtain ⟨fd, F⟩ := f_Ltag T
  obtain ⟨fX, GX, bX, kX⟩ := ok_Lexact (P := P) (base := base) T
  obtain ⟨fB, GB, bB, kB⟩ := ok_Lblank (P := P) (base := base) T
  obtain ⟨fN, GN, bN, kN⟩ := ok_Lname (P := P) (base := base) T
  obtain ⟨fV, GV, bV, kV⟩ := ok_Lvalue_end (P := P) (base := base) T hRef
  refine ⟨fd, ?_, b_Ltag F, F.kp⟩
  refine F.ok sc_Ltag (fun vs H Q E h => ?_) (fun cdv A outer s H vs Q E hr h => ?_)
  · obtain ⟨z, i, l, rfl, _⟩ := h
    rfl
  · obtain ⟨z, i, l, rfl, g, hi, hl, kk⟩ := h
    have nd := sc_Ltag.nd
    have hlen : z.length = (tl z).length := len_tl z
    refine ⟨_, PSs.nox (pss_cons (ps_asg (pe_call (E := E0) GN (hr.mono (by decide)) (by rfl) (g_Lname T) kN bN .nil pass0 (pa_cons (pv 0) (pa_cons (pv 1) pa_nil)))
              (pg_tup (by rfl) (pgs_cons (pg_name (i := 2) nd rfl (.inl rfl)) (pgs_cons (pg_name (i := 3) nd rfl (.inl rfl)) pgs_nil))))
      (pss_cons (ps_par3 (i := 4) (j := 5) (l := 1) rfl nd rfl rfl rfl (by decide) (by decide) (by decide) rfl rfl rfl (pa_cons (pe_slice sl_str (pv 0) (po_some (pv 1)) (po_some (pv 2))) (pa_cons (pe_lst pa_nil) (pa_cons (pv 2) pa_nil))) (by rfl))
      (pss_cons (ps_while PassesOwn.never (pt_val (pv 3))
        (pss_cons (ps_set (i := 6) nd rfl (.inl rfl) (pe_call (E := E0) GB (hr.mono (by decide)) (by rfl) (g_Lblank T) kB bB .nil pass0 (pa_cons (pv 0) (pa_cons (pv 1) pa_nil))))
        (pss_cons (ps_if (pt_cmpR op_eq (pe_slice sl_str (pv 0) (po_some (pv 6)) (po_some (pe_op op_add (pv 6) pe_int))) pe_str (nomark _)) (pss_one (ps_ret (pe_tup (pa_cons (pe_op op_add (pv 6) pe_int) (pa_cons pe_bl (pa_cons (pv 4) (pa_cons pe_bl pa_nil))))))) pss_nil)
        (pss_cons (ps_if (pt_cmpR op_eq (pe_slice sl_str (pv 0) (po_some (pv 6)) (po_some (pe_op op_add (pv 6) pe_int))) pe_str (nomark _))
          (pss_cons (ps_asg (pe_call (E := E0) GX (hr.mono (by decide)) (by rfl) (g_Lexact T) kX bX .nil pass0 (pa_cons (pv 0) (pa_cons (pv 6) (pa_cons pe_str pa_nil))))
              (pg_tup (by rfl) (pgs_cons (pg_name (i := 1) nd rfl (.inl rfl)) (pgs_cons (pg_name (i := 3) nd rfl (.inl rfl)) pgs_nil))))
            (pss_one (ps_ret (pe_tup (pa_cons (pv 1) (pa_cons (pv 3) (pa_cons (pv 4) (pa_cons pe_bl pa_nil)))))))) pss_nil)
        (pss_cons (ps_if (pt_cmpR op_eq (pv 6) (pv 1) (nomark _)) (pss_one (ps_ret (pe_tup (pa_cons (pv 1) (pa_cons pe_bl (pa_cons (pv 4) (pa_cons pe_bl pa_nil))))))) pss_nil)
        (pss_cons (ps_asg (pe_call (E := E0) GN (hr.mono (by decide)) (by rfl) (g_Lname T) kN bN .nil pass0 (pa_cons (pv 0) (pa_cons (pv 6) pa_nil)))
              (pg_tup (by rfl) (pgs_cons (pg_name (i := 1) nd rfl (.inl rfl)) (pgs_cons (pg_name (i := 3) nd rfl (.inl rfl)) pgs_nil))))
        (pss_cons (ps_if (pw_or (pt_not (pt_val (pv 3))) (pw_or1 (pt_cmpR op_in_seq (pe_slice sl_str (pv 0) (po_some (pv 6)) (po_some (pv 1))) (pv 5) (by rfl)))).pt (pss_one (ps_ret (pe_tup (pa_cons (pv 1) (pa_cons pe_bl (pa_cons (pv 4) (pa_cons pe_bl pa_nil))))))) pss_nil)
        (pss_cons (ps_expr (pe_bm PySem.F.plainAttrs_list PySem.F.slot_list_append PySem.F.type_list_append mt_append (pv 5) (pa_cons (pe_slice sl_str (pv 0) (po_some (pv 6)) (po_some (pv 1))) pa_nil)))
        (pss_cons (ps_asg (pe_call (E := E0) GX (hr.mono (by decide)) (by rfl) (g_Lexact T) kX bX .nil pass0 (pa_cons (pv 0) (pa_cons (pe_call (E := E0) GB (hr.mono (by decide)) (by rfl) (g_Lblank T) kB bB .nil pass0 (pa_cons (pv 0) (pa_cons (pv 1) pa_nil))) (pa_cons pe_str pa_nil))))
              (pg_tup (by rfl) (pgs_cons (pg_name (i := 1) nd rfl (.inl rfl)) (pgs_cons (pg_name (i := 3) nd rfl (.inl rfl)) pgs_nil))))
        (pss_one (ps_if (pt_val (pv 3)) (pss_one (ps_asg (pe_call (E := E0) GV (hr.mono (by decide)) (by rfl) (g_Lvalue_end T) kV bV .nil pass0 (pa_cons (pv 0) (pa_cons (pe_call (E := E0) GB (hr.mono (by decide)) (by rfl) (g_Lblank T) kB bB .nil pass0 (pa_cons (pv 0) (pa_cons (pv 1) pa_nil))) pa_nil)))
              (pg_tup (by rfl) (pgs_cons (pg_name (i := 1) nd rfl (.inl rfl)) (pgs_cons (pg_name (i := 3) nd rfl (.inl rfl)) pgs_nil))))) pss_nil)))))))))))
      (pss_one (ps_ret (pe_tup (pa_cons (pv 1) (pa_cons pe_bl (pa_cons (pv 4) (pa_cons pe_bl pa_nil)))))))))), ?_⟩
    refine ⟨_, rfl, _, rfl, z, i, rfl, g, hi, fun H1 t1 s1 ht1 => ?_⟩
    rw [hl] at ht1
    refine ⟨t1, _, rfl, SqT.of ht1, rfl, _, _, rfl, _, _, rfl, rfl, ?_⟩
    have hnl := nmN_le l
    have hll : l.length = z.length - i := by
      rw [← hl, List.length_drop]
      omega
    have ec : cutS z (some (i : Int)) (some ((i + (nmN l).1 : Nat) : Int)) = mkS (l.take (nmN l).1) := by
      rw [cut_nat, hl, show i + (nmN l).1 - i = (nmN l).1 by omega]
    refine ⟨_, rfl, _, rfl, _, rfl, _, rfl, _, rfl, z, rfl, g.line, Nat.zero_le _, fun d hd => ⟨_, rfl, _, _, _, rfl, ?_⟩⟩
    rw [ec]
    have h0d : H d = none := s1.free hd
    have s2 : Same H (upd H1 d (.lst [])) := s1.trans (same_new hd)
    have hd2 : upd H1 d (.lst []) d = some (.lst (([] : List (List Nat)).map fun n => V.str (mkS n))) := upd_same
    have e0 : (nmN l).2 = true → teN l = ((tgN [] ((tl z).drop (i + (nmN l).1))).1 + (i + (nmN l).1 - i), (tgN [] ((tl z).drop (i + (nmN l).1))).2) := by
      intro h
      unfold teN
      rw [if_neg (by rw [h]; simp), drop_add, hl, show i + (nmN l).1 - i = (nmN l).1 by omega]
    have e1 : (nmN l).2 = false → teN l = (i + (nmN l).1 - i, false, true) := by
      intro h
      unfold teN
      rw [if_pos h, show i + (nmN l).1 - i = (nmN l).1 by omega]
    generalize upd H1 d (.lst []) = H2 at s2 hd2 ⊢
    refine while_x (fun mm σ H3 => ∃ (j : Nat) (ok : Bool) (ks xs : List (List Nat)) (v6 : Option V), mm = z.length - j ∧ σ = [some (V.str z), some (.int (j : Int)), some (.int ((i + (nmN l).1 : Nat) : Int)), some (.bl ok), some (.str (mkS (l.take (nmN l).1))), some (.ref d), v6] ∧ Same H H3 ∧
        H3 d = some (.lst (xs.map fun n => V.str (mkS n))) ∧ (∀ s, s ∈ xs ↔ s ∈ ks) ∧ xs.length ≤ j ∧ i ≤ j ∧ j ≤ z.length ∧ (ok = true → teN l = ((tgN ks ((tl z).drop j)).1 + (j - i), (tgN ks ((tl z).drop j)).2)) ∧ (ok = false → teN l = (j - i, false, true)))
      (fun σ H3 => ∃ (j : Nat) (v6 : Option V), σ = [some (V.str z), some (.int (j : Int)), some (.int ((i + (nmN l).1 : Nat) : Int)), some (.bl false), some (.str (mkS (l.take (nmN l).1))), some (.ref d), v6] ∧ Same H H3 ∧ i ≤ j ∧ teN l = (j - i, false, true))
      ⟨_, i + (nmN l).1, (nmN l).2, [], [], none, rfl, rfl, s2, hd2, fun s => Iff.rfl, Nat.zero_le _, by omega, by omega, e0, e1⟩ ?_ ?_
    · rintro σ H3 ⟨j, v6, rfl, s3, hij, e⟩
      rw [e] at kk
      refine ⟨_, rfl, _, rfl, (by show 4 ≤ sizeLine; decide), fun t ht => kk _ t (mkS (l.take (nmN l).1)) true (s3.trans (same_new ht)) ?_ (fun h => by cases h)⟩
      rw [upd_same]
      show some (HO.tup [.int (j : Int), .bl false, .str (mkS (l.take (nmN l).1)), .bl true]) = some (HO.tup [.int ((i + (j - i) : Nat) : Int), .bl false, .str (mkS (l.take (nmN l).1)), .bl true])
      rw [show i + (j - i) = j by omega]
    · rintro - mm σ H3 R ⟨j, ok, ks, xs, v6, rfl, rfl, s3, hxd, hxk, hxl, hij, hj, ht, hf⟩ hfin hbody
      refine ⟨_, rfl, _, rfl, ?_⟩
      cases ok with
      | false => exact hfin _ ⟨j, v6, rfl, s3, hij, hf rfl⟩
      | true =>
        refine hbody _ ?_
        have e := ht rfl
        have hble := blN_le ((tl z).drop j)
        rw [List.length_drop] at hble
        have ed2 : (tl z).drop (j + blN ((tl z).drop j)) = ((tl z).drop j).drop (blN ((tl z).drop j)) := drop_add
        have ret : ∀ (H4 : Hp) (n : Nat) (b c : Bool), Same H H4 → teN l = (n, b, c) → ∀ (j' : Int) (c' : Bool), j' = ((i + n : Nat) : Int) → (b = true → c' = c) → ∀ p, H4 p = none → Q (.ref p) (upd H4 p (.tup [.int j', .bl b, .str (mkS (l.take (nmN l).1)), .bl c'])) := by
          intro H4 n b c s4 en j' c' hj' hc p hp
          rw [en] at kk
          subst hj'
          exact kk _ p _ _ (s4.trans (same_new hp)) upd_same fun hb => ⟨rfl, hc hb⟩
        refine ⟨_, rfl, _, rfl, z, j, rfl, g, hj, ?_⟩
        refine ⟨_, rfl, _, rfl, _, rfl, _, rfl, _, _, rfl, rfl, _, rfl, z, rfl, g.line, ?_⟩
        rw [cut_one, ed2]
        refine ⟨rfl, _, rfl, ?_⟩
        show if decide (V.str (sg (((tl z).drop j).drop (blN ((tl z).drop j)))) = V.str (Str.ofString ">")) = true then _ else _
        rw [sg_lit _ (c := 62)]
        cases h62 : hB (· == 62) (((tl z).drop j).drop (blN ((tl z).drop j))) with
        | true =>
          refine iteT ?_
          obtain ⟨r, hr2⟩ := hB_true h62
          rw [tg_end (.inl (by rw [hr2]; rfl)), hr2] at e
          refine ⟨_, rfl, _, _, rfl, rfl, _, rfl, (by show 4 ≤ sizeLine; decide), ret H3 _ true false s3 e _ _ (by show _ = ((i + (1 + blN ((tl z).drop j) + (j - i)) : Nat) : Int); omega) (fun _ => rfl)⟩
        | false =>
          refine iteF ?_
          refine ⟨_, rfl, _, rfl, _, rfl, _, rfl, _, _, rfl, rfl, _, rfl, z, rfl, g.line, ?_⟩
          rw [cut_one, ed2]
          refine ⟨rfl, _, rfl, ?_⟩
          show if decide (V.str (sg (((tl z).drop j).drop (blN ((tl z).drop j)))) = V.str (Str.ofString "/")) = true then _ else _
          rw [sg_lit _ (c := 47)]
          cases h47 : hB (· == 47) (((tl z).drop j).drop (blN ((tl z).drop j))) with
          | true =>
            refine iteT ?_
            obtain ⟨r, hr2⟩ := hB_true h47
            obtain ⟨x1, x2⟩ := ex_end h47
            have htg := tg_end (ks := ks) (l := (tl z).drop j) (.inl (by rw [hr2]; rfl))
            rw [htg] at e
            refine ⟨_, rfl, _, rfl, z, Str.ofString "/>", j + blN ((tl z).drop j), rfl, g, by omega, fun H4 t4 s4 ht4 => ?_⟩
            rw [lit (s := "/>") (l := [47, 62]), tl_mkS, ed2, x1] at ht4
            refine ⟨t4, _, rfl, SqT.of ht4, rfl, _, _, rfl, _, _, rfl, rfl, ?_⟩
            refine ⟨_, rfl, _, rfl, _, rfl, (by show 4 ≤ sizeLine; decide), ret H4 _ _ _ (s3.trans s4) e _ _ ?_ (fun _ => x2.symm)⟩
            omega
          | false =>
            refine iteF ?_
            refine ⟨_, rfl, _, rfl, rfl, _, rfl, ?_⟩
            show if decide (V.int ((j + blN ((tl z).drop j) : Nat) : Int) = V.int (j : Int)) = true then _ else _
            have hst : stopB (((tl z).drop j).drop (blN ((tl z).drop j))) = false := by
              cases y : ((tl z).drop j).drop (blN ((tl z).drop j)) with
              | nil => rfl
              | cons c r =>
                rw [y] at h62 h47
                have a1 : (c == 62) = false := h62
                have a2 : (c == 47) = false := h47
                show (c == 47 || c == 62) = false
                rw [a1, a2]
                rfl
            by_cases hb0 : blN ((tl z).drop j) = 0
            · rw [decide_eq_true (by rw [hb0]; rfl)]
              refine iteT ?_
              have een : endN (((tl z).drop j).drop (blN ((tl z).drop j))) = (0, false, true) := by
                unfold endN
                split
                · rename_i r y
                  rw [y] at hst
                  cases hst
                · rename_i r y
                  rw [y] at hst
                  cases hst
                · rfl
              rw [tg_end (.inr hb0), een, hb0] at e
              refine ⟨_, rfl, _, rfl, (by show 4 ≤ sizeLine; decide), ret H3 _ _ _ s3 e _ _ ?_ (fun h => by cases h)⟩
              omega
            · rw [decide_eq_false (fun h => by
                have := V.int.inj h
                omega)]
              refine iteF ?_
              have htg := tg_go (ks := ks) hst hb0
              have hn2 := nmN_le (((tl z).drop j).drop (blN ((tl z).drop j)))
              rw [List.length_drop, List.length_drop] at hn2
              refine ⟨_, rfl, _, rfl, z, j + blN ((tl z).drop j), rfl, g, by omega, fun H4 t4 s4 ht4 => ?_⟩
              rw [ed2] at ht4
              refine ⟨t4, _, rfl, SqT.of ht4, rfl, _, _, rfl, _, _, rfl, rfl, ?_⟩
              refine ⟨_, rfl, _, rfl, ?_⟩
              generalize hl2 : ((tl z).drop j).drop (blN ((tl z).drop j)) = l2 at *
              cases hnn : (nmN l2).2 with
              | false =>
                refine iteT ?_
                refine iteT ?_
                have eat : atN ks l2 = ((nmN l2).1, false) := by
                  unfold atN
                  rw [if_pos hnn]
                rw [htg, eat, if_neg Bool.false_ne_true] at e
                refine ⟨_, rfl, _, rfl, (by show 4 ≤ sizeLine; decide), ret H4 _ _ _ (s3.trans s4) e _ _ ?_ (fun h => by cases h)⟩
                omega
              | true =>
                refine iteF ?_
                have hnp := nm_pos hnn
                have hxd4 := s4 _ _ hxd
                have h04 : H d = none := h0d
                have ed3 : (tl z).drop (j + blN ((tl z).drop j) + (nmN l2).1) = l2.drop (nmN l2).1 := by rw [drop_add, ed2]
                have ec2 : cutS z (some ((j + blN ((tl z).drop j) : Nat) : Int)) (some ((j + blN ((tl z).drop j) + (nmN l2).1 : Nat) : Int)) = mkS (l2.take (nmN l2).1) := by
                  rw [cut_nat, ed2, show j + blN ((tl z).drop j) + (nmN l2).1 - (j + blN ((tl z).drop j)) = (nmN l2).1 by omega]
                refine ⟨_, rfl, _, rfl, _, rfl, _, rfl, _, rfl, z, rfl, g.line, _, rfl, d, _, rfl, .inl (SqL.of hxd4), rfl, flat_known xs, ?_⟩
                rw [if_neg Bool.false_ne_true, ec2, in_known]
                refine ⟨_, rfl, ?_⟩
                by_cases hin : l2.take (nmN l2).1 ∈ xs
                · rw [decide_eq_true hin]
                  refine iteT ?_
                  have eat : atN ks l2 = ((nmN l2).1, false) := by
                    unfold atN
                    rw [if_neg (by rw [hnn]; simp), if_pos ((hxk _).mp hin)]
                  rw [htg, eat, if_neg Bool.false_ne_true] at e
                  refine ⟨_, rfl, _, rfl, (by show 4 ≤ sizeLine; decide), ret H4 _ _ _ (s3.trans s4) e _ _ ?_ (fun h => by cases h)⟩
                  omega
                · rw [decide_eq_false hin]
                  refine iteF ?_
                  have eat := at_unfold (ks := ks) hnn (fun h => hin ((hxk _).mpr h))
                  have hzl := g.len
                  refine ⟨_, rfl, .inl ⟨rfl, _, SqL.of hxd4⟩, _, rfl, _, rfl, _, rfl, _, rfl, _, rfl, z, rfl, g.line, d, _, V.str (cutS z (some ((j + blN ((tl z).drop j) : Nat) : Int)) (some ((j + blN ((tl z).drop j) + (nmN l2).1 : Nat) : Int))), rfl, rfl, hxd4, by rw [List.length_map, sizeLine_eq]; omega, ?_⟩
                  rw [ec2]
                  have s5 : Same H (upd H4 d (.lst ((xs.map fun n => V.str (mkS n)) ++ [V.str (mkS (l2.take (nmN l2).1))]))) := same_upd0 (s3.trans s4) h0d
                  have hd5 : upd H4 d (.lst ((xs.map fun n => V.str (mkS n)) ++ [V.str (mkS (l2.take (nmN l2).1))])) d = some (.lst ((xs ++ [l2.take (nmN l2).1]).map fun n => V.str (mkS n))) := by
                    rw [upd_same, List.map_append]
                    rfl
                  generalize upd H4 d (.lst ((xs.map fun n => V.str (mkS n)) ++ [V.str (mkS (l2.take (nmN l2).1))])) = H5 at s5 hd5 ⊢
                  have hxk2 : ∀ s, s ∈ xs ++ [l2.take (nmN l2).1] ↔ s ∈ l2.take (nmN l2).1 :: ks := fun s => by
                    rw [List.mem_append, List.mem_singleton, List.mem_cons, hxk, Or.comm]
                  have hb3 := blN_le (l2.drop (nmN l2).1)
                  have hl2l : l2.length = z.length - (j + blN ((tl z).drop j)) := by
                    rw [← hl2, List.length_drop, List.length_drop]
                    omega
                  rw [List.length_drop] at hb3
                  refine ⟨_, rfl, _, rfl, _, rfl, z, j + blN ((tl z).drop j) + (nmN l2).1, rfl, g, by omega, ?_⟩
                  rw [ed3]
                  have ed4 : (tl z).drop (j + blN ((tl z).drop j) + (nmN l2).1 + blN (l2.drop (nmN l2).1)) = (l2.drop (nmN l2).1).drop (blN (l2.drop (nmN l2).1)) := by rw [drop_add, ed3]
                  refine ⟨z, Str.ofString "=", j + blN ((tl z).drop j) + (nmN l2).1 + blN (l2.drop (nmN l2).1), rfl, g, by omega, fun H6 t6 s6 ht6 => ?_⟩
                  rw [lit (s := "=") (l := [61]), tl_mkS, ed4] at ht6
                  refine ⟨t6, _, rfl, SqT.of ht6, rfl, _, _, rfl, _, _, rfl, rfl, ?_⟩
                  refine ⟨_, rfl, _, rfl, ?_⟩
                  have s6' := s5.trans s6
                  have hd6 := s6 _ _ hd5
                  cases h61 : (exN [61] ((l2.drop (nmN l2).1).drop (blN (l2.drop (nmN l2).1)))).2 with
                  | false =>
                    refine iteF ?_
                    obtain ⟨x1, x2⟩ := ex_ne h61
                    have eat2 : atN ks l2 = (blN (l2.drop (nmN l2).1) + (nmN l2).1, false) := by
                      rw [eat]
                      split
                      · rename_i r3 h
                        exact absurd h (x1 r3)
                      · rfl
                    rw [htg, eat2, if_neg Bool.false_ne_true] at e
                    refine ⟨z.length - (j + blN ((tl z).drop j) + (nmN l2).1 + blN (l2.drop (nmN l2).1) + (exN [61] ((l2.drop (nmN l2).1).drop (blN (l2.drop (nmN l2).1)))).1), ?_, _, false, _, _, _, rfl, rfl, s6', hd6, hxk2, ?_, ?_, ?_, (fun h => by cases h), fun _ => ?_⟩
                    · rw [x2]
                      omega
                    · rw [List.length_append]
                      show xs.length + 1 ≤ _
                      omega
                    · omega
                    · rw [x2]
                      omega
                    · rw [e, x2]
                      dsimp only
                      rw [show blN (l2.drop (nmN l2).1) + (nmN l2).1 + blN ((tl z).drop j) + (j - i) = j + blN ((tl z).drop j) + (nmN l2).1 + blN (l2.drop (nmN l2).1) + 0 - i by omega]
                  | true =>
                    refine iteT ?_
                    obtain ⟨r3, hr3, x2⟩ := ex_eq h61
                    rw [hr3] at eat ed4
                    replace eat : atN ks l2 = ((vlN (r3.drop (blN r3))).1 + (blN r3) + 1 + blN (l2.drop (nmN l2).1) + (nmN l2).1, (vlN (r3.drop (blN r3))).2) := eat
                    rw [x2]
                    have ed5 : (tl z).drop (j + blN ((tl z).drop j) + (nmN l2).1 + blN (l2.drop (nmN l2).1) + 1) = r3 := by
                      rw [drop_add, ed4]
                      rfl
                    have hr3l := congrArg List.length hr3
                    rw [List.length_drop, List.length_drop, List.length_cons] at hr3l
                    have hb4 := blN_le r3
                    have hv4 := vlN_le (r3.drop (blN r3))
                    rw [List.length_drop] at hv4
                    refine ⟨_, rfl, _, rfl, _, rfl, z, j + blN ((tl z).drop j) + (nmN l2).1 + blN (l2.drop (nmN l2).1) + 1, rfl, g, by omega, ?_⟩
                    rw [ed5]
                    refine ⟨z, j + blN ((tl z).drop j) + (nmN l2).1 + blN (l2.drop (nmN l2).1) + 1 + blN r3, rfl, g, by omega, fun H7 t7 s7 ht7 => ?_⟩
                    have ed6 : (tl z).drop (j + blN ((tl z).drop j) + (nmN l2).1 + blN (l2.drop (nmN l2).1) + 1 + blN r3) = r3.drop (blN r3) := by rw [drop_add, ed5]
                    rw [ed6] at ht7
                    refine ⟨t7, _, rfl, SqT.of ht7, rfl, _, _, rfl, _, _, rfl, rfl, ?_⟩
                    refine ⟨z.length - (j + blN ((tl z).drop j) + (nmN l2).1 + blN (l2.drop (nmN l2).1) + 1 + blN r3 + (vlN (r3.drop (blN r3))).1), ?_, _, (vlN (r3.drop (blN r3))).2, _, _, _, rfl, rfl, s6'.trans s7, s7 _ _ hd6, hxk2, ?_, ?_, ?_, fun h => ?_, fun h => ?_⟩
                    · omega
                    · rw [List.length_append]
                      show xs.length + 1 ≤ _
                      omega
                    · omega
                    · omega
                    · rw [htg, eat, h, if_pos rfl] at e
                      rw [e]
                      have ed7 : (tl z).drop (j + blN ((tl z).drop j) + (nmN l2).1 + blN (l2.drop (nmN l2).1) + 1 + blN r3 + (vlN (r3.drop (blN r3))).1) = l2.drop ((vlN (r3.drop (blN r3))).1 + (blN r3) + 1 + blN (l2.drop (nmN l2).1) + (nmN l2).1) := by
                        rw [show j + blN ((tl z).drop j) + (nmN l2).1 + blN (l2.drop (nmN l2).1) + 1 + blN r3 + (vlN (r3.drop (blN r3))).1 = j + blN ((tl z).drop j) + ((vlN (r3.drop (blN r3))).1 + (blN r3) + 1 + blN (l2.drop (nmN l2).1) + (nmN l2).1) by omega, drop_add, ed2]
                      rw [ed7]
                      dsimp only
                      rw [show ∀ a : Nat, a + ((vlN (r3.drop (blN r3))).1 + blN r3 + 1 + blN (l2.drop (nmN l2).1) + (nmN l2).1) + blN ((tl z).drop j) + (j - i) = a + (j + blN ((tl z).drop j) + (nmN l2).1 + blN (l2.drop (nmN l2).1) + 1 + blN r3 + (vlN (r3.drop (blN r3))).1 - i) by intro a; omega]
                    · rw [htg, eat, h, if_neg Bool.false_ne_true] at e
                      rw [e]
                      dsimp only
                      rw [show (vlN (r3.drop (blN r3))).1 + blN r3 + 1 + blN (l2.drop (nmN l2).1) + (nmN l2).1 + blN ((tl z).drop j) + (j - i) = j + blN ((tl z).drop j) + (nmN l2).1 + blN (l2.drop (nmN l2).1) + 1 + blN r3 + (vlN (r3.drop (blN r3))).1 - i by omega]
end
end K2
/-! K02Ld -/
namespace K2
open PySem PySem.Spec PyProof.Rows L2 TL
/-- the known numbers, in the law's order -/
def knP (t : Nat) : List Nat := (List.range' 32 t).filter (· != 37)
def knL : List Nat := [9, 10] ++ knP 95
def iv (l : List Nat) : List V := l.map fun n : Nat => V.int (n : Int)
theorem kn_lt : ∀ m ∈ knL, m < 127 := by decide +kernel
theorem kn_dec : ∀ n, n < 127 → decide (n ∈ knL) = known n := by decide +kernel
theorem mem_kn (n : Nat) : decide (n ∈ knL) = known n := by
  by_cases h : n < 127
  · exact kn_dec n h
  · have h1 : ¬ n ∈ knL := fun z => h (kn_lt n z)
    rw [decide_eq_false h1]
    have a1 : (n == 9) = false := by simp; omega
    have a2 : (n == 10) = false := by simp; omega
    have a3 : decide (n ≤ 126) = false := decide_eq_false (by omega)
    unfold known
    rw [a1, a2, a3]
    simp
def nearN (b n m : Nat) : Bool := n == m || n == m / b || n == m / b / b
theorem leads_kn (b n : Nat) : leads b n = knL.any (nearN b n) := by
  rw [Bool.eq_iff_iff]
  unfold leads
  rw [List.any_eq_true, List.any_eq_true]
  constructor
  · rintro ⟨m, h1, h2⟩
    rw [Bool.and_eq_true] at h2
    have := mem_kn m
    rw [h2.1] at this
    exact ⟨m, of_decide_eq_true this, h2.2⟩
  · rintro ⟨m, h1, h2⟩
    have h3 := mem_kn m
    rw [decide_eq_true h1] at h3
    refine ⟨m, List.mem_range.mpr (kn_lt m h1), ?_⟩
    rw [← h3, Bool.true_and]
    exact h2
theorem leads_le {b n : Nat} (h : leads b n = true) : n ≤ 126 := by
  rw [leads_kn, List.any_eq_true] at h
  obtain ⟨m, h1, h2⟩ := h
  have h3 := kn_lt m h1
  have h4 := Nat.div_le_self m b
  have h5 := Nat.div_le_self (m / b) b
  unfold nearN at h2
  simp only [Bool.or_eq_true, beq_iff_eq] at h2
  omega
theorem knP_succ (t : Nat) : knP (t + 1) = if t = 5 then knP t else knP t ++ [32 + t] := by
  unfold knP
  rw [List.range'_1_concat, List.filter_append]
  by_cases h : t = 5
  · subst h
    rfl
  · rw [if_neg h]
    have : (32 + t != 37) = true := by simp; omega
    simp [List.filter, this]
theorem inV_iv (n : Nat) (l : List Nat) : inV (.int n) (iv l) = decide (n ∈ l) := by
  induction l with
  | nil => rfl
  | cons a l ih =>
    show (((a : Int) == (n : Int)) || inV (.int n) (iv l)) = _
    rw [ih, Bool.eq_iff_iff]
    simp only [Bool.or_eq_true, beq_iff_eq, decide_eq_true_iff, List.mem_cons]
    have : ((a : Int) = (n : Int)) ↔ n = a := by omega
    rw [this]
theorem flat_iv (l : List Nat) : (iv l).all flatV = true := by
  induction l with
  | nil => rfl
  | cons a l ih =>
    show (flatV (.int a) && (iv l).all flatV) = true
    rw [ih]
    rfl
theorem op_in_seqK {X : Cx} {K : PySem.W.Frag} (h : X.K = K) : OpR X (compareOp .In) (rIn K false) := h ▸ op_in_seq
theorem inV3 (n a b c : Nat) : inV (.int n) [.int (a : Int), .int (b : Int), .int (c : Int)] = (n == a || n == b || n == c) := by
  show (((a : Int) == (n : Int)) || (((b : Int) == (n : Int)) || (((c : Int) == (n : Int)) || false))) = _
  have e : ∀ x : Nat, ((x : Int) == (n : Int)) = (n == x) := fun x => by
    rw [Bool.eq_iff_iff]
    simp only [beq_iff_eq]
    omega
  rw [e, e, e, Bool.or_false, Bool.or_assoc]
theorem filter_emp (p : Nat → Bool) (l : List Nat) : (l.filter p).isEmpty = !l.any p := by
  induction l with
  | nil => rfl
  | cons a l ih =>
    rw [List.filter_cons, List.any_cons]
    cases p a with
    | true => rfl
    | false => simpa using ih
theorem dpAll_iv {K : PySem.W.Frag} {H : Hp} (l : List Nat) : DpAll K H (iv l) (l.map fun n : Nat => PyData.int n) := by
  induction l with
  | nil => exact .nil
  | cons a l ih => exact .cons (.int _) ih
theorem eqv_nil (l : List Nat) : PyData.eqv (.list (l.map fun n : Nat => PyData.int n)) (.list []) = l.isEmpty := by
  cases l <;> rfl
theorem shaped_iv (l : List Nat) : SeqAt.shaped (.list (l.map fun n : Nat => PyData.int n)) = true := by
  have h1 : ∀ l : List Nat, PyData.canLay0 (.list (l.map fun n : Nat => PyData.int n)) = true := fun l => by
    induction l with
    | nil => rfl
    | cons a l ih => simpa [PyData.canLay0, PyData.canLayAll0] using ih
  have h2 : ∀ l : List Nat, PyData.depth (.list (l.map fun n : Nat => PyData.int n)) ≤ 2 := fun l => by
    induction l with
    | nil => decide
    | cons a l ih => simpa [PyData.depth, PyData.depthAll] using ih
  unfold SeqAt.shaped
  rw [h1, decide_eq_true (Nat.le_trans (h2 l) (by decide))]
  rfl
theorem index_fd (x y : Str) (hy : tl y ≠ []) : Txt.index0 x y = fdN (tl y) (tl x) := by
  have e : ((tl x).drop 0).take (x.length - 0) = tl x := by
    rw [List.drop_zero]
    exact List.take_of_length_le (by rw [len_tl x]; omega)
  unfold Txt.index0
  rcases occ_fd x y 0 x.length (Nat.zero_le _) (Nat.le_refl _) hy with ⟨h1, h2⟩ | ⟨j, r, h1, h2⟩
  · rw [e] at h1
    rw [h1, h2]
    rfl
  · rw [e] at h1
    rw [h1, h2, Nat.zero_add]
    rfl
theorem dgN_no {b acc : Nat} {st : Bool} {c : Nat} {r : List Nat} (h : dig b c = none) : dgN b acc st (c :: r) = if c = 59 ∧ st = true ∧ known acc = true then (1, true) else (0, false) := by
  rw [dgN_cons, h]
theorem dgN_stop {b acc c d : Nat} {st : Bool} {r : List Nat} (h : dig b c = some d) (hl : leads b (acc * b + d) = false) : dgN b acc st (c :: r) = (0, false) := by
  rw [dgN_cons, h]
  show (if leads b (acc * b + d) then _ else _) = _
  rw [hl]
  rfl
theorem free0 {H H1 : Hp} {d : Addr} (s : Same H H1) (h : H1 d = none) : H d = none := by
  cases e : H d with
  | none => rfl
  | some u => rw [s _ _ e] at h; cases h
section
variable {P : Program} {w : World} {K : PySem.W.Frag} {mg : Str → Option Value} {base : Heap}
theorem ok_Lnumber (T : Tx w K mg) : Ok P w K mg base CX0 1 (He.fAd K d_Lnumber.at_) p_Lnumber (spLp nrN) := by
  obtain ⟨fd, F⟩ := f_Lnumber T
  refine ⟨fd, ?_, b_Lnumber F, F.kp⟩
  refine F.ok sc_Lnumber (fun vs H Q E h => ?_) (fun cdv A outer s H vs Q E hr h => ?_)
  · obtain ⟨z, i, rfl, _⟩ := h
    rfl
  · obtain ⟨z, i, rfl, g, hi, kk⟩ := h
    have nd := sc_Lnumber.nd
    have hlen : z.length = (tl z).length := len_tl z
    refine ⟨_, PSs.nox (pss_cons (ps_asg (pe_tup (pa_cons pe_str (pa_cons pe_int pa_nil))) (pg_tup (by rfl) (pgs_cons (pg_name (i := 2) nd rfl (.inr rfl)) (pgs_cons (pg_name (i := 3) nd rfl (.inr rfl)) pgs_nil))))
      (pss_cons (ps_set (i := 4) nd rfl (.inl rfl) (pe_op op_cat (pe_lst (pa_cons pe_int (pa_cons pe_int pa_nil)))
        (pe_lc (own := [("_law_one", 6)]) (g := gName 6) (by rfl) nd (pi_range2 (by rfl) (n_range T) (pa_cons pe_int (pa_cons pe_int pa_nil))) (blkOk_by (own := [("_law_one", 6)]) (N := N_Lnumber) (sc := defScope s_Lnumber) (by decide +kernel))
            (fun _ _ _ _ _ => pg_name (i := 6) nd rfl (Or.inl rfl)) (fun _ _ _ _ _ => pts_one (pt_cmpR op_ne (pv 6) pe_int (nomark _))) (fun _ _ _ _ _ => pv 6))))
      (Evl.pss_cut (ps_if (pt_cmpR op_eq (pe_slice sl_str (pv 0) (po_some (pv 1)) (po_some (pe_op op_add (pv 1) pe_int))) pe_str (nomark _)) (pss_one (ps_asg (pe_tup (pa_cons (pe_op op_add (pv 1) pe_int) (pa_cons pe_str pa_nil))) (pg_tup (by rfl) (pgs_cons (pg_name (i := 1) nd rfl (.inl rfl)) (pgs_cons (pg_name (i := 2) nd rfl (.inr rfl)) pgs_nil))))) pss_nil)
      (pss_cons (ps_set (i := 5) nd rfl (.inl rfl) (pv 1))
      (pss_cons (ps_while PassesOwn.never (pw_and (pt_cmpR op_lt (pv 1) (pe_callB call_len (by rfl) (n_len T) PySem.boot_len (pa_cons (pv 0) pa_nil)) (nomark _))
          (pw_and1 (pt_cmpR op_in_sign (pe_m0 PySem.F.slot_str_lower PySem.F.type_str_lower mt_lower (pe_ix ix_str (pv 0) (pv 1) (fun _ _ => rfl))) (pv 2) (by rfl)))).pt
        (pss_cons (ps_set (i := 3) nd rfl (.inr rfl) (pe_op op_add (pe_op op_mul (pv 3) (pe_callB call_len (by rfl) (n_len T) PySem.boot_len (pa_cons (pv 2) pa_nil)))
            (pe_bmS PySem.F.plainAttrs_str PySem.F.slot_str_index PySem.F.type_str_index (mt_indexX rfl takes0) (pv 2) (pa_cons (pe_m0 PySem.F.slot_str_lower PySem.F.type_str_lower mt_lower (pe_ix ix_str (pv 0) (pv 1) (fun _ _ => rfl))) pa_nil))))
        (pss_cons (ps_if (pt_cmpR (op_eqD hr.units) (pe_lc (own := [("_law_one", 6)]) (g := gName 6) (by rfl) nd (pi_list (pv 4)) (blkOk_by (own := [("_law_one", 6)]) (N := N_Lnumber) (sc := defScope s_Lnumber) (by decide +kernel))
            (fun _ _ _ _ _ => pg_name (i := 6) nd rfl (Or.inl rfl))
            (fun _ _ _ _ _ => pts_one (pt_cmpR (op_in_seqK (K := K) (by rfl)) (pv 3) (pe_tup (pa_cons (pv 6) (pa_cons (pe_op op_fdivNN (pv 6) (pe_callB call_len_str (by rfl) (n_len T) PySem.boot_len (pa_cons (pv 2) pa_nil)))
              (pa_cons (pe_op op_fdivNN (pe_op op_fdivNN (pv 6) (pe_callB call_len_str (by rfl) (n_len T) PySem.boot_len (pa_cons (pv 2) pa_nil))) (pe_callB call_len_str (by rfl) (n_len T) PySem.boot_len (pa_cons (pv 2) pa_nil))) pa_nil)))) (by rfl))) (fun _ _ _ _ _ => pv 6)) (pe_lst pa_nil) (nomark _))
          (pss_one (ps_ret (pe_tup (pa_cons (pv 1) (pa_cons pe_bl pa_nil))))) pss_nil)
        (pss_one (ps_set (i := 1) nd rfl (.inl rfl) (pe_op op_add (pv 1) pe_int))))))
      (pss_cons (ps_if (pw_or (pt_cmpR op_eq (pv 1) (pv 5) (nomark _)) (pw_or (pt_cmpR op_ne (pe_slice sl_str (pv 0) (po_some (pv 1)) (po_some (pe_op op_add (pv 1) pe_int))) pe_str (nomark _)) (pw_or1 (pt_cmpR op_notIn_seq (pv 3) (pv 4) (by rfl))))).pt
        (pss_one (ps_ret (pe_tup (pa_cons (pv 1) (pa_cons pe_bl pa_nil))))) pss_nil)
      (pss_one (ps_ret (pe_tup (pa_cons (pe_op op_add (pv 1) pe_int) (pa_cons pe_bl pa_nil))))))))))), ?_⟩
    have ret : ∀ (H1 : Hp) (n : Nat) (b : Bool), Same H H1 → nrN ((tl z).drop i) = (n, b) → ∀ j : Int, j = ((i + n : Nat) : Int) → ∀ p, H1 p = none → Q (.ref p) (upd H1 p (.tup [.int j, .bl b])) := by
      intro H1 n b s1 e j hj p hp
      rw [e] at kk
      subst hj
      exact kk _ p (s1.trans (same_new hp)) upd_same
    refine ⟨by decide, fun t ht => ⟨t, _, rfl, SqT.of upd_same, rfl, _, _, rfl, _, _, rfl, rfl, ?_⟩⟩
    have s1 : Same H (upd H t (.tup [.str (Str.ofString "0123456789"), .int 0])) := same_new ht
    generalize upd H t (.tup [.str (Str.ofString "0123456789"), .int 0]) = H1 at s1 ⊢
    refine ⟨by show 2 ≤ sizeLine; decide, fun p0 hp0 => ?_⟩
    have s2 : Same H (upd H1 p0 (.lst (iv [9, 10]))) := s1.trans (same_new hp0)
    refine ⟨32, 127, rfl, by decide, fun D hD => ?_⟩
    refine lc_it walk_range (fun t H2 => Same H H2 ∧ H2 p0 = some (.lst (iv [9, 10])) ∧ H2 D = some (.lst (iv (knP t))) ∧ (knP t).length ≤ t) ⟨s2.trans (same_new hD), by rw [upd_ne (fun e => by subst e; rw [upd_same] at hD; cases hD)]; exact upd_same, upd_same, Nat.le_refl _⟩ (fun t H2 _ h => trivial) ?_ ?_
    · rintro t x H2 H3 ht ⟨s3, hp, hDD, hl⟩ ⟨rfl, rfl⟩
      refine ⟨rfl, _, rfl, rfl, _, rfl, ?_⟩
      show if (!decide (V.int (32 + (t : Int)) = V.int 37)) = true then _ else _
      have hps := knP_succ t
      have ht' : t < 95 := ht
      by_cases h5 : t = 5
      · subst h5
        refine iteF ?_
        refine ⟨s3, hp, ?_, ?_⟩
        · rw [hps, if_pos rfl]
          exact hDD
        · rw [hps, if_pos rfl]
          omega
      · rw [decide_eq_false (fun e => by
          have := V.int.inj e
          omega)]
        refine iteT ?_
        rw [if_neg h5] at hps
        refine ⟨_, rfl, iv (knP t), hDD, ?_, same_upd0 s3 (free0 s2 hD), ?_, ?_, ?_⟩
        · show ((knP t).map _).length < _
          rw [List.length_map, sizeLine_eq]
          omega
        · rw [upd_ne (fun e => by subst e; rw [upd_same] at hD; cases hD)]
          exact hp
        · rw [upd_same, hps]
          unfold iv
          rw [List.map_append]
          rfl
        · rw [hps, List.length_append]
          show (knP t).length + 1 ≤ t + 1
          omega
    · rintro H2 ⟨s3, hp, hDD, hl⟩
      refine ⟨p0, D, _, _, rfl, rfl, hp, hDD, ?_, fun L hL => ?_⟩
      · rw [sizeLine_eq]
        decide +kernel
      have s4 : Same H (upd H2 L (.lst (iv [9, 10] ++ iv (knP (127 - 32 : Int).toNat)))) := s3.trans (same_new hL)
      have hk : upd H2 L (.lst (iv [9, 10] ++ iv (knP (127 - 32 : Int).toNat))) L = some (.lst (iv knL)) := by
        rw [upd_same]
        show some (HO.lst (iv [9, 10] ++ iv (knP 95))) = _
        unfold iv knL
        rw [List.map_append]
      have hLp : L ≠ p0 := fun e => by subst e; rw [hp] at hL; cases hL
      generalize upd H2 L (.lst (iv [9, 10] ++ iv (knP (127 - 32 : Int).toNat))) = H4 at s4 hk ⊢
      refine ⟨fun σ H5 => ∃ (b k : Nat) (v5 v6 : Option V), (b = 10 ∨ b = 16) ∧ σ = [some (V.str z), some (.int ((i + k : Nat) : Int)), some (.str (dgS b)), some (.int ((0 : Nat) : Int)), some (.ref L), v5, v6] ∧ Same H H5 ∧ H5 L = some (.lst (iv knL)) ∧ i + k ≤ z.length ∧ nrN ((tl z).drop i) = ((dgN b 0 false ((tl z).drop (i + k))).1 + k, (dgN b 0 false ((tl z).drop (i + k))).2), ?_, ?_⟩
      · refine ⟨_, rfl, _, rfl, _, rfl, _, rfl, _, _, rfl, rfl, _, rfl, z, rfl, g.line, ?_⟩
        rw [cut_one]
        refine ⟨rfl, _, rfl, ?_⟩
        show if decide (V.str (sg ((tl z).drop i)) = V.str (Str.ofString "x")) = true then _ else _
        rw [sg_lit _ (c := 120)]
        cases hx : hB (· == 120) ((tl z).drop i) with
        | false =>
          refine iteF ?_
          exact ⟨10, 0, none, _, .inl rfl, rfl, s4, hk, hi, by
            rw [Nat.add_zero, Nat.add_zero]
            exact nrN_d (hB_false (by rw [hx]; exact Bool.false_ne_true))⟩
        | true =>
          refine iteT ?_
          obtain ⟨r, hr'⟩ := hB_true hx
          have hdc := drop_cons hr'
          refine ⟨_, rfl, _, _, rfl, rfl, by show 2 ≤ sizeLine; decide, fun t5 ht5 => ⟨t5, _, rfl, SqT.of upd_same, rfl, _, _, rfl, _, _, rfl, rfl, ?_⟩⟩
          refine ⟨16, 1, none, none, .inr rfl, ?_, s4.trans (same_new ht5), ?_, by omega, ?_⟩
          · show [some (V.str z), some (.int ((i : Int) + 1)), _, _, _, _, _] = _
            rw [show ((i : Int) + 1) = ((i + 1 : Nat) : Int) by omega]
            rfl
          · exact (same_new ht5) _ _ hk
          · rw [hr', nrN_x, hdc.2]
      · rintro σ H5 ⟨b, k, v5, v6, hb, rfl, s5, hk5, hik, e⟩
        have hbl : (dgS b).length ≤ sizeLine := by rw [dg_len b hb, sizeLine_eq]; omega
        refine ⟨_, rfl, ?_⟩
        refine while_x (fun mm σ H6 => ∃ (j n : Nat) (v6 : Option V), mm = z.length - j ∧ σ = [some (V.str z), some (.int (j : Int)), some (.str (dgS b)), some (.int (n : Int)), some (.ref L), some (.int ((i + k : Nat) : Int)), v6] ∧ Same H H6 ∧ H6 L = some (.lst (iv knL)) ∧ i + k ≤ j ∧ j ≤ z.length ∧ n ≤ 126 ∧ nrN ((tl z).drop i) = ((dgN b n (decide (i + k < j)) ((tl z).drop j)).1 + (j - i), (dgN b n (decide (i + k < j)) ((tl z).drop j)).2))
          (fun σ H6 => ∃ (j n : Nat) (v6 : Option V), σ = [some (V.str z), some (.int (j : Int)), some (.str (dgS b)), some (.int (n : Int)), some (.ref L), some (.int ((i + k : Nat) : Int)), v6] ∧ Same H H6 ∧ H6 L = some (.lst (iv knL)) ∧ i + k ≤ j ∧ j ≤ z.length ∧ n ≤ 126 ∧ nrN ((tl z).drop i) = ((dgN b n (decide (i + k < j)) ((tl z).drop j)).1 + (j - i), (dgN b n (decide (i + k < j)) ((tl z).drop j)).2) ∧ ∀ c r, (tl z).drop j = c :: r → dig b c = none)
          ⟨_, i + k, 0, v6, rfl, rfl, s5, hk5, Nat.le_refl _, hik, by omega, by
            rw [e, decide_eq_false (by omega), show i + k - i = k by omega]⟩ ?_ ?_
        · rintro σ H6 ⟨j, n, v6, rfl, s6, hk6, hij, hj, hn, e6, hno⟩
          refine ⟨_, rfl, _, rfl, rfl, _, rfl, ?_⟩
          show if decide (V.int (j : Int) = V.int ((i + k : Nat) : Int)) = true then _ else _
          by_cases hjk : j = i + k
          · rw [decide_eq_true (by rw [hjk])]
            refine iteT ?_
            refine iteT ?_
            have e7 : nrN ((tl z).drop i) = (j - i, false) := by
              rw [e6, decide_eq_false (by omega)]
              cases y : (tl z).drop j with
              | nil =>
                show (0 + (j - i), false) = _
                rw [Nat.zero_add]
              | cons c r =>
                rw [dgN_no (hno c r y), if_neg (fun h => by cases h.2.1), Nat.zero_add]
            exact ⟨_, rfl, (by show 2 ≤ sizeLine; decide), ret H6 _ false s6 e7 _ (by omega)⟩
          · rw [decide_eq_false (fun h => hjk (by
              have := V.int.inj h
              omega))]
            refine iteF ?_
            rw [decide_eq_true (by omega)] at e6
            refine ⟨_, rfl, _, rfl, _, rfl, _, rfl, _, _, rfl, rfl, _, rfl, z, rfl, g.line, ?_⟩
            rw [cut_one]
            refine ⟨rfl, _, rfl, ?_⟩
            show if (!decide (V.str (sg ((tl z).drop j)) = V.str (Str.ofString ";"))) = true then _ else _
            rw [sg_lit _ (c := 59)]
            cases h59 : hB (· == 59) ((tl z).drop j) with
            | false =>
              refine iteT ?_
              refine iteT ?_
              have h59' := hB_false (c := 59) (l := (tl z).drop j) (by rw [h59]; exact Bool.false_ne_true)
              have e7 : nrN ((tl z).drop i) = (j - i, false) := by
                rw [e6]
                cases y : (tl z).drop j with
                | nil =>
                  show (0 + (j - i), false) = _
                  rw [Nat.zero_add]
                | cons c r =>
                  rw [dgN_no (hno c r y), if_neg (fun h => h59' r (by rw [y, h.1])), Nat.zero_add]
              exact ⟨_, rfl, (by show 2 ≤ sizeLine; decide), ret H6 _ false s6 e7 _ (by omega)⟩
            | true =>
              refine iteF ?_
              obtain ⟨r, hr'⟩ := hB_true h59
              rw [hr', dgN_end] at e6
              refine ⟨_, rfl, _, rfl, L, _, rfl, .inl (SqL.of hk6), rfl, flat_iv _, ?_⟩
              rw [if_pos rfl, inV_iv, mem_kn]
              refine ⟨_, rfl, ?_⟩
              cases hkn : known n with
              | false =>
                refine iteT ?_
                rw [hkn, if_neg Bool.false_ne_true] at e6
                exact ⟨_, rfl, (by show 2 ≤ sizeLine; decide), ret H6 _ false s6 e6 _ (by omega)⟩
              | true =>
                refine iteF ?_
                rw [hkn, if_pos rfl] at e6
                exact ⟨_, rfl, _, _, rfl, rfl, (by show 2 ≤ sizeLine; decide), ret H6 _ true s6 e6 _ (by omega)⟩
        · rintro - mm σ H6 R ⟨j, n, v6, rfl, rfl, s6, hk6, hij, hj, hn, e6⟩ hfin hbody
          refine ⟨_, rfl, _, rfl, _, _, rfl, ⟨g.line, rfl⟩, _, _, rfl, rfl, _, rfl, ?_⟩
          show if decide (((j : Nat) : Int) < ((z.length : Nat) : Int)) = true then _ else _
          rw [len_lt hj]
          cases hl2 : (tl z).drop j with
          | nil =>
            refine iteF ?_
            exact hfin _ ⟨j, n, v6, rfl, s6, hk6, hij, hj, hn, e6, fun c r h => by rw [hl2] at h; cases h⟩
          | cons c r =>
            refine iteT ?_
            have hdj := drop_cons hl2
            have c128 := g.lt hl2
            have el : Txt.lower (mkS [c]) = mkS [lowC c] := ext_tl (by rw [lower_one c c128, tl_mkS])
            obtain ⟨f1, f2⟩ := dg_find b hb c c128
            refine ⟨_, rfl, _, rfl, z, (j : Int), c, rfl, rfl, g.line, cp_at hl2, ⟨_, rfl⟩, _, rfl, rfl, ?_, ?_⟩
            · show 1 ≤ _
              omega
            show ∃ v, _ ∧ _
            have e1 : Txt.lower ⟨#[c]⟩ = mkS [lowC c] := el
            rw [e1]
            refine ⟨_, rfl, lowC c, dgS b, rfl, rfl, _, rfl, ?_⟩
            show R (decide (lowC c ∈ tl (dgS b))) H6
            rw [f2]
            cases hd : dig b c with
            | none => exact hfin _ ⟨j, n, v6, rfl, s6, hk6, hij, hj, hn, e6, fun c' r' h => by rw [hl2] at h; cases h; exact hd⟩
            | some d =>
              refine hbody _ ?_
              rw [hd] at f1
              have hd2 := dig_lt hb hd
              have ln : LenV K (.str (dgS b)) H6 b := ⟨hbl, (dg_len b hb).symm⟩
              refine ⟨_, rfl, _, rfl, _, b, rfl, ln, _, _, rfl, rfl, .inr ⟨by omega, by omega⟩, _, rfl, rfl, _, rfl, _, rfl, z, (j : Int), c, rfl, rfl, g.line, cp_at hl2, ⟨_, rfl⟩, _, rfl, rfl, (by show 1 ≤ _; omega), dgS b, mkS [lowC c], rfl, (by rw [e1]), fun d' hdx => ?_, fun hnn => ?_⟩
              rotate_left
              · rw [index_fd _ _ (by rw [tl_mkS]; simp), tl_mkS, f1] at hnn
                cases hnn
              rw [index_fd _ _ (by rw [tl_mkS]; simp), tl_mkS, f1] at hdx
              cases hdx
              refine ⟨_, _, rfl, rfl, ?_⟩
              have en : (n : Int) * (b : Int) + (d : Int) = ((n * b + d : Nat) : Int) := by
                rw [Int.natCast_add, Int.natCast_mul]
              have hki : ∀ t, t < knL.length → (iv knL)[t]? = some (.int ((knL.getD t 0 : Nat) : Int)) := by decide +kernel
              have hkt : ∀ t, t < knL.length → knL.take (t + 1) = knL.take t ++ [knL.getD t 0] := by decide +kernel
              refine ⟨_, rfl, L, rfl, ⟨_, SqL.of hk6⟩, fun D hD => ?_⟩
              refine lc_it (walk_list (xs := iv knL)) (fun t H7 => Same H6 H7 ∧ H7 D = some (.lst (iv ((knL.take t).filter (nearN b (n * b + d))))) ∧ ((knL.take t).filter (nearN b (n * b + d))).length ≤ t)
                ⟨same_new hD, upd_same, Nat.le_refl _⟩ (fun t H7 _ h => SqL.of (h.1 _ _ hk6)) ?_ ?_
              · rintro t x H7 H8 ht ⟨s7, h7, hl7⟩ ⟨rfl, hx⟩
                have ht' : t < knL.length := by
                  have : (iv knL).length = knL.length := List.length_map ..
                  omega
                rw [hki t ht'] at hx
                cases hx
                have hm := hkt t ht'
                generalize knL.getD t 0 = m at hm ⊢
                have hb1 : 1 ≤ (dgS b).length ∧ (dgS b).length < 1073741824 := by rw [dg_len b hb]; omega
                refine ⟨rfl, _, rfl, _, rfl, _, rfl, _, rfl, _, rfl, hbl, m, _, rfl, rfl, hb1, _, rfl, _, rfl, _, rfl, hbl, m, _, rfl, rfl, hb1, _, rfl, _, rfl, hbl, m / (dgS b).length, _, rfl, rfl, hb1, (by show 3 ≤ sizeLine; decide), fun t7 ht7 => ⟨t7, _, rfl, .inr (SqT.of upd_same), rfl, rfl, ?_⟩⟩
                rw [if_neg Bool.false_ne_true]
                refine ⟨_, rfl, ?_⟩
                show if inV (.int ((n : Int) * (b : Int) + (d : Int))) [.int (m : Int), .int ((m / (dgS b).length : Nat) : Int), .int ((m / (dgS b).length / (dgS b).length : Nat) : Int)] = true then _ else _
                rw [en, inV3, dg_len b hb]
                show if nearN b (n * b + d) m = true then _ else _
                have s8 := same_new (H := H8) (o := HO.tup [V.int (m : Int), .int ((m / b : Nat) : Int), .int ((m / b / b : Nat) : Int)]) ht7
                have h8 := s8 _ _ h7
                have s9 := s7.trans s8
                generalize upd H8 t7 (HO.tup [V.int (m : Int), .int ((m / b : Nat) : Int), .int ((m / b / b : Nat) : Int)]) = H9 at s8 h8 s9 ⊢
                cases hnear : nearN b (n * b + d) m with
                | true =>
                  refine iteT ?_
                  refine ⟨_, rfl, _, h8, ?_, same_upd0 s9 hD, ?_, ?_⟩
                  · show (List.map _ _).length < _
                    rw [List.length_map, sizeLine_eq]
                    have : knL.length = 96 := by decide +kernel
                    omega
                  · rw [upd_same, hm, List.filter_append]
                    unfold iv
                    rw [List.map_append]
                    simp [List.filter, hnear]
                  · rw [hm, List.filter_append, List.length_append]
                    simp only [List.filter, hnear, List.length_cons, List.length_nil]
                    omega
                | false =>
                  refine iteF ?_
                  refine ⟨s9, ?_, ?_⟩
                  · rw [hm, List.filter_append]
                    simp only [List.filter, hnear, List.append_nil]
                    exact h8
                  · rw [hm, List.filter_append]
                    simp only [List.filter, hnear, List.append_nil]
                    omega
              · rintro H7 ⟨s7, h7, hl7⟩
                have s7' := s6.trans s7
                have hk7 := s7 _ _ hk6
                refine ⟨by decide, fun M hM => ?_⟩
                refine ⟨.list (((knL.take (iv knL).length).filter (nearN b (n * b + d))).map fun n : Nat => PyData.int n), .list [], .lst (SqL.of ((same_new hM) _ _ h7)) (dpAll_iv _), .lst (SqL.of upd_same) .nil, shaped_iv _, by decide, ?_⟩
                refine ⟨_, rfl, ?_⟩
                have eT : knL.take (iv knL).length = knL := by decide +kernel
                rw [eqv_nil, eT, filter_emp, ← leads_kn]
                cases hld : leads b (n * b + d) with
                | false =>
                  refine iteT ?_
                  rw [hl2, dgN_stop hd hld, Nat.zero_add] at e6
                  exact ⟨_, rfl, (by show 2 ≤ sizeLine; decide), ret _ _ false (s7'.trans (same_new hM)) e6 _ (by omega)⟩
                | true =>
                  refine iteF ?_
                  have hn7 := leads_le hld
                  refine ⟨_, rfl, _, _, rfl, rfl, ?_⟩
                  refine ⟨z.length - (j + 1), by omega, j + 1, n * b + d, v6, rfl, ?_, s7'.trans (same_new hM), (same_new hM) _ _ hk7, by omega, by omega, hn7, ?_⟩
                  · show [some (V.str z), some (.int ((j : Int) + 1)), some (.str (dgS b)), some (.int ((n : Int) * (b : Int) + (d : Int))), some (.ref L), _, _] = _
                    rw [en, show ((j : Int) + 1) = ((j + 1 : Nat) : Int) by omega]
                  · rw [e6, hl2, dgN_go hd hld, hdj.2, decide_eq_true (show i + k < j + 1 by omega)]
                    dsimp only
                    rw [show (dgN b (n * b + d) true r).1 + 1 + (j - i) = (dgN b (n * b + d) true r).1 + (j + 1 - i) by omega]
end
end K2
/-! K02Le -/
namespace K2
open PySem PySem.Spec PyProof.Rows L2 TL
def knownW : List (List Nat) := [[108, 116], [103, 116], [97, 109, 112], [97, 112, 111, 115], [113, 117, 111, 116]]
def knS : List Str := [Str.ofString "lt", Str.ofString "gt", Str.ofString "amp", Str.ofString "apos", Str.ofString "quot"]
theorem knS_tl : knS.map tl = knownW := by decide +kernel
theorem named_iff (x : List Nat) : x ∈ namedW ↔ ∃ w ∈ knownW, w ++ [59] = x := by
  have e : ∀ y, y ∈ namedW ↔ y ∈ knownW.map (· ++ [59]) := by
    intro y
    simp only [namedW, knownW, List.map_cons, List.map_nil, List.mem_cons, List.cons_append, List.nil_append]
    constructor
    · rintro (h | h | h | h | h | h) <;> simp [h] at *
    · rintro (h | h | h | h | h | h) <;> simp [h] at *
  rw [e, List.mem_map]
theorem known_len : ∀ w ∈ knownW, w.length ≤ 4 := by decide +kernel
theorem full_iff {p : List Nat} {c : Nat} : p ++ [c] ∈ namedW ↔ c = 59 ∧ p ∈ knownW := by
  rw [named_iff]
  constructor
  · rintro ⟨w, h1, h2⟩
    have := List.append_inj' h2 rfl
    exact ⟨(List.cons.inj this.2).1.symm, this.1 ▸ h1⟩
  · rintro ⟨rfl, h⟩
    exact ⟨p, h, rfl⟩
theorem none_iff {pc : List Nat} (hf : ¬ pc ∈ namedW) : fw namedW pc = [] ↔ ∀ w ∈ knownW, ¬ w.take pc.length = pc := by
  rw [List.eq_nil_iff_forall_not_mem]
  constructor
  · intro h w hw e
    obtain ⟨t, ht⟩ := takes_pre.mp e
    refine h (t ++ [59]) (mem_fw.mpr ((named_iff _).mpr ⟨w, hw, ?_⟩))
    rw [← ht, List.append_assoc]
  · intro h t ht
    obtain ⟨w, hw, e⟩ := (named_iff _).mp (mem_fw.mp ht)
    rcases List.eq_nil_or_concat t with rfl | ⟨t', x, rfl⟩
    · rw [List.append_nil] at e
      exact hf ((named_iff _).mpr ⟨w, hw, e⟩)
    · rw [List.concat_eq_append, ← List.append_assoc] at e
      have := List.append_inj' e rfl
      exact h w hw (takes_pre.mpr ⟨t', this.1.symm⟩)
theorem full_fw {pc : List Nat} : [] ∈ fw namedW pc ↔ pc ∈ namedW := by rw [mem_fw, List.append_nil]
theorem cut_init (p : List Nat) (c : Nat) : cutS (mkS (p ++ [c])) none (some (-1)) = mkS p := by
  have h : (mkS (p ++ [c])).length = p.length + 1 := by rw [mkS_len, List.length_append]; rfl
  have e1 : HT.sIx (p.length + 1) (p.length + 1) (some (-1)) = p.length := by
    show (if (-1 : Int) < 0 then ((-1 : Int) + ((p.length + 1 : Nat) : Int)).toNat else min (-1 : Int).toNat (p.length + 1)) = _
    rw [if_pos (show (-1 : Int) < 0 by decide)]
    omega
  unfold cutS
  rw [h, e1]
  refine ext_tl ?_
  show (List.take (p.length - 0) (List.drop 0 (tl (mkS (p ++ [c]))))).toArray.toList = tl (mkS p)
  rw [tl_mkS, tl_mkS, List.drop_zero, Nat.sub_zero, List.take_left]
theorem at_neg1 (p : List Nat) (c : Nat) : atI (mkS (p ++ [c])).cps.toList (-1) = some c := by
  show atI (tl (mkS (p ++ [c]))) (-1) = some c
  rw [tl_mkS]
  unfold atI ixN
  have h : (p ++ [c]).length = p.length + 1 := by rw [List.length_append]; rfl
  rw [h, if_neg (by decide), if_pos (by omega)]
  show (p ++ [c])[((-1 : Int) + ((p.length + 1 : Nat) : Int)).toNat]? = some c
  rw [show ((-1 : Int) + ((p.length + 1 : Nat) : Int)).toNat = p.length by omega, List.getElem?_append_right (Nat.le_refl _), Nat.sub_self]
  rfl
theorem inV_knS (y : Str) : inV (.str y) (knS.map V.str) = decide (tl y ∈ knownW) := by
  unfold inV
  rw [← knS_tl, Bool.eq_iff_iff, List.any_eq_true, decide_eq_true_iff]
  constructor
  · rintro ⟨v, hv, ev⟩
    obtain ⟨wd, hwd, rfl⟩ := List.mem_map.mp hv
    rw [eqV_str, decide_eq_true_iff] at ev
    exact List.mem_map.mpr ⟨wd, hwd, ev⟩
  · intro h
    obtain ⟨wd, hwd, e⟩ := List.mem_map.mp h
    exact ⟨_, List.mem_map.mpr ⟨_, hwd, rfl⟩, by rw [eqV_str]; simp [e]⟩
def sv (l : List Str) : List V := l.map V.str
theorem dpAll_sv {K : PySem.W.Frag} {H : Hp} (l : List Str) : DpAll K H (sv l) (l.map PyData.str) := by
  induction l with
  | nil => exact .nil
  | cons a l ih => exact .cons (.str _) ih
theorem eqv_nilS (l : List Str) : PyData.eqv (.list (l.map PyData.str)) (.list []) = l.isEmpty := by
  cases l <;> rfl
theorem shaped_sv (l : List Str) (hl : l.all PyData.strOk = true) : SeqAt.shaped (.list (l.map PyData.str)) = true := by
  have h1 : ∀ l : List Str, l.all PyData.strOk = true → PyData.canLay0 (.list (l.map PyData.str)) = true := fun l hl => by
    induction l with
    | nil => rfl
    | cons a l ih =>
      rw [List.all_cons, Bool.and_eq_true] at hl
      have := ih hl.2
      simpa [PyData.canLay0, PyData.canLayAll0, hl.1] using this
  have h2 : ∀ l : List Str, PyData.depth (.list (l.map PyData.str)) ≤ 2 := fun l => by
    induction l with
    | nil => decide
    | cons a l ih => simpa [PyData.depth, PyData.depthAll] using ih
  unfold SeqAt.shaped
  rw [h1 l hl, decide_eq_true (Nat.le_trans (h2 l) (by decide))]
  rfl
section
variable {P : Program} {w : World} {K : PySem.W.Frag} {mg : Str → Option Value} {base : Heap}
theorem ok_Lreference (T : Tx w K mg) : Ok P w K mg base CX0 4 (He.fAd K d_Lreference.at_) p_Lreference (spLp rfN) := by
  obtain ⟨fd, F⟩ := f_Lreference T
  obtain ⟨fN, GN, bN, kN⟩ := ok_Lnumber (P := P) (base := base) T
  refine ⟨fd, ?_, b_Lreference F, F.kp⟩
  refine F.ok sc_Lreference (fun vs H Q E h => ?_) (fun cdv A outer s H vs Q E hr h => ?_)
  · obtain ⟨z, i, rfl, _⟩ := h
    rfl
  · obtain ⟨z, i, rfl, g, hi, kk⟩ := h
    have nd := sc_Lreference.nd
    have hlen : z.length = (tl z).length := len_tl z
    refine ⟨_, PSs.nox (pss_cons (ps_if (pt_cmpR op_eq (pe_slice sl_str (pv 0) (po_some (pv 1)) (po_some (pe_op op_add (pv 1) pe_int))) pe_str (nomark _)) (pss_one (ps_ret (pe_call (E := E0) GN (hr.mono (by decide)) (by rfl) (g_Lnumber T) kN bN .nil pass0 (pa_cons (pv 0) (pa_cons (pe_op op_add (pv 1) pe_int) pa_nil))))) pss_nil)
      (pss_cons (ps_set (i := 2) nd rfl (.inl rfl) (pe_lst (pa_cons pe_str (pa_cons pe_str (pa_cons pe_str (pa_cons pe_str (pa_cons pe_str pa_nil)))))))
      (pss_cons (ps_for PassesOwn.never rfl (pi_range2 (by rfl) (n_range T) (pa_cons pe_int (pa_cons pe_int pa_nil))) (pg_name (i := 3) nd rfl (.inl rfl))
        (pss_cons (ps_set (i := 4) nd rfl (.inr rfl) (pe_slice sl_str (pv 0) (po_some (pv 1)) (po_some (pe_op op_add (pv 1) (pv 3)))))
        (pss_cons (ps_if (pt_cmpR op_lt (pe_callB call_len (by rfl) (n_len T) PySem.boot_len (pa_cons (pv 4) pa_nil)) (pv 3) (nomark _)) (pss_one (ps_ret (pe_tup (pa_cons (pe_callB call_len (by rfl) (n_len T) PySem.boot_len (pa_cons (pv 0) pa_nil)) (pa_cons pe_bl pa_nil))))) pss_nil)
        (Evl.pss_cut (ps_if (pw_and (pt_cmpR op_eq (pe_ix ix_str (pv 4) (pe_un un_neg pe_int) (fun _ _ => rfl)) pe_str (nomark _)) (pw_and1 (pt_cmpR op_in_seq (pe_slice sl_str (pv 4) po_none (po_some (pe_un un_neg pe_int))) (pv 2) (by rfl)))).pt (pss_one (ps_ret (pe_tup (pa_cons (pe_op op_add (pv 1) (pv 3)) (pa_cons pe_bl pa_nil))))) pss_nil)
        (pss_one (ps_if (pt_cmpR (op_eqD hr.units) (pe_lc (own := [("_law_one", 5)]) (g := gName 5) (by rfl) nd (pi_list (pv 2)) (blkOk_by (own := [("_law_one", 5)]) (N := N_Lreference) (sc := defScope s_Lreference) (by decide +kernel))
            (fun _ _ _ _ _ => pg_name (i := 5) nd rfl (Or.inl rfl)) (fun _ _ _ _ _ => pts_one (pt_val (pe_m1 PySem.F.slot_str_startswith PySem.F.type_str_startswith mt_startswith (pv 5) (pv 4)))) (fun _ _ _ _ _ => pv 5)) (pe_lst pa_nil) (nomark _))
          (pss_one (ps_ret (pe_tup (pa_cons (pe_op op_sub (pe_op op_add (pv 1) (pv 3)) pe_int) (pa_cons pe_bl pa_nil))))) pss_nil))))))
      (pss_one (ps_ret (pe_tup (pa_cons (pe_op op_add (pv 1) pe_int) (pa_cons pe_bl pa_nil)))))))), ?_⟩
    have ret : ∀ (H1 : Hp) (n : Nat) (b : Bool), Same H H1 → rfN ((tl z).drop i) = (n, b) → ∀ j : Int, j = ((i + n : Nat) : Int) → ∀ p, H1 p = none → Q (.ref p) (upd H1 p (.tup [.int j, .bl b])) := by
      intro H1 n b s1 e j hj p hp
      rw [e] at kk
      subst hj
      exact kk _ p (s1.trans (same_new hp)) upd_same
    refine ⟨_, rfl, _, rfl, _, rfl, _, rfl, _, _, rfl, rfl, _, rfl, z, rfl, g.line, ?_⟩
    rw [cut_one]
    refine ⟨rfl, _, rfl, ?_⟩
    show if decide (V.str (sg ((tl z).drop i)) = V.str (Str.ofString "#")) = true then _ else _
    rw [sg_lit _ (c := 35)]
    cases h35 : hB (· == 35) ((tl z).drop i) with
    | true =>
      refine iteT ?_
      obtain ⟨r, hr'⟩ := hB_true h35
      have hdc := drop_cons hr'
      refine ⟨_, rfl, _, rfl, _, _, rfl, rfl, z, i + 1, (by show [V.str z, .int ((i : Int) + 1)] = _; rw [show ((i : Int) + 1) = ((i + 1 : Nat) : Int) by omega]), g, by omega, fun H' t s1 ht => ?_⟩
      rw [hdc.2] at ht
      rw [hr', rfN_num] at kk
      exact kk _ t s1 (by rw [ht, show i + 1 + (nrN r).1 = i + ((nrN r).1 + 1) by omega])
    | false =>
      refine iteF ?_
      have en := rfN_nam (hB_false (c := 35) (l := (tl z).drop i) (by rw [h35]; exact Bool.false_ne_true))
      refine ⟨by decide, fun q hq => ?_⟩
      have s1 : Same H (upd H q (.lst (sv knS))) := same_new hq
      have hk1 : upd H q (.lst (sv knS)) q = some (.lst (sv knS)) := upd_same
      refine ⟨1, 6, rfl, by decide, ?_⟩
      have bd : (tl z).drop i = (tl z).drop i := rfl
      generalize hl : (tl z).drop i = l at *
      have hll : l.length = z.length - i := by rw [← hl, List.length_drop]; omega
      refine for_it walk_range (fun k σ H1 => Same H H1 ∧ H1 q = some (.lst (sv knS)) ∧ ∃ (v3 v4 v5 : Option V), σ = [some (.str z), some (.int (i : Int)), some (.ref q), v3, v4, v5] ∧ k ≤ l.length ∧ k ≤ 4 ∧
        oneN namedW l = ((oneN (fw namedW (l.take k)) (l.drop k)).1 + k, (oneN (fw namedW (l.take k)) (l.drop k)).2)) ⟨s1, hk1, _, _, _, rfl, Nat.zero_le _, by decide, rfl⟩ (fun _ _ _ _ _ => trivial) ?_ ?_
      · rintro k x σ H2 H3 hk ⟨s2, hk2, v3, v4, v5, rfl, hkl, hk4, e⟩ ⟨rfl, rfl⟩
        refine ⟨_, rfl, _, rfl, _, rfl, _, rfl, _, rfl, _, _, rfl, rfl, _, rfl, z, rfl, g.line, ?_⟩
        have ec : cutS z (some (i : Int)) (some ((i : Int) + (1 + (k : Int)))) = mkS (l.take (k + 1)) := by
          rw [show (i : Int) + (1 + (k : Int)) = ((i + (k + 1) : Nat) : Int) by omega, cut_nat, hl, show i + (k + 1) - i = k + 1 by omega]
        rw [ec]
        have hml : (mkS (l.take (k + 1))).length = min (k + 1) l.length := by rw [mkS_len, List.length_take]
        have hgl := g.len
        refine ⟨_, rfl, _, _, rfl, ⟨(by rw [hml, sizeLine_eq]; omega), rfl⟩, _, rfl, _, _, rfl, rfl, _, rfl, ?_⟩
        show if decide ((((mkS (l.take (k + 1))).length : Nat) : Int) < 1 + (k : Int)) = true then _ else _
        rw [hml]
        cases hd : l.drop k with
        | nil =>
          have hkl2 := congrArg List.length hd
          rw [List.length_drop, List.length_nil] at hkl2
          rw [decide_eq_true (by omega)]
          refine iteT ?_
          rw [hd] at e
          have e2 : rfN l = (k, false) := by
            rw [en, e]
            simp [oneN]
          exact ⟨_, rfl, _, _, rfl, ⟨g.line, rfl⟩, (by show 2 ≤ sizeLine; decide), ret H3 _ false s2 e2 _ (by omega)⟩
        | cons c r =>
          have hkl2 := congrArg List.length hd
          rw [List.length_drop, List.length_cons] at hkl2
          rw [decide_eq_false (by omega)]
          refine iteF ?_
          have htk := take_snoc hd
          rw [htk]
          have hfull := @full_iff (l.take k) c
          have hone : oneN namedW l = if stepW (fw namedW (l.take k)) c = [] then (k, false) else if [] ∈ stepW (fw namedW (l.take k)) c then (k + 1, true) else ((oneN (stepW (fw namedW (l.take k)) c) r).1 + (k + 1), (oneN (stepW (fw namedW (l.take k)) c) r).2) := by
            rw [e, hd]
            conv => lhs; unfold oneN
            split
            · rw [Nat.zero_add]
            · split
              · rw [Nat.add_comm]
              · rw [Nat.add_right_comm, Nat.add_assoc]
          rw [← fw_snoc] at hone
          have hlz : (mkS (l.take k ++ [c])).length ≤ sizeLine := by
            rw [← htk, hml, sizeLine_eq]
            omega
          refine ⟨fun σ H4 => H4 = H3 ∧ σ = [some (.str z), some (.int (i : Int)), some (.ref q), some (.int (1 + (k : Int))), some (.str (mkS (l.take k ++ [c]))), v5] ∧ ¬ (l.take k ++ [c]) ∈ namedW, ?_, ?_⟩
          · refine ⟨_, rfl, _, rfl, _, (-1 : Int), c, rfl, rfl, hlz, at_neg1 _ _, rfl, _, rfl, ?_⟩
            show if decide (V.str (sg (c :: r)) = V.str (Str.ofString ";")) = true then _ else _
            rw [sg_lit _ (c := 59)]
            by_cases h59 : c = 59
            · rw [show hB (· == 59) (c :: r) = true by subst h59; rfl]
              refine iteT ?_
              refine ⟨_, rfl, _, rfl, _, rfl, _, rfl, hlz, _, rfl, q, _, rfl, .inl (SqL.of hk2), rfl, (by decide +kernel), ?_⟩
              rw [if_neg Bool.false_ne_true]
              refine ⟨_, rfl, ?_⟩
              show if inV (.str (cutS (mkS (l.take k ++ [c])) none (some (-1)))) (knS.map V.str) = true then _ else _
              rw [inV_knS, cut_init, tl_mkS]
              by_cases hw : l.take k ∈ knownW
              · rw [decide_eq_true hw]
                refine iteT ?_
                have hin := hfull.mpr ⟨h59, hw⟩
                rw [if_neg (fun h => by
                  have h2 := full_fw.mpr hin
                  rw [h] at h2
                  cases h2), if_pos (full_fw.mpr hin)] at hone
                refine ⟨_, rfl, _, rfl, _, _, rfl, rfl, (by show 2 ≤ sizeLine; decide), ret H3 _ true s2 (en.trans hone) _ ?_⟩
                omega
              · rw [decide_eq_false hw]
                refine iteF ?_
                exact ⟨rfl, rfl, fun h => hw (hfull.mp h).2⟩
            · rw [show hB (· == 59) (c :: r) = false by simpa [hB] using h59]
              refine iteF ?_
              refine iteF ?_
              exact ⟨rfl, rfl, fun h => h59 (hfull.mp h).1⟩
          · rintro σ H4 ⟨rfl, rfl, hnf⟩
            have hki : ∀ t, t < 5 → (sv knS)[t]? = some (.str (knS.getD t ⟨#[]⟩)) := by decide +kernel
            have hkt : ∀ t, t < 5 → knS.take (t + 1) = knS.take t ++ [knS.getD t ⟨#[]⟩] := by decide +kernel
            have hko : ∀ t, t < 5 → PyData.strOk (knS.getD t ⟨#[]⟩) = true := by decide +kernel
            generalize hpc : l.take k ++ [c] = pc at *
            have hpl : pc.length = k + 1 := by rw [← htk, List.length_take]; omega
            refine ⟨_, rfl, q, rfl, ⟨_, SqL.of hk2⟩, fun D hD => ?_⟩
            refine lc_it (walk_list (xs := sv knS)) (fun t H7 => Same H4 H7 ∧ H7 D = some (.lst (sv ((knS.take t).filter (fun wd => Txt.startswith wd (mkS pc))))) ∧ ((knS.take t).filter (fun wd => Txt.startswith wd (mkS pc))).length ≤ t)
                ⟨same_new hD, upd_same, Nat.le_refl _⟩ (fun t H7 _ h => SqL.of (h.1 _ _ hk2)) ?_ ?_
            · rintro t x H7 H8 ht ⟨s7, h7, hl7⟩ ⟨rfl, hx⟩
              have ht' : t < 5 := ht
              rw [hki t ht'] at hx
              cases hx
              have hm := hkt t ht'
              generalize knS.getD t ⟨#[]⟩ = m at hm ⊢
              refine ⟨rfl, _, rfl, ⟨_, rfl⟩, _, rfl, _, _, rfl, rfl, _, rfl, ?_⟩
              show if Txt.startswith m (mkS pc) = true then _ else _
              cases hst : Txt.startswith m (mkS pc) with
              | true =>
                refine iteT ?_
                refine ⟨_, rfl, _, h7, ?_, same_upd0 s7 hD, ?_, ?_⟩
                · show (List.map _ _).length < _
                  rw [List.length_map, sizeLine_eq]
                  omega
                · rw [upd_same, hm, List.filter_append]
                  unfold sv
                  rw [List.map_append]
                  simp [List.filter, hst]
                · rw [hm, List.filter_append, List.length_append]
                  simp only [List.filter, hst, List.length_cons, List.length_nil]
                  omega
              | false =>
                refine iteF ?_
                refine ⟨s7, ?_, ?_⟩
                · rw [hm, List.filter_append]
                  simp only [List.filter, hst, List.append_nil]
                  exact h7
                · rw [hm, List.filter_append]
                  simp only [List.filter, hst, List.append_nil]
                  omega
            · rintro H7 ⟨s7, h7, hl7⟩
              have s7' := s2.trans s7
              have hk7 := s7 _ _ hk2
              have hemp : (knS.filter (fun wd => Txt.startswith wd (mkS pc))).isEmpty = true ↔ fw namedW pc = [] := by
                rw [none_iff hnf, List.isEmpty_iff, List.filter_eq_nil_iff, ← knS_tl]
                constructor
                · intro h w hw e
                  obtain ⟨wd, h1, rfl⟩ := List.mem_map.mp hw
                  refine h wd h1 ?_
                  rw [starts0, tl_mkS]
                  exact decide_eq_true e
                · intro h wd h1 e
                  rw [starts0, tl_mkS] at e
                  exact h (tl wd) (List.mem_map.mpr ⟨wd, h1, rfl⟩) (of_decide_eq_true e)
              refine ⟨by decide, fun M hM => ?_⟩
              refine ⟨.list ((knS.filter (fun wd => Txt.startswith wd (mkS pc))).map PyData.str), .list [], .lst (SqL.of ((same_new hM) _ _ h7)) (dpAll_sv _), .lst (SqL.of upd_same) .nil, shaped_sv _ ?_, by decide, ?_⟩
              · rw [List.all_filter]
                exact List.all_eq_true.mpr fun x hx => by
                  have : ∀ y ∈ knS, PyData.strOk y = true := by decide +kernel
                  simp [this x hx]
              refine ⟨_, rfl, ?_⟩
              rw [eqv_nilS]
              by_cases hnil : fw namedW pc = []
              · rw [hemp.mpr hnil]
                refine iteT ?_
                rw [if_pos hnil] at hone
                refine ⟨_, rfl, _, rfl, _, _, rfl, rfl, _, _, rfl, rfl, (by show 2 ≤ sizeLine; decide), ret _ _ false (s7'.trans (same_new hM)) (en.trans hone) _ ?_⟩
                omega
              · rw [show (knS.filter (fun wd => Txt.startswith wd (mkS pc))).isEmpty = false by
                  cases y : (knS.filter (fun wd => Txt.startswith wd (mkS pc))).isEmpty with
                  | false => rfl
                  | true => exact absurd (hemp.mp y) hnil]
                refine iteF ?_
                rw [if_neg hnil, if_neg (fun h => hnf (full_fw.mp h))] at hone
                refine ⟨s7'.trans (same_new hM), (same_new hM) _ _ hk7, _, _, _, rfl, by omega, ?_, ?_⟩
                · have : ¬ ∀ w ∈ knownW, ¬ w.take pc.length = pc := fun h => hnil ((none_iff hnf).mpr h)
                  obtain ⟨w', h1, h2⟩ : ∃ w' ∈ knownW, w'.take pc.length = pc := by
                    refine Classical.byContradiction fun hc => this fun w' h1 h2 => hc ⟨w', h1, h2⟩
                  have h3 := known_len w' h1
                  have h4 := congrArg List.length h2
                  rw [List.length_take] at h4
                  omega
                · rw [hone, show l.drop (k + 1) = r from by
                    rw [← List.drop_drop, hd]
                    rfl]
      · rintro σ H2 ⟨s2, hk2, v3, v4, v5, rfl, hkl, hk4, e⟩
        exact absurd hk4 (by decide)
end
end K2
/-! K02Li0 -/
/-! The inside of an element, as the law reads it: plain Lean. -/
namespace K2
def innB : Nat → List (List Nat) → List Nat → Nat × Bool
  | _, [], _ => (0, true)
  | 0, _ :: _, _ => (0, false)
  | _ + 1, _ :: _, [] => (0, false)
  | f + 1, nm :: st, c :: r => match step (nm :: st) true (c :: r) with
    | (n, none) => (n, false)
    | (n, some s) => ((innB f s.1 ((c :: r).drop n)).1 + n, (innB f s.1 ((c :: r).drop n)).2)
theorem innB_fuel : ∀ (f g : Nat) (st : List (List Nat)) (l : List Nat), l.length ≤ f → l.length ≤ g → innB f st l = innB g st l
  | _, _, [], _, _, _ => by simp [innB]
  | 0, 0, _ :: _, [], _, _ => rfl
  | 0, _ + 1, _ :: _, [], _, _ => rfl
  | _ + 1, 0, _ :: _, [], _, _ => rfl
  | _ + 1, _ + 1, _ :: _, [], _, _ => rfl
  | 0, _, _ :: _, c :: r, h, _ => by simp at h
  | _, 0, _ :: _, c :: r, _, h => by simp at h
  | f + 1, g + 1, nm :: st, c :: r, h1, h2 => by
    unfold innB
    cases e : step (nm :: st) true (c :: r) with
    | mk n o =>
      cases o with
      | none => rfl
      | some s =>
        have hp := step_pos (by simp) e
        have e2 := innB_fuel f g s.1 ((c :: r).drop n) (by simp only [List.length_drop, List.length_cons] at *; omega) (by simp only [List.length_drop, List.length_cons] at *; omega)
        dsimp only
        rw [e2]
def innN (st : List (List Nat)) (l : List Nat) : Nat × Bool := innB l.length st l
theorem innN_nil (l : List Nat) : innN [] l = (0, true) := by unfold innN innB; cases l.length <;> rfl
theorem innN_end (nm : List Nat) (st : List (List Nat)) : innN (nm :: st) [] = (0, false) := rfl
theorem innN_bad {nm : List Nat} {st : List (List Nat)} {c n : Nat} {r : List Nat} (h : step (nm :: st) true (c :: r) = (n, none)) : innN (nm :: st) (c :: r) = (n, false) := by
  unfold innN
  rw [List.length_cons]
  unfold innB
  rw [h]
theorem innN_go {nm : List Nat} {st : List (List Nat)} {c n : Nat} {r : List Nat} {s : List (List Nat) × Bool} (h : step (nm :: st) true (c :: r) = (n, some s)) : innN (nm :: st) (c :: r) = ((innN s.1 ((c :: r).drop n)).1 + n, (innN s.1 ((c :: r).drop n)).2) := by
  have hp := step_pos (by simp) h
  unfold innN
  rw [List.length_cons]
  conv => lhs; unfold innB
  rw [h]
  dsimp only
  rw [innB_fuel r.length ((c :: r).drop n).length s.1 _ (by simp only [List.length_drop, List.length_cons]; omega) (Nat.le_refl _)]
theorem step_has {nm : List Nat} {st : List (List Nat)} {has : Bool} {l : List Nat} {n : Nat} {s : List (List Nat) × Bool} (h : step (nm :: st) has l = (n, some s)) : s.2 = has := by
  unfold step at h
  dsimp only at h
  split at h
  all_goals
    split at h
    · injection h with _ h2
      injection h2 with h2
      rw [← h2]
    · injection h with _ h2
      cases h2
theorem run_inn : ∀ (f : Nat) (st : List (List Nat)) (l : List Nat), l.length ≤ f → run f st true l = if (innB f st l).2 = true then ((run f [] true (l.drop (innB f st l).1)).1 + (innB f st l).1, (run f [] true (l.drop (innB f st l).1)).2) else ((innB f st l).1, false)
  | f, [], l, _ => by
    have : innB f [] l = (0, true) := by unfold innB; rfl
    rw [this, if_pos rfl]
    rfl
  | 0, nm :: st, [], _ => rfl
  | f + 1, nm :: st, [], _ => rfl
  | 0, nm :: st, c :: r, h => by simp at h
  | f + 1, nm :: st, c :: r, h => by
    cases e : step (nm :: st) true (c :: r) with
    | mk n o =>
      cases o with
      | none =>
        have e1 : innB (f + 1) (nm :: st) (c :: r) = (n, false) := by unfold innB; rw [e]
        have e2 : run (f + 1) (nm :: st) true (c :: r) = (n, false) := by unfold run; rw [e]
        rw [e1, e2]
        rfl
      | some s =>
        have hp := step_pos (by simp) e
        have hs := step_has e
        have hlen : ((c :: r).drop n).length ≤ f := by simp only [List.length_drop, List.length_cons] at *; omega
        have e1 : innB (f + 1) (nm :: st) (c :: r) = ((innB f s.1 ((c :: r).drop n)).1 + n, (innB f s.1 ((c :: r).drop n)).2) := by conv => lhs; unfold innB; rw [e]
        have e2 : run (f + 1) (nm :: st) true (c :: r) = ((run f s.1 s.2 ((c :: r).drop n)).1 + n, (run f s.1 s.2 ((c :: r).drop n)).2) := by conv => lhs; unfold run; rw [e]
        rw [e1, e2, hs, run_inn f s.1 _ hlen]
        dsimp only
        split
        · rename_i hb
          have hd : (c :: r).drop ((innB f s.1 ((c :: r).drop n)).1 + n) = ((c :: r).drop n).drop (innB f s.1 ((c :: r).drop n)).1 := by rw [List.drop_drop, Nat.add_comm]
          rw [hd, run_fuel (f + 1) f [] true (((c :: r).drop n).drop (innB f s.1 ((c :: r).drop n)).1) (by simp only [List.length_drop, List.length_cons] at *; omega) (by simp only [List.length_drop, List.length_cons] at *; omega)]
          dsimp only
          rw [Nat.add_assoc]
        · rfl
theorem istep_cl (nm : List Nat) (st : List (List Nat)) (r : List Nat) : step (nm :: st) true (60 :: 47 :: r) = if (clN nm r).2 = true then ((clN nm r).1 + 2, some (st, true)) else ((clN nm r).1 + 2, none) := rfl
theorem istep_sp (nm : List Nat) (st : List (List Nat)) {l : List Nat} (h : (∃ r, l = 63 :: r) ∨ ∃ r, l = 33 :: r) : step (nm :: st) true (60 :: l) = if (spN true l).2 = true then ((spN true l).1 + 1, some (nm :: st, true)) else ((spN true l).1 + 1, none) := by
  rcases h with ⟨r, rfl⟩ | ⟨r, rfl⟩
  · rfl
  · cases r with
    | nil => rfl
    | cons c r =>
      by_cases hc : c = 91
      · subst hc
        rfl
      · have e1 : ccN (c :: r) = cmN (c :: r) := by
          unfold ccN
          split
          · rename_i e
            exact absurd (List.cons.inj e).1 hc
          · rfl
        have e2 : spN true (33 :: c :: r) = ((cmN (c :: r)).1 + 1, (cmN (c :: r)).2) := by
          show (if true = true then ((ccN (c :: r)).1 + 1, (ccN (c :: r)).2) else ((cmN (c :: r)).1 + 1, (cmN (c :: r)).2)) = _
          rw [if_pos rfl, e1]
        rw [e2]
        have h : step (nm :: st) true (60 :: 33 :: c :: r) = if (cmN (c :: r)).2 then ((cmN (c :: r)).1 + 2, some (nm :: st, true)) else ((cmN (c :: r)).1 + 2, none) := by
          conv => lhs; unfold step
          dsimp only
          split
          · rename_i e; cases e
          · rename_i e
            exact absurd (List.cons.inj (List.cons.inj (List.cons.inj e).2).2).1 hc
          · rename_i e
            cases e
            rfl
          · rename_i e; cases e
          · rename_i h33 _ e
            exact absurd (List.cons.inj e).2.symm (h33 _)
          · rename_i e; cases e
          · rename_i h60 _
            exact absurd rfl (h60 _)
        rw [h]
theorem istep_te (nm : List Nat) (st : List (List Nat)) {l : List Nat} (h1 : ∀ r, l ≠ 47 :: r) (h2 : ∀ r, l ≠ 33 :: r) (h3 : ∀ r, l ≠ 63 :: r) : step (nm :: st) true (60 :: l) = if (teN l).2.1 = true then ((teN l).1 + 1, some (if (teN l).2.2 = true then nm :: st else l.take (nmN l).1 :: nm :: st, true)) else ((teN l).1 + 1, none) := by
  unfold step
  dsimp only
  split
  · rename_i e; exact absurd (List.cons.inj e).2 (h1 _)
  · rename_i e; exact absurd (List.cons.inj e).2 (h2 _)
  · rename_i e; exact absurd (List.cons.inj e).2 (h2 _)
  · rename_i e; exact absurd (List.cons.inj e).2 (h3 _)
  · rename_i e; rw [(List.cons.inj e).2]
  · rename_i e; cases e
  · rename_i e _; exact absurd rfl (e _)
theorem istep_rf (nm : List Nat) (st : List (List Nat)) (r : List Nat) : step (nm :: st) true (38 :: r) = if (rfN r).2 = true then ((rfN r).1 + 1, some (nm :: st, true)) else ((rfN r).1 + 1, none) := rfl
theorem istep_pl (nm : List Nat) (st : List (List Nat)) {c : Nat} {r : List Nat} (h1 : c ≠ 60) (h2 : c ≠ 38) : step (nm :: st) true (c :: r) = if (plN (c :: r)).2 = true then ((plN (c :: r)).1, some (nm :: st, true)) else ((plN (c :: r)).1, none) := by
  unfold step
  dsimp only
  split
  all_goals first | (rename_i e; exact absurd (List.cons.inj e).1 h1) | (rename_i e; exact absurd (List.cons.inj e).1 h2) | rfl
/-! plain signs, one by one -/
abbrev S3 : List Nat := [93, 93, 62]
def ew (p : List Nat) : Bool := decide (p.drop (p.length - 2) = [93, 93])
theorem fdN_cons (S : List Nat) (c : Nat) (r : List Nat) : fdN S (c :: r) = if (c :: r).take S.length = S then some 0 else (fdN S r).map (· + 1) := rfl
theorem fd_app {S : List Nat} (hS : S ≠ []) : ∀ {a : List Nat} (b : List Nat) {j : Nat}, fdN S a = some j → fdN S (a ++ b) = some j
  | [], b, j, h => by
    unfold fdN at h
    rw [if_neg hS] at h
    cases h
  | c :: r, b, j, h => by
    rw [fdN_cons] at h
    have hlen : S.length ≤ (c :: r).length := by
      split at h
      · rename_i e
        have := congrArg List.length e
        rw [List.length_take] at this
        omega
      · cases e : fdN S r with
        | none => rw [e] at h; cases h
        | some k =>
          have := fdN_le e
          rw [List.length_cons]
          omega
    have ht : (c :: (r ++ b)).take S.length = (c :: r).take S.length := by
      rw [← List.cons_append, List.take_append_of_le_length hlen]
    rw [List.cons_append, fdN_cons, ht]
    split at h
    · rename_i e
      rw [if_pos e]
      exact h
    · rename_i e
      rw [if_neg e]
      cases e2 : fdN S r with
      | none => rw [e2] at h; cases h
      | some k =>
        rw [e2] at h
        rw [fd_app hS b e2]
        exact h
theorem fd_snoc : ∀ (p : List Nat) (c : Nat), fdN S3 p = none → fdN S3 (p ++ [c]) = if c = 62 ∧ ew p = true then some (p.length - 2) else none
  | [], c, _ => by
    show (if ([c] : List Nat).take 3 = S3 then _ else _) = _
    simp [fdN, ew]
  | [a], c, _ => by
    simp [fdN, ew]
  | [a, b], c, _ => by
    have : ew [a, b] = decide (a = 93 ∧ b = 93) := by simp [ew]
    rw [this]
    by_cases h : c = 62 ∧ a = 93 ∧ b = 93
    · obtain ⟨rfl, rfl, rfl⟩ := h
      rfl
    · rw [if_neg (by simpa using h)]
      have h2 : ¬ (a = 93 ∧ b = 93 ∧ c = 62) := fun z => h ⟨z.2.2, z.1, z.2.1⟩
      simp [fdN, h2]
  | a :: b :: d :: r, c, h => by
    rw [fdN_cons] at h
    split at h
    · cases h
    · rename_i e
      have hn : fdN S3 (b :: d :: r) = none := by
        cases e2 : fdN S3 (b :: d :: r) with
        | none => rfl
        | some k => rw [e2] at h; cases h
      have ih := fd_snoc (b :: d :: r) c hn
      have e3 : (a :: b :: d :: r ++ [c]).take 3 = (a :: b :: d :: r).take 3 := rfl
      have hew : ew (a :: b :: d :: r) = ew (b :: d :: r) := by
        unfold ew
        rw [show (a :: b :: d :: r).length - 2 = ((b :: d :: r).length - 2) + 1 by simp only [List.length_cons]; omega]
        rfl
      have e4 : fdN S3 (a :: b :: d :: r ++ [c]) = (fdN S3 (b :: d :: r ++ [c])).map (· + 1) := by
        show (if (a :: b :: d :: r ++ [c]).take 3 = S3 then some 0 else (fdN S3 (b :: d :: r ++ [c])).map (· + 1)) = _
        rw [if_neg (by rw [e3]; exact e)]
      rw [e4, ih, hew]
      split
      · show some ((b :: d :: r).length - 2 + 1) = some _
        rw [show (b :: d :: r).length - 2 + 1 = (a :: b :: d :: r).length - 2 by simp only [List.length_cons]; omega]
      · rfl
theorem tw_app {pp m : List Nat} (h : pp.all isPl = true) : (pp ++ m).takeWhile isPl = pp ++ m.takeWhile isPl := by
  induction pp with
  | nil => rfl
  | cons a pp ih =>
    rw [List.all_cons, Bool.and_eq_true] at h
    rw [List.cons_append, List.takeWhile_cons, h.1, if_pos rfl, ih h.2]
    rfl
theorem isPl_ne {c : Nat} (h : isPl c = true) : c ≠ 60 ∧ c ≠ 38 := by
  unfold isPl at h
  simpa using h
theorem inn_flush {nm : List Nat} {st : List (List Nat)} {pp m : List Nat} (hp : pp.all isPl = true) (hf : fdN S3 pp = none) (hm : hB isPl m = false) : innN (nm :: st) (pp ++ m) = ((innN (nm :: st) m).1 + pp.length, (innN (nm :: st) m).2) := by
  cases pp with
  | nil => rfl
  | cons a pp =>
    have hm2 : m.takeWhile isPl = [] := by
      cases m with
      | nil => rfl
      | cons c m =>
        have : isPl c = false := hm
        rw [List.takeWhile_cons, this]
        rfl
    have ht := tw_app (m := m) hp
    rw [hm2, List.append_nil] at ht
    have e : plN (a :: pp ++ m) = ((a :: pp).length, true) := by
      unfold plN
      rw [ht, hf]
    rw [List.all_cons, Bool.and_eq_true] at hp
    have hs := istep_pl nm st (r := pp ++ m) (isPl_ne hp.1).1 (isPl_ne hp.1).2
    rw [← List.cons_append, e, if_pos rfl] at hs
    have := innN_go (r := pp ++ m) hs
    refine this.trans ?_
    dsimp only
    rw [show (a :: (pp ++ m)).drop (a :: pp).length = m from List.drop_left (l₁ := a :: pp)]
theorem inn_bad {nm : List Nat} {st : List (List Nat)} {pp m : List Nat} (hp : pp.all isPl = true) (hf : fdN S3 pp = none) (he : ew pp = true) : innN (nm :: st) (pp ++ 62 :: m) = (pp.length, false) := by
  have h1 := fd_snoc pp 62 hf
  rw [if_pos ⟨rfl, he⟩] at h1
  have hl : 2 ≤ pp.length := by
    have := congrArg List.length (of_decide_eq_true he)
    rw [List.length_drop] at this
    simp only [List.length_cons, List.length_nil] at this
    omega
  have h2 : (pp ++ 62 :: m).takeWhile isPl = pp ++ [62] ++ m.takeWhile isPl := by
    rw [tw_app hp, List.takeWhile_cons, show isPl 62 = true from rfl, if_pos rfl, List.append_assoc]
    rfl
  have h3 := fd_app (S := S3) (by simp) (m.takeWhile isPl) h1
  have e : plN (pp ++ 62 :: m) = (pp.length, false) := by
    unfold plN
    rw [h2]
    rw [h3]
    dsimp only
    rw [show pp.length - 2 + 2 = pp.length by omega]
  cases pp with
  | nil => simp at hl
  | cons a pp =>
    rw [List.all_cons, Bool.and_eq_true] at hp
    have hs := istep_pl nm st (r := pp ++ 62 :: m) (isPl_ne hp.1).1 (isPl_ne hp.1).2
    rw [← List.cons_append, e, if_neg Bool.false_ne_true] at hs
    exact innN_bad hs
end K2
/-! K02Li -/
namespace K2
open PySem PySem.Spec PyProof.Rows L2 TL
def OkSt (st : List (List Nat)) : Prop := ∀ nm ∈ st, nm.length ≤ 400000 ∧ ∀ c ∈ nm, c < 128
def InvL (z : Str) (i : Nat) (st0 : List (List Nat)) (j b : Nat) (st : List (List Nat)) : Prop :=
  i ≤ b ∧ b ≤ j ∧ j ≤ z.length ∧ OkSt st ∧ st.length ≤ b + 1 ∧ ∃ pp m : List Nat, (tl z).drop b = pp ++ m ∧ pp.length = j - b ∧ pp.all isPl = true ∧ fdN S3 pp = none ∧ (st = [] → pp = []) ∧
    innN st0 ((tl z).drop i) = ((innN st (pp ++ m)).1 + (b - i), (innN st (pp ++ m)).2)
theorem InvL.at {z : Str} {i j b : Nat} {st0 st : List (List Nat)} {pp m : List Nat} (h1 : (tl z).drop b = pp ++ m) (h2 : pp.length = j - b) (hb : b ≤ j) : (tl z).drop j = m := by
  rw [show j = b + pp.length by omega, drop_add, h1, List.drop_left]
theorem InvL.flush {z : Str} {i j b : Nat} {st0 st : List (List Nat)} {nm : List Nat} (h : InvL z i st0 j b (nm :: st)) (hm : hB isPl ((tl z).drop j) = false) : innN st0 ((tl z).drop i) = ((innN (nm :: st) ((tl z).drop j)).1 + (j - i), (innN (nm :: st) ((tl z).drop j)).2) := by
  obtain ⟨h1, h2, h3, h4, h5, pp, m, e1, e2, e3, e4, e5, e6⟩ := h
  rw [InvL.at (i := i) (st0 := st0) (st := st) e1 e2 h2] at hm ⊢
  rw [e6, inn_flush e3 e4 hm]
  dsimp only
  rw [show (innN (nm :: st) m).1 + pp.length + (b - i) = (innN (nm :: st) m).1 + (j - i) by omega]
theorem InvL.bad {z : Str} {i j b n : Nat} {st0 st : List (List Nat)} {nm : List Nat} (h : InvL z i st0 j b (nm :: st)) {c : Nat} {r : List Nat} (hm : (tl z).drop j = c :: r) (hc : isPl c = false) (hs : step (nm :: st) true (c :: r) = (n, none)) : innN st0 ((tl z).drop i) = (j + n - i, false) := by
  rw [h.flush (by rw [hm]; exact hc), hm, innN_bad hs]
  have := h.1
  have := h.2.1
  dsimp only
  rw [show n + (j - i) = j + n - i by omega]
theorem InvL.go {z : Str} {i j b n : Nat} {st0 st st' : List (List Nat)} {nm : List Nat} (h : InvL z i st0 j b (nm :: st)) {c : Nat} {r : List Nat} (hm : (tl z).drop j = c :: r) (hc : isPl c = false) (hs : step (nm :: st) true (c :: r) = (n, some (st', true))) (ho : OkSt st') (hn : j + n ≤ z.length) (hl : st'.length ≤ j + n + 1) : InvL z i st0 (j + n) (j + n) st' := by
  have h1 := h.1
  have h2 := h.2.1
  refine ⟨by omega, Nat.le_refl _, hn, ho, hl, [], (tl z).drop (j + n), rfl, by simp, rfl, rfl, fun _ => rfl, ?_⟩
  rw [h.flush (by rw [hm]; exact hc), hm, innN_go hs, drop_add, hm]
  dsimp only
  rw [show (innN st' ((c :: r).drop n)).1 + n + (j - i) = (innN st' ((c :: r).drop n)).1 + (j + n - i) by omega]
  rfl
theorem InvL.plain {z : Str} {i j b : Nat} {st0 st : List (List Nat)} {nm : List Nat} (h : InvL z i st0 j b (nm :: st)) {c : Nat} {r : List Nat} (hm : (tl z).drop j = c :: r) (hc : isPl c = true) (hn : ¬ (c = 62 ∧ ew (((tl z).drop b).take (j - b)) = true)) : InvL z i st0 (j + 1) b (nm :: st) := by
  obtain ⟨h1, h2, h3, h4, h5, pp, m, e1, e2, e3, e4, e5, e6⟩ := h
  have hd := InvL.at (i := i) (st0 := st0) (st := st) e1 e2 h2
  rw [hm] at hd
  subst hd
  have hz : z.length = (tl z).length := len_tl z
  have hlen := (drop_cons hm).1
  have hpp : ((tl z).drop b).take (j - b) = pp := by rw [e1, ← e2, List.take_left]
  rw [hpp] at hn
  refine ⟨h1, by omega, by omega, h4, h5, pp ++ [c], r, by rw [e1, List.append_assoc]; rfl, by rw [List.length_append]; show pp.length + 1 = _; omega, ?_, ?_, fun h => (by cases h), ?_⟩
  · rw [List.all_append, e3]
    simp [hc]
  · rw [fd_snoc pp c e4, if_neg hn]
  · rw [e6, List.append_assoc]
    rfl
theorem InvL.brk {z : Str} {i j b : Nat} {st0 st : List (List Nat)} {nm : List Nat} (h : InvL z i st0 j b (nm :: st)) {r : List Nat} (hm : (tl z).drop j = 62 :: r) (hn : ew (((tl z).drop b).take (j - b)) = true) : innN st0 ((tl z).drop i) = (j - i, false) := by
  obtain ⟨h1, h2, h3, h4, h5, pp, m, e1, e2, e3, e4, e5, e6⟩ := h
  have hd := InvL.at (i := i) (st0 := st0) (st := st) e1 e2 h2
  rw [hm] at hd
  subst hd
  have hpp : ((tl z).drop b).take (j - b) = pp := by rw [e1, ← e2, List.take_left]
  rw [hpp] at hn
  rw [e6, inn_bad e3 e4 hn]
  dsimp only
  rw [show pp.length + (b - i) = j - i by omega]
theorem InvL.stop {z : Str} {i j b : Nat} {st0 st : List (List Nat)} {nm : List Nat} (h : InvL z i st0 j b (nm :: st)) (hm : (tl z).drop j = []) : innN st0 ((tl z).drop i) = (j - i, false) := by
  rw [h.flush (by rw [hm]; rfl), hm, innN_end]
  dsimp only
  rw [Nat.zero_add]
theorem InvL.fin {z : Str} {i j b : Nat} {st0 : List (List Nat)} (h : InvL z i st0 j b []) : innN st0 ((tl z).drop i) = (j - i, true) := by
  obtain ⟨h1, h2, h3, h4, h5, pp, m, e1, e2, e3, e4, e5, e6⟩ := h
  have := e5 rfl
  subst this
  rw [e6, innN_nil]
  dsimp only
  have : b = j := by
    have : ([] : List Nat).length = 0 := rfl
    omega
  rw [Nat.zero_add, this]
theorem ends0 (p : List Nat) : Txt.endswith (mkS p) (Str.ofString "]]") = ew p := by
  unfold Txt.endswith ew
  rw [StrLaws.subAt_eq]
  have h2 : (Str.ofString "]]").length = 2 := by decide +kernel
  have h3 : (Str.ofString "]]").cps.toList = [93, 93] := by decide +kernel
  have h4 : (mkS p).cps.toList = p := tl_mkS p
  rw [h2, h3, h4, mkS_len]
  rw [Bool.eq_iff_iff, Bool.and_eq_true, decide_eq_true_iff, decide_eq_true_iff, beq_iff_eq]
  constructor
  · rintro ⟨h, e⟩
    rw [List.take_of_length_le (by rw [List.length_drop]; omega)] at e
    exact e
  · intro e
    have := congrArg List.length e
    rw [List.length_drop] at this
    simp only [List.length_cons, List.length_nil] at this
    refine ⟨by omega, ?_⟩
    rw [List.take_of_length_le (by rw [List.length_drop]; omega)]
    exact e
theorem opL_sv (st : List (List Nat)) : opL st = sv (st.reverse.map mkS) := by
  unfold opL sv
  rw [List.map_map]
  rfl
theorem OkSt.strOk {st : List (List Nat)} (h : OkSt st) : (st.reverse.map mkS).all PyData.strOk = true := by
  rw [List.all_eq_true]
  intro x hx
  obtain ⟨nm, h1, rfl⟩ := List.mem_map.mp hx
  have h2 := (h nm (List.mem_reverse.mp h1)).2
  show (mkS nm).cps.all _ = true
  rw [← Array.all_toList, List.all_eq_true]
  intro c hc
  have h3 : c ∈ nm := by
    have : (mkS nm).cps.toList = nm := tl_mkS nm
    rw [this] at hc
    exact hc
  have := h2 c h3
  exact decide_eq_true (by omega)
theorem endN_le (l : List Nat) : (endN l).1 ≤ l.length := by
  unfold endN
  split
  · simp
  · rename_i r
    split
    · rename_i h
      cases r with
      | nil => cases h
      | cons d r => simp
    · simp
  · simp
theorem tgN_le : ∀ (k : Nat) (ks : List (List Nat)) (l : List Nat), l.length ≤ k → (tgN ks l).1 ≤ l.length
  | k, ks, l, hk => by
    have hb := blN_le l
    by_cases h : stopB (l.drop (blN l)) = true ∨ blN l = 0
    · rw [tg_end h]
      have := endN_le (l.drop (blN l))
      rw [List.length_drop] at this
      dsimp only
      omega
    · have h1 : stopB (l.drop (blN l)) = false := by
        cases e : stopB (l.drop (blN l)) with
        | false => rfl
        | true => exact absurd (.inl e) h
      have h2 : blN l ≠ 0 := fun e => h (.inr e)
      have ha := atN_le ks (l.drop (blN l))
      rw [List.length_drop] at ha
      rw [tg_go h1 h2]
      split
      · cases k with
        | zero => omega
        | succ k =>
          have ih := tgN_le k ((l.drop (blN l)).take (nmN (l.drop (blN l))).1 :: ks) ((l.drop (blN l)).drop (atN ks (l.drop (blN l))).1) (by simp only [List.length_drop]; omega)
          simp only [List.length_drop] at ih
          dsimp only
          omega
      · dsimp only
        omega
theorem teN_le (l : List Nat) : (teN l).1 ≤ l.length := by
  unfold teN
  have h1 := nmN_le l
  split
  · exact h1
  · have h2 := tgN_le _ [] (l.drop (nmN l).1) (Nat.le_refl _)
    rw [List.length_drop] at h2
    dsimp only
    omega
def hcl : List Nat → Bool
  | 60 :: 47 :: _ => true
  | _ => false
theorem hcl_true {l : List Nat} (h : hcl l = true) : ∃ r, l = 60 :: 47 :: r := by
  unfold hcl at h
  split at h
  · exact ⟨_, rfl⟩
  · cases h
theorem dec_cl (l : List Nat) : decide (V.str (mkS (l.take 2)) = V.str (Str.ofString "</")) = hcl l := by
  rw [dec_str, lit (s := "</") (l := [60, 47]), tl_mkS, tl_mkS]
  match l with
  | [] => rfl
  | [c] =>
    show decide ([c] = [60, 47]) = hcl [c]
    rw [decide_eq_false (by simp)]
    unfold hcl
    split
    · rename_i e; cases e
    · rfl
  | c :: d :: r =>
    show decide ([c, d] = [60, 47]) = hcl (c :: d :: r)
    by_cases h : c = 60 ∧ d = 47
    · obtain ⟨rfl, rfl⟩ := h
      rfl
    · rw [decide_eq_false (by simpa using h)]
      unfold hcl
      split
      · rename_i e
        cases e
        exact absurd ⟨rfl, rfl⟩ h
      · rfl
theorem clN_le (nm l : List Nat) : (clN nm l).1 ≤ l.length := by
  have h3 := exN_le nm l
  have h5 := exN_le [62] ((l.drop nm.length).drop (blN (l.drop nm.length)))
  have h4 := blN_le (l.drop nm.length)
  simp only [List.length_drop] at h4 h5
  unfold clN
  split
  · exact h3
  · rename_i h
    have h6 : (exN nm l).2 = true := by simpa using h
    have h7 := exN_ok _ l h6
    dsimp only
    omega
section
variable {P : Program} {w : World} {K : PySem.W.Frag} {mg : Str → Option Value} {base : Heap}
def spLin : Sp := fun vs H Q _ => ∃ (z : Str) (i : Nat) (p : Addr) (st : List (List Nat)), vs = [.str z, .int i, .ref p] ∧ Gd z ∧ i ≤ z.length ∧ H p = some (.lst (opL st)) ∧ OkSt st ∧ st.length ≤ i + 1 ∧
  ∀ H' t, SameB p H H' → H' t = some (.tup [.int ((i + (innN st ((tl z).drop i)).1 : Nat) : Int), .bl (innN st ((tl z).drop i)).2]) → Q (.ref t) H'
theorem ok_Linner (T : Tx w K mg) : Ok P w K mg base CX0 7 (He.fAd K d_Linner.at_) p_Linner spLin := by
  obtain ⟨fd, F⟩ := f_Linner T
  obtain ⟨fC, GC, bC, kC⟩ := ok_Lclosing (P := P) (base := base) T
  obtain ⟨fS, GS, bS, kS⟩ := ok_Lspecial (P := P) (base := base) T
  obtain ⟨fT, GT, bT, kT⟩ := ok_Ltag (P := P) (base := base) T (ok_Lreference T)
  obtain ⟨fR, GR, bR, kR⟩ := ok_Lreference (P := P) (base := base) T
  obtain ⟨fL, GL, bL, kL⟩ := ok_Lis_sign (P := P) (base := base) T
  refine ⟨fd, ?_, b_Linner F, F.kp⟩
  refine F.ok sc_Linner (fun vs H Q E h => ?_) (fun cdv A outer s H vs Q E hr h => ?_)
  · obtain ⟨z, i, p, st, rfl, _⟩ := h
    rfl
  · obtain ⟨z, i, p, st0, rfl, g, hi, hp, hst0, hsl0, kk⟩ := h
    have nd := sc_Linner.nd
    have hlen : z.length = (tl z).length := len_tl z
    refine ⟨_, PSs.nox (pss_cons (ps_set (i := 3) nd rfl (.inl rfl) (pv 1))
      (pss_cons (ps_while PassesOwn.never (pt_cmpR (op_neD hr.units) (pv 2) (pe_lst pa_nil) (nomark _))
        (pss_cons (ps_par (i := 4) (j := 5) rfl nd rfl rfl (by decide) rfl rfl (pa_cons pe_bl (pa_cons (pe_slice sl_str (pv 0) (po_some (pv 1)) (po_some (pe_op op_add (pv 1) pe_int))) pa_nil)) (by rfl))
        (Evl.pss_cut (ps_if (pt_cmpR op_eq (pe_slice sl_str (pv 0) (po_some (pv 1)) (po_some (pe_op op_add (pv 1) pe_int))) pe_str (nomark _))
            (pss_one (ps_asg (pe_call (E := E0) GC (hr.mono (by decide)) (by rfl) (g_Lclosing T) kC bC .nil pass0 (pa_cons (pv 0) (pa_cons (pv 1) (pa_cons (pv 2) pa_nil))))
              (pg_tup (by rfl) (pgs_cons (pg_name (i := 1) nd rfl (.inl rfl)) (pgs_cons (pg_name (i := 4) nd rfl (.inl rfl)) pgs_nil)))))
          (pss_one (ps_if (pt_cmpR op_in_seq (pe_slice sl_str (pv 0) (po_some (pv 1)) (po_some (pe_op op_add (pv 1) pe_int))) (pe_tup (pa_cons pe_str (pa_cons pe_str pa_nil))) (by rfl))
            (pss_one (ps_asg (pe_call (E := E0) GS (hr.mono (by decide)) (by rfl) (g_Lspecial T) kS bS .nil pass0 (pa_cons (pv 0) (pa_cons (pv 1) (pa_cons pe_bl pa_nil))))
              (pg_tup (by rfl) (pgs_cons (pg_name (i := 1) nd rfl (.inl rfl)) (pgs_cons (pg_name (i := 4) nd rfl (.inl rfl)) pgs_nil)))))
          (pss_one (ps_if (pt_cmpR op_eq (pv 5) pe_str (nomark _))
            (pss_cons (ps_asg (pe_call (E := E0) GT (hr.mono (by decide)) (by rfl) (g_Ltag T) kT bT .nil pass0 (pa_cons (pv 0) (pa_cons (pe_op op_add (pv 1) pe_int) pa_nil)))
                (pg_tup (by rfl) (pgs_cons (pg_name (i := 1) nd rfl (.inl rfl)) (pgs_cons (pg_name (i := 4) nd rfl (.inl rfl)) (pgs_cons (pg_name (i := 6) nd rfl (.inl rfl)) (pgs_cons (pg_name (i := 7) nd rfl (.inl rfl)) pgs_nil))))))
              (pss_one (ps_expr (pe_bm PySem.F.plainAttrs_list PySem.F.slot_list_extend PySem.F.type_list_extend mt_extend (pv 2) (pa_cons (pe_op op_rep (pe_lst (pa_cons (pv 6) pa_nil)) (pe_callTy call_int1 (by rfl) (n_int T) boot_int (pa_cons (pe_and (pv 4) (pe_one (pe_not (pv 7)))) pa_nil))) pa_nil)))))
          (pss_one (ps_if (pt_cmpR op_eq (pv 5) pe_str (nomark _))
            (pss_one (ps_asg (pe_call (E := E0) GR (hr.mono (by decide)) (by rfl) (g_Lreference T) kR bR .nil pass0 (pa_cons (pv 0) (pa_cons (pe_op op_add (pv 1) pe_int) pa_nil)))
              (pg_tup (by rfl) (pgs_cons (pg_name (i := 1) nd rfl (.inl rfl)) (pgs_cons (pg_name (i := 4) nd rfl (.inl rfl)) pgs_nil)))))
          (pss_one (ps_if (pw_or (pt_not (pt_val (pe_call (E := E0) GL (hr.mono (by decide)) (by rfl) (g_Lis_sign T) kL bL .nil pass0 (pa_cons (pv 5) pa_nil))))
                (pw_or1 (pw_and (pt_cmpR op_eq (pv 5) pe_str (nomark _)) (pw_and1 (pt_val (pe_m1 PySem.F.slot_str_endswith PySem.F.type_str_endswith mt_endswith (pe_slice sl_str (pv 0) (po_some (pv 3)) (po_some (pv 1))) pe_str)))).pt)).pt
              (pss_one (ps_ret (pe_tup (pa_cons (pv 1) (pa_cons pe_bl pa_nil)))))
              (pss_one (ps_set (i := 1) nd rfl (.inl rfl) (pe_op op_add (pv 1) pe_int))))))))))))
        (pss_cons (ps_if (pt_not (pt_val (pv 4))) (pss_one (ps_ret (pe_tup (pa_cons (pv 1) (pa_cons pe_bl pa_nil))))) pss_nil)
        (pss_one (ps_if (pt_cmpR op_in_sign (pv 5) pe_str (by rfl)) (pss_one (ps_set (i := 3) nd rfl (.inl rfl) (pv 1))) pss_nil))))))
      (pss_one (ps_ret (pe_tup (pa_cons (pv 1) (pa_cons pe_bl pa_nil))))))), ?_⟩
    have ret : ∀ (H1 : Hp) (n : Nat) (b : Bool), SameB p H H1 → innN st0 ((tl z).drop i) = (n, b) → ∀ j : Int, j = ((i + n : Nat) : Int) → ∀ q, H1 q = none → Q (.ref q) (upd H1 q (.tup [.int j, .bl b])) := by
      intro H1 n b s1 e j hj q hq
      rw [e] at kk
      subst hj
      exact kk _ q (s1.trans (.new hq)) upd_same
    refine ⟨_, rfl, ?_⟩
    refine while_x (fun mm σ H1 => ∃ (j b : Nat) (st : List (List Nat)) (v4 v5 v6 v7 : Option V), mm = z.length - j ∧ σ = [some (V.str z), some (.int (j : Int)), some (.ref p), some (.int (b : Int)), v4, v5, v6, v7] ∧ SameB p H H1 ∧ H1 p = some (.lst (opL st)) ∧ InvL z i st0 j b st)
      (fun σ H1 => ∃ (j : Nat) (v3 v4 v5 v6 v7 : Option V), σ = [some (V.str z), some (.int (j : Int)), some (.ref p), v3, v4, v5, v6, v7] ∧ SameB p H H1 ∧ i ≤ j ∧ innN st0 ((tl z).drop i) = (j - i, true))
      ⟨_, i, i, st0, none, none, none, none, rfl, rfl, .refl p H, hp, Nat.le_refl _, Nat.le_refl _, hi, hst0, hsl0, [], (tl z).drop i, rfl, by simp, rfl, rfl, fun _ => rfl, by simp⟩ ?_ ?_
    · rintro σ H1 ⟨j, v3, v4, v5, v6, v7, rfl, s1, hij, e⟩
      exact ⟨_, rfl, (by show 2 ≤ sizeLine; decide), ret H1 _ true s1 e _ (by omega)⟩
    · rintro - mm σ H1 R ⟨j, b, st, v4, v5, v6, v7, rfl, rfl, s1, hp1, hI⟩ hfin hbody
      refine ⟨_, rfl, by decide, fun M hM => ?_⟩
      have hp2 : upd H1 M (.lst []) p = some (.lst (opL st)) := (same_new hM) _ _ hp1
      have s2 : SameB p H (upd H1 M (.lst [])) := s1.trans (.new hM)
      have hM2 : SqL K (upd H1 M (.lst [])) M [] := SqL.of upd_same
      generalize upd H1 M (.lst []) = H2 at hp2 s2 hM2 ⊢
      refine ⟨.list ((st.reverse.map mkS).map PyData.str), .list [], .lst (SqL.of (by rw [← opL_sv]; exact hp2)) (dpAll_sv _), .lst hM2 .nil, shaped_sv _ (OkSt.strOk hI.2.2.2.1), by decide, ?_⟩
      refine ⟨_, rfl, ?_⟩
      rw [eqv_nilS]
      cases st with
      | nil => exact hfin _ ⟨j, _, _, _, _, _, rfl, s2, Nat.le_trans hI.1 hI.2.1, hI.fin⟩
      | cons nm st =>
        rw [show ((nm :: st).reverse.map mkS).isEmpty = false by simp]
        refine hbody _ ?_
        have hj := hI.2.2.1
        refine ⟨_, rfl, _, rfl, _, rfl, _, rfl, _, _, rfl, rfl, _, rfl, z, rfl, g.line, _, _, rfl, ?_⟩
        rw [cut_one]
        refine ⟨fun σ H4 => ∃ (j' : Nat) (fine : Bool) (c : Nat) (r : List Nat) (v6 v7 : Option V), (tl z).drop j = c :: r ∧ σ = [some (V.str z), some (.int (j' : Int)), some (.ref p), some (.int (b : Int)), some (.bl fine), some (.str (sg ((tl z).drop j))), v6, v7] ∧ SameB p H H4 ∧ i ≤ j' ∧
            (fine = false → innN st0 ((tl z).drop i) = (j' - i, false)) ∧ (fine = true → ∃ st', H4 p = some (.lst (opL st')) ∧ j < j' ∧ InvL z i st0 j' (if c = 60 ∨ c = 38 then j' else b) st'), ?_, ?_⟩
        · have c2 : cutS z (some (j : Int)) (some ((j : Int) + 2)) = mkS (((tl z).drop j).take 2) := by
            rw [show ((j : Int) + 2) = ((j + 2 : Nat) : Int) by omega, cut_nat, show j + 2 - j = 2 by omega]
          refine ⟨_, rfl, _, rfl, _, rfl, _, rfl, _, _, rfl, rfl, _, rfl, z, rfl, g.line, ?_⟩
          rw [c2]
          refine ⟨rfl, _, rfl, ?_⟩
          show if decide (V.str (mkS (((tl z).drop j).take 2)) = V.str (Str.ofString "</")) = true then _ else _
          rw [dec_cl]
          have hib := hI.1
          have hbj := hI.2.1
          have hml : ((tl z).drop j).length = z.length - j := by rw [List.length_drop]; omega
          cases hcl1 : hcl ((tl z).drop j) with
          | true =>
            refine iteT ?_
            obtain ⟨r, hr'⟩ := hcl_true hcl1
            have hrl := congrArg List.length hr'
            rw [hml] at hrl
            simp only [List.length_cons] at hrl
            have hcle := clN_le nm r
            refine ⟨_, rfl, _, rfl, _, rfl, z, j, p, nm, st, r, rfl, g, hj, hr', hp2, ?_, fun H3 t3 s3 ht3 hp3 => ?_⟩
            · have := (hI.2.2.2.1 nm List.mem_cons_self).1
              omega
            refine ⟨t3, _, rfl, SqT.of ht3, rfl, _, _, rfl, _, _, rfl, rfl, ?_⟩
            have hcs := istep_cl nm st r
            refine ⟨j + ((clN nm r).1 + 2), (clN nm r).2, 60, 47 :: r, _, _, hr', rfl, s2.trans s3, by omega, fun h => ?_, fun h => ⟨st, hp3 h, by omega, ?_⟩⟩
            · rw [h, if_neg Bool.false_ne_true] at hcs
              exact hI.bad hr' rfl hcs
            · rw [h, if_pos rfl] at hcs
              rw [if_pos (.inl rfl)]
              have hok := hI.2.2.2.1
              have hsl := hI.2.2.2.2.1
              rw [List.length_cons] at hsl
              exact hI.go hr' rfl hcs (fun x hx => hok x (List.mem_cons_of_mem _ hx)) (by omega) (by omega)
          | false =>
            refine iteF ?_
            refine ⟨_, rfl, _, rfl, _, rfl, _, rfl, _, _, rfl, rfl, _, rfl, z, rfl, g.line, ?_⟩
            rw [c2]
            refine ⟨(by decide), fun t ht => ⟨t, _, rfl, .inr (SqT.of upd_same), rfl, rfl, ?_⟩⟩
            rw [if_neg Bool.false_ne_true]
            refine ⟨_, rfl, ?_⟩
            rw [in_hd2]
            have s3 : SameB p H (upd H2 t (.tup [.str (Str.ofString "<!"), .str (Str.ofString "<?")])) := s2.trans (.new ht)
            have hp3 := (same_new (o := .tup [.str (Str.ofString "<!"), .str (Str.ofString "<?")]) ht) _ _ hp2
            generalize upd H2 t (.tup [.str (Str.ofString "<!"), .str (Str.ofString "<?")]) = H3 at s3 hp3 ⊢
            cases hh : hd2 ((tl z).drop j) with
            | true =>
              refine iteT ?_
              obtain ⟨l2, hl2, hx⟩ := hd2_true hh
              have hrl := congrArg List.length hl2
              rw [hml] at hrl
              simp only [List.length_cons] at hrl
              have hsle := spN_len true l2
              refine ⟨_, rfl, _, rfl, z, j, true, l2, rfl, g, hj, hl2, hx, fun H4 t4 s4 ht4 => ?_⟩
              refine ⟨t4, _, rfl, SqT.of ht4, rfl, _, _, rfl, _, _, rfl, rfl, ?_⟩
              have hcs := istep_sp nm st hx
              refine ⟨j + ((spN true l2).1 + 1), (spN true l2).2, 60, l2, _, _, hl2, rfl, s3.trans (.of s4), by omega, fun h => ?_, fun h => ⟨nm :: st, s4 _ _ hp3, by omega, ?_⟩⟩
              · rw [h, if_neg Bool.false_ne_true] at hcs
                exact hI.bad hl2 rfl hcs
              · rw [h, if_pos rfl] at hcs
                rw [if_pos (.inl rfl)]
                exact hI.go hl2 rfl hcs hI.2.2.2.1 (by omega) (by have := hI.2.2.2.2.1; omega)
            | false =>
              refine iteF ?_
              refine ⟨_, rfl, rfl, _, rfl, ?_⟩
              show if decide (V.str (sg ((tl z).drop j)) = V.str (Str.ofString "<")) = true then _ else _
              rw [sg_lit _ (c := 60)]
              cases h60 : hB (· == 60) ((tl z).drop j) with
              | true =>
                refine iteT ?_
                obtain ⟨l, hl⟩ := hB_true h60
                have hrl := congrArg List.length hl
                rw [hml] at hrl
                simp only [List.length_cons] at hrl
                have hdl := (drop_cons hl).2
                have htl := teN_le l
                refine ⟨_, rfl, _, rfl, _, _, rfl, rfl, z, j + 1, l, (by show [V.str z, .int ((j : Int) + 1)] = _; rw [show ((j : Int) + 1) = ((j + 1 : Nat) : Int) by omega]), g, by omega, hdl, fun H4 t4 nm' c' s4 ht4 hok4 => ?_⟩
                refine ⟨t4, _, rfl, SqT.of ht4, rfl, _, _, rfl, _, _, rfl, _, _, rfl, _, _, rfl, rfl, ?_⟩
                have hp4 := s4 _ _ hp3
                refine ⟨_, rfl, .inl ⟨rfl, _, SqL.of hp4⟩, _, rfl, (by show 1 ≤ sizeLine; decide), fun L hL => ?_⟩
                refine ⟨_, rfl, _, rfl, ?_⟩
                have hpL : upd H4 L (.lst [.str nm']) p = some (.lst (opL (nm :: st))) := (same_new hL) _ _ hp4
                have s5 : SameB p H (upd H4 L (.lst [.str nm'])) := (s3.trans (.of s4)).trans (.new hL)
                have hLL : upd H4 L (.lst [.str nm']) L = some (.lst [.str nm']) := upd_same
                generalize upd H4 L (.lst [.str nm']) = H5 at hpL s5 hLL ⊢
                have hsl := hI.2.2.2.2.1
                have hgl := g.len
                have hol : (opL (nm :: st)).length ≤ 400001 := by
                  unfold opL
                  rw [List.length_map, List.length_reverse]
                  omega
                have h47 : ∀ r, l ≠ 47 :: r := fun r e => by
                  rw [hl, e] at hcl1
                  cases hcl1
                have h33 : ∀ r, l ≠ 33 :: r := fun r e => by
                  rw [hl, e] at hh
                  cases hh
                have h63 : ∀ r, l ≠ 63 :: r := fun r e => by
                  rw [hl, e] at hh
                  cases hh
                have hcs := istep_te nm st h47 h33 h63
                cases hfine : (teN l).2.1 with
                | false =>
                  refine iteF ?_
                  rw [hfine, if_neg Bool.false_ne_true] at hcs
                  refine .inr ⟨false, rfl, L, 0, [.str nm'], rfl, rfl, hLL, by decide, by decide, (by show 1 * 0 ≤ sizeLine; decide), fun p5 hp5 => ⟨p, p5, _, [], rfl, rfl, (same_new hp5) _ _ hpL, upd_same, (by rw [sizeLine_eq]; show (opL (nm :: st)).length + 0 ≤ _; omega), ?_⟩⟩
                  refine ⟨j + 1 + (teN l).1, false, 60, l, _, _, hl, rfl, (s5.trans (.new hp5)).trans .up, by omega, fun _ => ?_, (fun h => by cases h)⟩
                  rw [hI.bad hl rfl hcs, show j + ((teN l).1 + 1) = j + 1 + (teN l).1 by omega]
                | true =>
                  refine iteT ?_
                  obtain ⟨hnm, rfl⟩ := hok4 hfine
                  subst hnm
                  rw [hfine, if_pos rfl] at hcs
                  refine ⟨_, rfl, _, rfl, ?_⟩
                  cases hcd : (teN l).2.2 with
                  | true =>
                    refine .inr ⟨false, rfl, L, 0, _, rfl, rfl, hLL, by decide, by decide, (by show 1 * 0 ≤ sizeLine; decide), fun p5 hp5 => ⟨p, p5, _, [], rfl, rfl, (same_new hp5) _ _ hpL, upd_same, (by rw [sizeLine_eq]; show (opL (nm :: st)).length + 0 ≤ _; omega), ?_⟩⟩
                    rw [hcd, if_pos rfl] at hcs
                    refine ⟨j + 1 + (teN l).1, true, 60, l, _, _, hl, rfl, (s5.trans (.new hp5)).trans .up, by omega, (fun h => by cases h), fun _ => ⟨nm :: st, ?_, by omega, ?_⟩⟩
                    · rw [upd_same, List.append_nil]
                    · rw [if_pos (.inl rfl)]
                      have := hI.go hl rfl hcs hI.2.2.2.1 (by omega) (by omega)
                      rw [show j + ((teN l).1 + 1) = j + 1 + (teN l).1 by omega] at this
                      exact this
                  | false =>
                    refine .inr ⟨true, rfl, L, 1, _, rfl, rfl, hLL, by decide, by decide, (by show 1 * 1 ≤ sizeLine; decide), fun p5 hp5 => ⟨p, p5, _, [.str (mkS (l.take (nmN l).1))], rfl, rfl, (same_new hp5) _ _ hpL, upd_same, (by rw [sizeLine_eq]; show (opL (nm :: st)).length + 1 ≤ _; omega), ?_⟩⟩
                    rw [hcd, if_neg Bool.false_ne_true] at hcs
                    have hokn : OkSt (l.take (nmN l).1 :: nm :: st) := fun x hx => by
                      rcases List.mem_cons.mp hx with rfl | hx
                      · refine ⟨by rw [List.length_take]; omega, fun c hc => ?_⟩
                        have h1 : c ∈ tl z := List.mem_of_mem_drop (i := j + 1) (by rw [hdl]; exact List.mem_of_mem_take hc)
                        have h2 := g.sg c h1
                        unfold isSg at h2
                        simp only [Bool.or_eq_true, Bool.and_eq_true, decide_eq_true_eq, beq_iff_eq] at h2
                        omega
                      · exact hI.2.2.2.1 x hx
                    refine ⟨j + 1 + (teN l).1, true, 60, l, _, _, hl, rfl, (s5.trans (.new hp5)).trans .up, by omega, (fun h => by cases h), fun _ => ⟨l.take (nmN l).1 :: nm :: st, ?_, by omega, ?_⟩⟩
                    · rw [upd_same]
                      exact congrArg (fun l => some (HO.lst l)) (opL_cons _ _).symm
                    · rw [if_pos (.inl rfl)]
                      have := hI.go hl rfl hcs hokn (by omega) (by simp only [List.length_cons] at hsl ⊢; omega)
                      rw [show j + ((teN l).1 + 1) = j + 1 + (teN l).1 by omega] at this
                      exact this
              | false =>
                refine iteF ?_
                refine ⟨_, rfl, rfl, _, rfl, ?_⟩
                show if decide (V.str (sg ((tl z).drop j)) = V.str (Str.ofString "&")) = true then _ else _
                rw [sg_lit _ (c := 38)]
                cases h38 : hB (· == 38) ((tl z).drop j) with
                | true =>
                  refine iteT ?_
                  obtain ⟨l, hl⟩ := hB_true h38
                  have hrl := congrArg List.length hl
                  rw [hml] at hrl
                  simp only [List.length_cons] at hrl
                  have hdl := (drop_cons hl).2
                  have hrf := rfN_le l
                  refine ⟨_, rfl, _, rfl, _, _, rfl, rfl, z, j + 1, (by show [V.str z, .int ((j : Int) + 1)] = _; rw [show ((j : Int) + 1) = ((j + 1 : Nat) : Int) by omega]), g, by omega, fun H4 t4 s4 ht4 => ?_⟩
                  rw [hdl] at ht4
                  refine ⟨t4, _, rfl, SqT.of ht4, rfl, _, _, rfl, _, _, rfl, rfl, ?_⟩
                  have hcs := istep_rf nm st l
                  refine ⟨j + 1 + (rfN l).1, (rfN l).2, 38, l, _, _, hl, rfl, s3.trans (.of s4), by omega, fun h => ?_, fun h => ⟨nm :: st, s4 _ _ hp3, by omega, ?_⟩⟩
                  · rw [h, if_neg Bool.false_ne_true] at hcs
                    rw [hI.bad hl rfl hcs, show j + ((rfN l).1 + 1) = j + 1 + (rfN l).1 by omega]
                  · rw [h, if_pos rfl] at hcs
                    rw [if_pos (.inr rfl)]
                    have := hI.go hl rfl hcs hI.2.2.2.1 (by omega) (by have := hI.2.2.2.2.1; omega)
                    rw [show j + ((rfN l).1 + 1) = j + 1 + (rfN l).1 by omega] at this
                    exact this
                | false =>
                  refine iteF ?_
                  refine ⟨_, rfl, _, rfl, fun H4 s4 => ⟨_, rfl, ?_⟩⟩
                  have hp4 := s4 _ _ hp3
                  have s4' : SameB p H H4 := s3.trans (.of s4)
                  cases hl : (tl z).drop j with
                  | nil =>
                    refine iteT ?_
                    refine iteT ?_
                    exact ⟨_, rfl, (by show 2 ≤ sizeLine; decide), ret H4 _ false s4' (hI.stop hl) _ (by omega)⟩
                  | cons c r =>
                    have hsg : hB isSg (c :: r) = true := g.sg c (List.mem_of_mem_drop (i := j) (by rw [hl]; exact List.mem_cons_self))
                    rw [hsg]
                    refine iteF ?_
                    have c60 : c ≠ 60 := fun e => by rw [hl, e] at h60; cases h60
                    have c38 : c ≠ 38 := fun e => by rw [hl, e] at h38; cases h38
                    have hpl : isPl c = true := by simp [isPl, c60, c38]
                    have hrl := congrArg List.length hl
                    rw [hml] at hrl
                    simp only [List.length_cons] at hrl
                    refine ⟨_, rfl, rfl, _, rfl, ?_⟩
                    show if decide (V.str (sg (c :: r)) = V.str (Str.ofString ">")) = true then _ else _
                    rw [sg_lit _ (c := 62)]
                    have good : ¬ (c = 62 ∧ ew (((tl z).drop b).take (j - b)) = true) → ∃ (j' : Nat) (fine : Bool) (c' : Nat) (r' : List Nat) (v6' v7' : Option V), (c :: r) = c' :: r' ∧ [some (V.str z), some (.int ((j : Int) + 1)), some (.ref p), some (.int (b : Int)), some (.bl true), some (.str (sg (c :: r))), v6, v7] = [some (V.str z), some (.int (j' : Int)), some (.ref p), some (.int (b : Int)), some (.bl fine), some (.str (sg (c :: r))), v6', v7'] ∧ SameB p H H4 ∧ i ≤ j' ∧
                        (fine = false → innN st0 ((tl z).drop i) = (j' - i, false)) ∧ (fine = true → ∃ st', H4 p = some (.lst (opL st')) ∧ j < j' ∧ InvL z i st0 j' (if c' = 60 ∨ c' = 38 then j' else b) st') := by
                      intro hn
                      refine ⟨j + 1, true, c, r, v6, v7, rfl, by rw [show ((j : Int) + 1) = ((j + 1 : Nat) : Int) by omega], s4', by omega, (fun h => by cases h), fun _ => ⟨nm :: st, hp4, by omega, ?_⟩⟩
                      rw [if_neg (by rintro (h | h); exact c60 h; exact c38 h)]
                      exact hI.plain hl hpl hn
                    by_cases hc62 : c = 62
                    · rw [show hB (· == 62) (c :: r) = true by rw [hc62]; rfl]
                      refine iteT ?_
                      refine ⟨_, rfl, _, rfl, _, rfl, _, rfl, _, rfl, z, rfl, g.line, ⟨_, rfl⟩, _, _, rfl, rfl, _, rfl, ?_⟩
                      rw [cut_nat, ends0]
                      cases hew : ew (((tl z).drop b).take (j - b)) with
                      | true =>
                        refine iteT ?_
                        rw [hc62] at hl
                        exact ⟨_, rfl, (by show 2 ≤ sizeLine; decide), ret H4 _ false s4' (hI.brk hl hew) _ (by omega)⟩
                      | false =>
                        refine iteF ?_
                        exact ⟨_, rfl, _, _, rfl, rfl, good fun h => by rw [hew] at h; cases h.2⟩
                    · rw [show hB (· == 62) (c :: r) = false by simpa [hB] using hc62]
                      refine iteF ?_
                      refine iteF ?_
                      exact ⟨_, rfl, _, _, rfl, rfl, good fun h => hc62 h.1⟩
        · rintro σ H4 ⟨j', fine, c, r, v6, v7, hc, rfl, s4, hij', hff, hft⟩
          refine ⟨_, rfl, _, rfl, ?_⟩
          cases fine with
          | false =>
            refine iteT ?_
            exact ⟨_, rfl, (by show 2 ≤ sizeLine; decide), ret H4 _ false s4 (hff rfl) _ (by omega)⟩
          | true =>
            refine iteF ?_
            obtain ⟨st', hp4, hjj, hI'⟩ := hft rfl
            refine ⟨_, rfl, c, Str.ofString "<&", (by rw [hc]; rfl), rfl, _, rfl, ?_⟩
            have e2 : (Str.ofString "<&").cps.toList = [60, 38] := by decide +kernel
            rw [e2]
            have hj' := hI'.2.2.1
            by_cases hcc : c = 60 ∨ c = 38
            · rw [decide_eq_true (by simpa using hcc)]
              refine iteT ?_
              rw [if_pos hcc] at hI'
              exact ⟨_, rfl, z.length - j', by omega, j', j', st', _, _, _, _, rfl, rfl, s4, hp4, hI'⟩
            · rw [decide_eq_false (by simpa using hcc)]
              refine iteF ?_
              rw [if_neg hcc] at hI'
              exact ⟨z.length - j', by omega, j', b, st', _, _, _, _, rfl, rfl, s4, hp4, hI'⟩
end
end K2
/-! K02Lq0 -/
/-! The whole document, as the law reads it: plain Lean. -/
namespace K2
theorem arB_succ (k : Nat) (l : List Nat) : arB (k + 1) l = if hd2 l = true then
      (if (spN false (l.drop 1)).2 = true then
        ((arB k ((l.drop ((spN false (l.drop 1)).1 + 1)).drop (blN (l.drop ((spN false (l.drop 1)).1 + 1))))).1 + blN (l.drop ((spN false (l.drop 1)).1 + 1)) + ((spN false (l.drop 1)).1 + 1),
          (arB k ((l.drop ((spN false (l.drop 1)).1 + 1)).drop (blN (l.drop ((spN false (l.drop 1)).1 + 1))))).2)
      else ((spN false (l.drop 1)).1 + 1, false))
    else (0, true) := rfl
theorem bl_drop (l : List Nat) : blN (l.drop (blN l)) = 0 := by
  induction l with
  | nil => rfl
  | cons c r ih =>
    by_cases h : isBl c = true
    · have e : blN (c :: r) = blN r + 1 := by
        unfold blN
        rw [List.takeWhile_cons, if_pos h]
        rfl
      rw [e]
      exact ih
    · have e : blN (c :: r) = 0 := by
        unfold blN
        rw [List.takeWhile_cons, if_neg h]
        rfl
      rw [e]
      exact e
theorem run_go {f n : Nat} {st : List (List Nat)} {has : Bool} {l : List Nat} {s : List (List Nat) × Bool} (hl : l ≠ []) (hf : l.length ≤ f) (h : step st has l = (n, some s)) : run f st has l = ((run f s.1 s.2 (l.drop n)).1 + n, (run f s.1 s.2 (l.drop n)).2) := by
  cases l with
  | nil => exact absurd rfl hl
  | cons c r =>
    cases f with
    | zero => simp at hf
    | succ f =>
      have hp := step_pos hl h
      conv => lhs; unfold run
      rw [h]
      dsimp only
      rw [run_fuel f (f + 1) s.1 s.2 ((c :: r).drop n) (by simp only [List.length_drop, List.length_cons] at *; omega) (by simp only [List.length_drop, List.length_cons] at *; omega)]
theorem run_no {f n : Nat} {st : List (List Nat)} {has : Bool} {l : List Nat} (hl : l ≠ []) (hf : l.length ≤ f) (h : step st has l = (n, none)) : run f st has l = (n, false) := by
  cases l with
  | nil => exact absurd rfl hl
  | cons c r =>
    cases f with
    | zero => simp at hf
    | succ f =>
      unfold run
      rw [h]
theorem run_bl {f : Nat} {has : Bool} {l : List Nat} (hf : l.length ≤ f) : run f [] has l = ((run f [] has (l.drop (blN l))).1 + blN l, (run f [] has (l.drop (blN l))).2) := by
  by_cases h : blN l = 0
  · rw [h]
    rfl
  · have hl : l ≠ [] := fun e => h (by rw [e]; rfl)
    have hs : step [] has l = (blN l, some ([], has)) := by
      unfold step
      rw [if_pos h]
    exact run_go hl hf hs
theorem step_sp0 {has : Bool} {l : List Nat} (h0 : hd2 l = true) : step [] has l = if (spN false (l.drop 1)).2 = true then ((spN false (l.drop 1)).1 + 1, some ([], has)) else ((spN false (l.drop 1)).1 + 1, none) := by
  obtain ⟨l2, rfl, hx⟩ := hd2_true h0
  rcases hx with ⟨r, rfl⟩ | ⟨r, rfl⟩
  · rfl
  · rfl
theorem run_arB {f : Nat} {has : Bool} : ∀ (k : Nat) (l : List Nat), blN l = 0 → l.length < k → l.length ≤ f → (arB k l).1 ≤ l.length ∧
    (run f [] has l = if (arB k l).2 = true then ((run f [] has (l.drop (arB k l).1)).1 + (arB k l).1, (run f [] has (l.drop (arB k l).1)).2) else ((arB k l).1, false)) ∧ ((arB k l).2 = true → blN (l.drop (arB k l).1) = 0 ∧ hd2 (l.drop (arB k l).1) = false)
  | 0, l, _, h, _ => by omega
  | k + 1, l, hb, hk, hf => by
    rw [arB_succ]
    cases hh : hd2 l with
    | false =>
      rw [if_neg Bool.false_ne_true]
      exact ⟨Nat.zero_le _, rfl, fun _ => ⟨hb, hh⟩⟩
    | true =>
      rw [if_pos rfl]
      have hs := step_sp0 (has := has) hh
      have hl : l ≠ [] := fun e => by rw [e] at hh; cases hh
      obtain ⟨l2, hl2, _⟩ := hd2_true hh
      have hle : (spN false (l.drop 1)).1 + 1 ≤ l.length := by
        have := spN_len false l2
        rw [hl2]
        show (spN false l2).1 + 1 ≤ l2.length + 1
        omega
      cases h2 : (spN false (l.drop 1)).2 with
      | false =>
        rw [h2, if_neg Bool.false_ne_true] at hs
        rw [if_neg Bool.false_ne_true]
        exact ⟨hle, run_no hl hf hs, fun h => by cases h⟩
      | true =>
        rw [h2, if_pos rfl] at hs
        rw [if_pos rfl]
        have hb2 := blN_le (l.drop ((spN false (l.drop 1)).1 + 1))
        have r1 := run_go hl hf hs
        have hf2 : (l.drop ((spN false (l.drop 1)).1 + 1)).length ≤ f := by rw [List.length_drop]; omega
        have r2 := run_bl (has := has) hf2
        obtain ⟨a1, a2, a3⟩ := run_arB (f := f) (has := has) k ((l.drop ((spN false (l.drop 1)).1 + 1)).drop (blN (l.drop ((spN false (l.drop 1)).1 + 1)))) (bl_drop _) (by simp only [List.length_drop]; omega) (by simp only [List.length_drop] at *; omega)
        have ed : ∀ n : Nat, l.drop (n + blN (l.drop ((spN false (l.drop 1)).1 + 1)) + ((spN false (l.drop 1)).1 + 1)) = ((l.drop ((spN false (l.drop 1)).1 + 1)).drop (blN (l.drop ((spN false (l.drop 1)).1 + 1)))).drop n := by
          intro n
          rw [List.drop_drop, List.drop_drop]
          congr 1
          omega
        dsimp only
        rw [ed]
        refine ⟨?_, ?_, a3⟩
        · simp only [List.length_drop] at a1 hb2
          omega
        · rw [r1]
          dsimp only
          rw [r2, a2]
          split
          · dsimp only
            rw [Nat.add_assoc, Nat.add_assoc, Nat.add_assoc]
          · rfl
theorem run_ar {f : Nat} {has : Bool} {l : List Nat} (hf : l.length ≤ f) : (arN l).1 ≤ l.length ∧
    (run f [] has l = if (arN l).2 = true then ((run f [] has (l.drop (arN l).1)).1 + (arN l).1, (run f [] has (l.drop (arN l).1)).2) else ((arN l).1, false)) ∧ ((arN l).2 = true → blN (l.drop (arN l).1) = 0 ∧ hd2 (l.drop (arN l).1) = false) := by
  have hb := blN_le l
  obtain ⟨a1, a2, a3⟩ := run_arB (f := f) (has := has) (l.length + 1) (l.drop (blN l)) (bl_drop l) (by rw [List.length_drop]; omega) (by rw [List.length_drop]; omega)
  have ed : ∀ n : Nat, l.drop (n + blN l) = (l.drop (blN l)).drop n := fun n => by rw [List.drop_drop, Nat.add_comm]
  unfold arN
  dsimp only
  rw [ed]
  rw [List.length_drop] at a1
  refine ⟨by omega, ?_, a3⟩
  rw [run_bl hf, a2]
  split
  · dsimp only
    rw [Nat.add_assoc]
  · rfl
def Doc (l : List Nat) (k : Nat) (st : List (List Nat)) (has : Bool) : Prop := k ≤ l.length ∧ docN l = ((run l.length st has (l.drop k)).1 + k, (run l.length st has (l.drop k)).2)
theorem Doc.le {l : List Nat} {k : Nat} {st : List (List Nat)} {has : Bool} (h : Doc l k st has) : (l.drop k).length ≤ l.length := by rw [List.length_drop]; omega
theorem Doc.start {l : List Nat} (h : (dcN l).2 = true) (hk : (dcN l).1 ≤ l.length) : Doc l (dcN l).1 [] false := by
  refine ⟨hk, ?_⟩
  unfold docN
  rw [if_pos h]
theorem Doc.no {l : List Nat} (h : (dcN l).2 = false) : docN l = ((dcN l).1, false) := by
  unfold docN
  rw [h]
  rfl
theorem Doc.ar_no {l : List Nat} {k : Nat} {has : Bool} (h : Doc l k [] has) (hn : (arN (l.drop k)).2 = false) : docN l = (k + (arN (l.drop k)).1, false) := by
  rw [h.2, (run_ar h.le).2.1, hn]
  rw [if_neg Bool.false_ne_true, Nat.add_comm]
theorem Doc.ar_ok {l : List Nat} {k : Nat} {has : Bool} (h : Doc l k [] has) (hn : (arN (l.drop k)).2 = true) : Doc l (k + (arN (l.drop k)).1) [] has ∧ blN (l.drop (k + (arN (l.drop k)).1)) = 0 ∧ hd2 (l.drop (k + (arN (l.drop k)).1)) = false := by
  obtain ⟨a1, a2, a3⟩ := run_ar (has := has) h.le
  rw [hn, if_pos rfl] at a2
  rw [← List.drop_drop]
  refine ⟨⟨?_, ?_⟩, a3 hn⟩
  · rw [List.length_drop] at a1
    have := h.1
    omega
  · rw [h.2, a2, ← List.drop_drop]
    dsimp only
    rw [Nat.add_assoc, Nat.add_comm k]
theorem Doc.lt_no {l : List Nat} {k : Nat} (h : Doc l k [] false) (hb : blN (l.drop k) = 0) (hn : ∀ r, l.drop k ≠ 60 :: r) : docN l = (k, false) := by
  rw [h.2]
  cases hl : l.drop k with
  | nil =>
    rw [show run l.length [] false [] = (0, false) by unfold run; rfl]
    dsimp only
    rw [Nat.zero_add]
  | cons c r =>
    rw [hl] at hb hn
    have hs : step [] false (c :: r) = (0, none) := by
      unfold step
      dsimp only
      rw [if_neg (by rw [hb]; simp)]
      split
      · rename_i e; exact absurd e (hn _)
      · rename_i e; exact absurd e (hn _)
      · rename_i e; exact absurd e (hn _)
      · rfl
    rw [run_no (by simp) (by rw [← hl]; exact h.le) hs]
    dsimp only
    rw [Nat.zero_add]
theorem hd2_no {r : List Nat} (h : hd2 (60 :: r) = false) : (∀ r', r ≠ 33 :: r') ∧ ∀ r', r ≠ 63 :: r' := by
  constructor
  · rintro r' rfl
    cases h
  · rintro r' rfl
    cases h
theorem Doc.te_no {l : List Nat} {k : Nat} {r : List Nat} (h : Doc l k [] false) (hb : blN (l.drop k) = 0) (hh : hd2 (l.drop k) = false) (hl : l.drop k = 60 :: r) (hn : (teN r).2.1 = false) : docN l = (k + 1 + (teN r).1, false) := by
  rw [hl] at hb hh
  obtain ⟨h1, h2⟩ := hd2_no hh
  have hs : step [] false (60 :: r) = ((teN r).1 + 1, none) := by
    unfold step
    dsimp only
    rw [if_neg (by rw [hb]; simp)]
    split
    · rename_i e; exact absurd (List.cons.inj e).2 (h1 _)
    · rename_i e; exact absurd (List.cons.inj e).2 (h2 _)
    · rename_i e
      have := (List.cons.inj e).2
      subst this
      rw [hn]
      rfl
    · rename_i e; exact absurd rfl (e _)
  rw [h.2, hl, run_no (by simp) (by rw [← hl]; exact h.le) hs]
  dsimp only
  rw [show (teN r).1 + 1 + k = k + 1 + (teN r).1 by omega]
theorem Doc.te_ok {l : List Nat} {k : Nat} {r : List Nat} (h : Doc l k [] false) (hb : blN (l.drop k) = 0) (hh : hd2 (l.drop k) = false) (hl : l.drop k = 60 :: r) (hn : (teN r).2.1 = true) : Doc l (k + 1 + (teN r).1) (if (teN r).2.2 = true then [] else [r.take (nmN r).1]) true := by
  have hkl := h.le
  rw [hl] at hb hh hkl
  obtain ⟨h1, h2⟩ := hd2_no hh
  have hs : step [] false (60 :: r) = ((teN r).1 + 1, some (if (teN r).2.2 = true then [] else [r.take (nmN r).1], true)) := by
    unfold step
    dsimp only
    rw [if_neg (by rw [hb]; simp)]
    split
    · rename_i e; exact absurd (List.cons.inj e).2 (h1 _)
    · rename_i e; exact absurd (List.cons.inj e).2 (h2 _)
    · rename_i e
      have := (List.cons.inj e).2
      subst this
      rw [hn]
      rfl
    · rename_i e; exact absurd rfl (e _)
  have hlen := congrArg List.length hl
  rw [List.length_drop, List.length_cons] at hlen
  have := teN_le r
  refine ⟨by omega, ?_⟩
  rw [h.2, hl, run_go (by simp) hkl hs, show l.drop (k + 1 + (teN r).1) = (60 :: r).drop ((teN r).1 + 1) by rw [← hl, List.drop_drop]; congr 1; omega]
  dsimp only
  rw [show ∀ a : Nat, a + ((teN r).1 + 1) + k = a + (k + 1 + (teN r).1) by intro a; omega]
theorem step_le {nm : List Nat} {st : List (List Nat)} {l : List Nat} {n : Nat} {s : List (List Nat) × Bool} (h : step (nm :: st) true l = (n, some s)) : n ≤ l.length := by
  unfold step at h
  dsimp only at h
  split at h
  all_goals
    split at h
    · injection h with h1 _
      subst h1
      first
        | exact Nat.add_le_add_right (clN_le _ _) 2
        | exact Nat.add_le_add_right (cdN_le _) 2
        | exact Nat.add_le_add_right (cmN_le _) 2
        | exact Nat.add_le_add_right (inN_le _) 2
        | exact Nat.add_le_add_right (teN_le _) 1
        | exact Nat.add_le_add_right (rfN_le _) 1
        | exact plN_le _
    · injection h with _ h2
      cases h2
theorem innB_le : ∀ (f : Nat) (st : List (List Nat)) (l : List Nat), l.length ≤ f → (innB f st l).2 = true → (innB f st l).1 ≤ l.length
  | f, [], l, _, _ => by
    have : innB f [] l = (0, true) := by unfold innB; rfl
    rw [this]
    exact Nat.zero_le _
  | 0, _ :: _, [], _, h => by cases h
  | _ + 1, _ :: _, [], _, h => by cases h
  | 0, _ :: _, c :: r, hf, _ => by simp at hf
  | f + 1, nm :: st, c :: r, hf, h => by
    cases e : step (nm :: st) true (c :: r) with
    | mk n o =>
      cases o with
      | none =>
        have e1 : innB (f + 1) (nm :: st) (c :: r) = (n, false) := by unfold innB; rw [e]
        rw [e1] at h
        cases h
      | some s =>
        have hp := step_pos (by simp) e
        have e1 : innB (f + 1) (nm :: st) (c :: r) = ((innB f s.1 ((c :: r).drop n)).1 + n, (innB f s.1 ((c :: r).drop n)).2) := by conv => lhs; unfold innB; rw [e]
        rw [e1] at h ⊢
        have ih := innB_le f s.1 ((c :: r).drop n) (by simp only [List.length_drop, List.length_cons] at *; omega) h
        have hn := step_le e
        rw [List.length_drop] at ih
        dsimp only
        omega
theorem Doc.in_no {l : List Nat} {k : Nat} {st : List (List Nat)} (h : Doc l k st true) (hn : (innN st (l.drop k)).2 = false) : docN l = (k + (innN st (l.drop k)).1, false) := by
  have e := innB_fuel l.length (l.drop k).length st (l.drop k) h.le (Nat.le_refl _)
  rw [h.2, run_inn _ st _ h.le, e]
  unfold innN at hn ⊢
  rw [hn, if_neg Bool.false_ne_true, Nat.add_comm]
theorem Doc.in_ok {l : List Nat} {k : Nat} {st : List (List Nat)} (h : Doc l k st true) (hn : (innN st (l.drop k)).2 = true) : Doc l (k + (innN st (l.drop k)).1) [] true := by
  have e := innB_fuel l.length (l.drop k).length st (l.drop k) h.le (Nat.le_refl _)
  have hl := innB_le (l.drop k).length st (l.drop k) (Nat.le_refl _) hn
  have hk := h.1
  rw [List.length_drop] at hl
  unfold innN at hn ⊢
  refine ⟨?_, ?_⟩
  · rw [List.length_drop]
    omega
  · rw [h.2, run_inn _ st _ h.le, e, hn, if_pos rfl, List.drop_drop]
    dsimp only
    rw [show ∀ a : Nat, a + (innB (l.drop k).length st (l.drop k)).1 + k = a + (k + (innB (l.drop k).length st (l.drop k)).1) by intro a; omega]
theorem Doc.end_ok {l : List Nat} {k : Nat} (h : Doc l k [] true) (hl : l.drop k = []) : docN l = (k, true) := by
  rw [h.2, hl, show run l.length [] true [] = (0, true) by unfold run; rfl]
  dsimp only
  rw [Nat.zero_add]
theorem Doc.end_no {l : List Nat} {k : Nat} (h : Doc l k [] true) (hb : blN (l.drop k) = 0) (hh : hd2 (l.drop k) = false) {c : Nat} {r : List Nat} (hl : l.drop k = c :: r) : docN l = (k + (if c = 60 then 1 else 0), false) := by
  have hkl := h.le
  rw [hl] at hb hh hkl
  have hs : step [] true (c :: r) = ((if c = 60 then 1 else 0), none) := by
    unfold step
    dsimp only
    rw [if_neg (by rw [hb]; simp)]
    split
    · rename_i e
      rw [e] at hh
      cases hh
    · rename_i e
      rw [e] at hh
      cases hh
    · rename_i e
      cases e
      rfl
    · rename_i e
      rw [if_neg (fun z => e r (by rw [z]))]
  rw [h.2, hl, run_no (by simp) hkl hs]
  dsimp only
  rw [Nat.add_comm]
/-- the declaration -/
theorem dc_no {l : List Nat} (h : ¬ ∃ c r, l = 60 :: 63 :: 120 :: 109 :: 108 :: c :: r ∧ isBl c = true) : dcN l = (0, true) := by
  unfold dcN
  split
  · rename_i c r
    rw [if_neg fun z => h ⟨c, r, rfl, z⟩]
  · rfl
theorem dc_yes {c : Nat} {r : List Nat} (h : isBl c = true) : dcN (60 :: 63 :: 120 :: 109 :: 108 :: c :: r) = ((unN [63, 62] [63, 62] (c :: r)).1 + 5, (unN [63, 62] [63, 62] (c :: r)).2) := by
  have hc : c ≠ 62 := fun e => by subst e; cases h
  have e1 : dcN (60 :: 63 :: 120 :: 109 :: 108 :: c :: r) = upN [63, 62] (60 :: 63 :: 120 :: 109 :: 108 :: c :: r) := by
    show (if isBl c = true then _ else _) = _
    rw [if_pos h]
  have e2 : fdN [63, 62] (60 :: 63 :: 120 :: 109 :: 108 :: c :: r) = (fdN [63, 62] (c :: r)).map (· + 5) := by
    rw [fdN_cons, if_neg (by simp), fdN_cons, if_neg (by simp), fdN_cons, if_neg (by simp), fdN_cons, if_neg (by simp), fdN_cons, if_neg (by simp)]
    cases fdN [63, 62] (c :: r) <;> rfl
  rw [e1, un_self]
  unfold upN
  rw [e2]
  cases fdN [63, 62] (c :: r) with
  | none => rfl
  | some j =>
    show (j + 5 + 2, true) = (j + 2 + 5, true)
    rw [Nat.add_right_comm]
end K2
/-! K02Lq -/
namespace K2
open PySem PySem.Spec PyProof.Rows L2 TL
theorem cut_none (z : Str) (j : Nat) : cutS z none (some (j : Int)) = mkS ((tl z).take j) := by
  have h : cutS z none (some (j : Int)) = cutS z (some ((0 : Nat) : Int)) (some (j : Int)) := by
    unfold cutS
    have h1 : HT.sIx z.length 0 (some ((0 : Nat) : Int)) = 0 := by
      show (if ((0 : Nat) : Int) < 0 then (((0 : Nat) : Int) + (z.length : Int)).toNat else min ((0 : Nat) : Int).toNat z.length) = 0
      rw [if_neg (by decide)]
      exact Nat.zero_min _
    have h2 : HT.sIx z.length 0 none = 0 := rfl
    rw [h1, h2]
  rw [h, cut_nat, List.drop_zero, Nat.sub_zero]
theorem take5 {l : List Nat} (h : l.take 5 = [60, 63, 120, 109, 108]) : l = 60 :: 63 :: 120 :: 109 :: 108 :: l.drop 5 := by
  have := (List.take_append_drop 5 l).symm
  rw [h] at this
  exact this
theorem unN_le (S Y l : List Nat) (hY : S = Y) : (unN S Y l).1 ≤ l.length := by
  subst hY
  rw [un_self]
  exact upN_le S l
theorem dcN_le (l : List Nat) : (dcN l).1 ≤ l.length := by
  unfold dcN
  split
  · split
    · exact upN_le _ _
    · exact Nat.zero_le _
  · exact Nat.zero_le _
section
variable {P : Program} {w : World} {K : PySem.W.Frag} {mg : Str → Option Value} {base : Heap}
def MidR (z : Str) (H : Hp) (l : List Nat) (X : Nat → Prop) : L2.St → Hp → Prop := fun σ H2 => ∃ (k : Nat) (fine : Bool) (v3 v4 : Option V), σ = [some (.str z), some (.int (k : Int)), some (.bl fine), v3, v4] ∧ Same H H2 ∧ (fine = false → docN l = (k, false)) ∧ (fine = true → X k)
def spLrd : Sp := fun vs H Q _ => ∃ (z : Str), vs = [.str z] ∧ Gd z ∧ rP H Q (docN (tl z)).1 (docN (tl z)).2
theorem ok_Lread (T : Tx w K mg) : Ok P w K mg base CX0 8 (He.fAd K d_Lread.at_) p_Lread spLrd := by
  obtain ⟨fd, F⟩ := f_Lread T
  obtain ⟨fU, GU, bU, kU⟩ := ok_Luntil (P := P) (base := base) T
  obtain ⟨fA, GA, bA, kA⟩ := ok_Laround (P := P) (base := base) T
  obtain ⟨fX, GX, bX, kX⟩ := ok_Lexact (P := P) (base := base) T
  obtain ⟨fT, GT, bT, kT⟩ := ok_Ltag (P := P) (base := base) T (ok_Lreference T)
  obtain ⟨fI, GI, bI, kI⟩ := ok_Linner (P := P) (base := base) T
  refine ⟨fd, ?_, b_Lread F, F.kp⟩
  refine F.ok sc_Lread (fun vs H Q E h => ?_) (fun cdv A outer s H vs Q E hr h => ?_)
  · obtain ⟨z, rfl, _⟩ := h
    rfl
  · obtain ⟨z, rfl, g, kk⟩ := h
    have nd := sc_Lread.nd
    have hlen : z.length = (tl z).length := len_tl z
    refine ⟨_, PSs.nox (pss_cons (ps_asg (pe_tup (pa_cons pe_int (pa_cons pe_bl pa_nil))) (pg_tup (by rfl) (pgs_cons (pg_name (i := 1) nd rfl (.inl rfl)) (pgs_cons (pg_name (i := 2) nd rfl (.inl rfl)) pgs_nil))))
      (Evl.pss_cut (ps_if (pw_and (pt_cmpR op_eq (pe_slice sl_str (pv 0) po_none (po_some pe_int)) pe_str (nomark _)) (pw_and (pt_cmpR op_ne (pe_slice sl_str (pv 0) (po_some pe_int) (po_some pe_int)) pe_str (nomark _)) (pw_and1 (pt_cmpR op_in_sign (pe_ix ix_str (pv 0) pe_int (fun _ _ => rfl)) pe_str (by rfl))))).pt
          (pss_one (ps_asg (pe_call (E := E0) GU (hr.mono (by decide)) (by rfl) (g_Luntil T) kU bU .nil pass0 (pa_cons (pv 0) (pa_cons pe_int (pa_cons pe_str (pa_cons pe_str pa_nil)))))
              (pg_tup (by rfl) (pgs_cons (pg_name (i := 1) nd rfl (.inl rfl)) (pgs_cons (pg_name (i := 2) nd rfl (.inl rfl)) pgs_nil))))) pss_nil)
      (Evl.pss_cut (ps_if (pt_val (pv 2)) (pss_one (ps_asg (pe_call (E := E0) GA (hr.mono (by decide)) (by rfl) (g_Laround T) kA bA .nil pass0 (pa_cons (pv 0) (pa_cons (pv 1) pa_nil)))
              (pg_tup (by rfl) (pgs_cons (pg_name (i := 1) nd rfl (.inl rfl)) (pgs_cons (pg_name (i := 2) nd rfl (.inl rfl)) pgs_nil))))) pss_nil)
      (Evl.pss_cut (ps_if (pt_val (pv 2)) (pss_one (ps_asg (pe_call (E := E0) GX (hr.mono (by decide)) (by rfl) (g_Lexact T) kX bX .nil pass0 (pa_cons (pv 0) (pa_cons (pv 1) (pa_cons pe_str pa_nil))))
              (pg_tup (by rfl) (pgs_cons (pg_name (i := 1) nd rfl (.inl rfl)) (pgs_cons (pg_name (i := 2) nd rfl (.inl rfl)) pgs_nil))))) pss_nil)
      (Evl.pss_cut (ps_if (pt_val (pv 2))
          (pss_cons (ps_asg (pe_call (E := E0) GT (hr.mono (by decide)) (by rfl) (g_Ltag T) kT bT .nil pass0 (pa_cons (pv 0) (pa_cons (pv 1) pa_nil)))
              (pg_tup (by rfl) (pgs_cons (pg_name (i := 1) nd rfl (.inl rfl)) (pgs_cons (pg_name (i := 2) nd rfl (.inl rfl)) (pgs_cons (pg_name (i := 3) nd rfl (.inl rfl)) (pgs_cons (pg_name (i := 4) nd rfl (.inl rfl)) pgs_nil))))))
            (pss_one (ps_if (pw_and (pt_val (pv 2)) (pw_and1 (pt_not (pt_val (pv 4))))).pt
              (pss_one (ps_asg (pe_call (E := E0) GI (hr.mono (by decide)) (by rfl) (g_Linner T) kI bI .nil pass0 (pa_cons (pv 0) (pa_cons (pv 1) (pa_cons (pe_lst (pa_cons (pv 3) pa_nil)) pa_nil))))
                (pg_tup (by rfl) (pgs_cons (pg_name (i := 1) nd rfl (.inl rfl)) (pgs_cons (pg_name (i := 2) nd rfl (.inl rfl)) pgs_nil))))) pss_nil))) pss_nil)
      (Evl.pss_cut (ps_if (pt_val (pv 2)) (pss_one (ps_asg (pe_call (E := E0) GA (hr.mono (by decide)) (by rfl) (g_Laround T) kA bA .nil pass0 (pa_cons (pv 0) (pa_cons (pv 1) pa_nil)))
              (pg_tup (by rfl) (pgs_cons (pg_name (i := 1) nd rfl (.inl rfl)) (pgs_cons (pg_name (i := 2) nd rfl (.inl rfl)) pgs_nil))))) pss_nil)
      (pss_cons (ps_if (pw_and (pt_val (pv 2)) (pw_and1 (pt_cmpR op_lt (pv 1) (pe_callB call_len (by rfl) (n_len T) PySem.boot_len (pa_cons (pv 0) pa_nil)) (nomark _)))).pt
          (pss_one (ps_ret (pe_tup (pa_cons (pe_op op_add (pv 1) (pe_callTy call_int1 (by rfl) (n_int T) boot_int (pa_cons (pe_cmpR op_eq (pe_ix ix_str (pv 0) (pv 1) (fun _ _ => rfl)) pe_str (nomark _)) pa_nil))) (pa_cons pe_bl pa_nil))))) pss_nil)
      (pss_one (ps_ret (pe_tup (pa_cons (pv 1) (pa_cons (pv 2) pa_nil)))))))))))), ?_⟩
    have ret : ∀ (H1 : Hp) (n : Nat) (b : Bool), Same H H1 → docN (tl z) = (n, b) → ∀ j : Int, j = (n : Int) → ∀ q, H1 q = none → Q (.ref q) (upd H1 q (.tup [.int j, .bl b])) := by
      intro H1 n b s1 e j hj q hq
      rw [e] at kk
      subst hj
      exact kk _ q (s1.trans (same_new hq)) upd_same
    generalize hzl : tl z = l at *
    refine ⟨by decide, fun t ht => ⟨t, _, rfl, SqT.of upd_same, rfl, _, _, rfl, _, _, rfl, rfl, ?_⟩⟩
    have s1 : Same H (upd H t (.tup [.int 0, .bl true])) := same_new ht
    generalize upd H t (.tup [.int 0, .bl true]) = H1 at s1 ⊢
    refine ⟨MidR z H l fun k => Doc l k [] false, ?_, ?_⟩
    · have c5 : cutS z none (some (5 : Int)) = mkS (l.take 5) := by rw [← hzl]; exact cut_none z 5
      refine ⟨_, rfl, _, rfl, z, rfl, g.line, rfl, _, rfl, ?_⟩
      show if decide (V.str (cutS z none (some (5 : Int))) = V.str (Str.ofString "<?xml")) = true then _ else _
      rw [c5, dec_str, tl_mkS, lit (s := "<?xml") (l := [60, 63, 120, 109, 108]), tl_mkS]
      have nodc : (¬ ∃ c r, l = 60 :: 63 :: 120 :: 109 :: 108 :: c :: r ∧ isBl c = true) → ∀ v3 v4, MidR z H l (fun k => Doc l k [] false) [some (.str z), some (.int 0), some (.bl true), v3, v4] H1 := by
        intro hn v3 v4
        have e := dc_no hn
        refine ⟨0, true, v3, v4, rfl, s1, (fun h => by cases h), fun _ => ?_⟩
        have := Doc.start (l := l) (by rw [e]) (by rw [e]; exact Nat.zero_le _)
        rw [e] at this
        exact this
      by_cases h5 : l.take 5 = [60, 63, 120, 109, 108]
      · rw [decide_eq_true h5]
        refine iteT ?_
        have hl5 := take5 h5
        have c6 : cutS z (some (5 : Int)) (some (6 : Int)) = sg (l.drop 5) := by rw [← hzl]; exact cut_one z 5
        refine ⟨_, rfl, _, rfl, _, rfl, z, rfl, g.line, rfl, _, rfl, ?_⟩
        show if (!decide (V.str (cutS z (some (5 : Int)) (some (6 : Int))) = V.str (Str.ofString ""))) = true then _ else _
        rw [c6]
        cases hd : l.drop 5 with
        | nil =>
          rw [show decide (V.str (sg []) = V.str (Str.ofString "")) = true by decide +kernel]
          refine iteF ?_
          refine iteF ?_
          refine nodc ?_ _ _
          rintro ⟨c, r, e, _⟩
          rw [e] at hd
          cases hd
        | cons c r =>
          rw [show decide (V.str (sg (c :: r)) = V.str (Str.ofString "")) = false by rw [dec_str, sg_cons, tl_mkS]; rfl]
          refine iteT ?_
          have hcp : atI z.cps.toList (5 : Int) = some c := cp_at (i := 5) (r := r) (by rw [hzl]; exact hd)
          refine ⟨_, rfl, z, (5 : Int), c, rfl, rfl, g.line, hcp, c, _, rfl, rfl, _, rfl, ?_⟩
          show if decide (c ∈ (Str.ofString " \t\n").cps.toList) = true then _ else _
          rw [mem_eq (p := isBl) (by decide +kernel) (by decide +kernel) isBl_hi c]
          cases hb : isBl c with
          | false =>
            refine iteF ?_
            refine nodc ?_ _ _
            rintro ⟨c', r', e, hb'⟩
            rw [e] at hd
            cases hd
            rw [hb] at hb'
            cases hb'
          | true =>
            refine iteT ?_
            rw [hd] at hl5
            have hdc := dc_yes (r := r) hb
            rw [← hl5] at hdc
            have hlz : 5 ≤ z.length := by
              have := congrArg List.length hl5
              simp only [List.length_cons] at this
              omega
            refine ⟨_, rfl, z, Str.ofString "?>", Str.ofString "?>", 5, rfl, g, hlz, (by decide +kernel), (by decide +kernel), fun H2 t2 s2 ht2 => ?_⟩
            rw [lit (s := "?>") (l := [63, 62]), tl_mkS, hzl, hd] at ht2
            refine ⟨t2, _, rfl, SqT.of ht2, rfl, _, _, rfl, _, _, rfl, rfl, ?_⟩
            refine ⟨5 + (unN [63, 62] [63, 62] (c :: r)).1, (unN [63, 62] [63, 62] (c :: r)).2, _, _, rfl, s1.trans s2, fun h => ?_, fun h => ?_⟩
            · rw [Doc.no (by rw [hdc]; exact h), hdc, Nat.add_comm]
            · have := Doc.start (l := l) (by rw [hdc]; exact h) (dcN_le l)
              rw [hdc, Nat.add_comm] at this
              exact this
      · rw [decide_eq_false h5]
        refine iteF ?_
        refine iteF ?_
        refine nodc ?_ _ _
        rintro ⟨c, r, e, _⟩
        exact h5 (by rw [e]; rfl)
    · rintro σ H2 ⟨k, fine, v3, v4, rfl, s2, hf, ht⟩
      refine ⟨MidR z H l fun k => Doc l k [] false ∧ blN (l.drop k) = 0 ∧ hd2 (l.drop k) = false, ?_, ?_⟩
      · refine ⟨_, rfl, _, rfl, ?_⟩
        cases fine with
        | false =>
          refine iteF ?_
          exact ⟨k, false, v3, v4, rfl, s2, hf, fun h => by cases h⟩
        | true =>
          refine iteT ?_
          have hD := ht rfl
          refine ⟨_, rfl, _, rfl, z, k, rfl, g, (by have := hD.1; omega), fun H3 t3 s3 ht3 => ?_⟩
          rw [hzl] at ht3
          refine ⟨t3, _, rfl, SqT.of ht3, rfl, _, _, rfl, _, _, rfl, rfl, ?_⟩
          exact ⟨k + (arN (l.drop k)).1, (arN (l.drop k)).2, _, _, rfl, s2.trans s3, fun h => hD.ar_no h, fun h => hD.ar_ok h⟩
      · clear hf ht s2 v3 v4
        rintro σ H2 ⟨k, fine, v3, v4, rfl, s2, hf, ht⟩
        refine ⟨MidR z H l fun k => ∃ k', k = k' + 1 ∧ Doc l k' [] false ∧ blN (l.drop k') = 0 ∧ hd2 (l.drop k') = false ∧ l.drop k' = 60 :: l.drop k, ?_, ?_⟩
        · refine ⟨_, rfl, _, rfl, ?_⟩
          cases fine with
          | false =>
            refine iteF ?_
            exact ⟨k, false, v3, v4, rfl, s2, hf, fun h => by cases h⟩
          | true =>
            refine iteT ?_
            obtain ⟨hD, hb, hh⟩ := ht rfl
            refine ⟨_, rfl, _, rfl, z, Str.ofString "<", k, rfl, g, (by have := hD.1; omega), fun H3 t3 s3 ht3 => ?_⟩
            rw [hzl, lit (s := "<") (l := [60]), tl_mkS] at ht3
            refine ⟨t3, _, rfl, SqT.of ht3, rfl, _, _, rfl, _, _, rfl, rfl, ?_⟩
            by_cases h60 : ∃ r, l.drop k = 60 :: r
            · obtain ⟨r, hr60⟩ := h60
              have ex : exN [60] (l.drop k) = (1, true) := by rw [hr60]; rfl
              rw [ex]
              have hd1 : l.drop (k + 1) = r := by rw [← List.drop_drop, hr60]; rfl
              exact ⟨k + 1, true, _, _, rfl, s2.trans s3, (fun h => by cases h), fun _ => ⟨k, rfl, hD, hb, hh, by rw [hd1]; exact hr60⟩⟩
            · have hn : ∀ r, l.drop k ≠ 60 :: r := fun r e => h60 ⟨r, e⟩
              have ex : exN [60] (l.drop k) = (0, false) := by
                cases y : l.drop k with
                | nil => rfl
                | cons c r =>
                  rw [exN_cons, if_neg (fun e => hn r (by rw [y, e]))]
              rw [ex]
              exact ⟨k, false, _, _, rfl, s2.trans s3, fun _ => hD.lt_no hb hn, fun h => by cases h⟩
        · clear hf ht s2 v3 v4
          rintro σ H2 ⟨k, fine, v3, v4, rfl, s2, hf, ht⟩
          refine ⟨MidR z H l fun k => Doc l k [] true, ?_, ?_⟩
          · refine ⟨_, rfl, _, rfl, ?_⟩
            cases fine with
            | false =>
              refine iteF ?_
              exact ⟨k, false, v3, v4, rfl, s2, hf, fun h => by cases h⟩
            | true =>
              refine iteT ?_
              obtain ⟨k', rfl, hD, hb, hh, hl6⟩ := ht rfl
              have hkl : k' + 1 ≤ l.length := by
                have := congrArg List.length hl6
                rw [List.length_drop, List.length_cons] at this
                omega
              refine ⟨_, rfl, _, rfl, z, k' + 1, l.drop (k' + 1), rfl, g, (by omega), by rw [hzl], fun H3 t3 nm c s3 ht3 hok3 => ?_⟩
              refine ⟨t3, _, rfl, SqT.of ht3, rfl, _, _, rfl, _, _, rfl, _, _, rfl, _, _, rfl, rfl, ?_⟩
              have tno := hD.te_no hb hh hl6
              have tok := hD.te_ok hb hh hl6
              have htl := teN_le (l.drop (k' + 1))
              rw [List.length_drop] at htl
              refine ⟨_, rfl, _, rfl, ?_⟩
              cases hfine : (teN (l.drop (k' + 1))).2.1 with
              | false =>
                refine iteF ?_
                refine iteF ?_
                exact ⟨k' + 1 + (teN (l.drop (k' + 1))).1, false, _, _, rfl, s2.trans s3, fun _ => tno hfine, fun h => by cases h⟩
              | true =>
                refine iteT ?_
                obtain ⟨rfl, rfl⟩ := hok3 hfine
                have hD2 := tok hfine
                refine ⟨_, rfl, _, rfl, ?_⟩
                cases hcd : (teN (l.drop (k' + 1))).2.2 with
                | true =>
                  refine iteF ?_
                  rw [hcd, if_pos rfl] at hD2
                  exact ⟨k' + 1 + (teN (l.drop (k' + 1))).1, true, _, _, rfl, s2.trans s3, (fun h => by cases h), fun _ => hD2⟩
                | false =>
                  refine iteT ?_
                  rw [hcd, if_neg Bool.false_ne_true] at hD2
                  refine ⟨_, rfl, _, rfl, _, rfl, (by show 1 ≤ sizeLine; decide), fun L hL => ?_⟩
                  have hgl := g.len
                  have s4 : Same H (upd H3 L (.lst [.str (mkS ((l.drop (k' + 1)).take (nmN (l.drop (k' + 1))).1))])) := (s2.trans s3).trans (same_new hL)
                  have hLn : H L = none := free0 (s2.trans s3) hL
                  have hLL : upd H3 L (.lst [.str (mkS ((l.drop (k' + 1)).take (nmN (l.drop (k' + 1))).1))]) L = some (.lst (opL [(l.drop (k' + 1)).take (nmN (l.drop (k' + 1))).1])) := upd_same
                  generalize upd H3 L (.lst [.str (mkS ((l.drop (k' + 1)).take (nmN (l.drop (k' + 1))).1))]) = H4 at s4 hLL ⊢
                  refine ⟨z, k' + 1 + (teN (l.drop (k' + 1))).1, L, [(l.drop (k' + 1)).take (nmN (l.drop (k' + 1))).1], rfl, g, by omega, hLL, ?_, (by show 1 ≤ _; omega), fun H5 t5 s5 ht5 => ?_⟩
                  · intro x hx
                    rw [List.mem_singleton] at hx
                    subst hx
                    refine ⟨by rw [List.length_take, List.length_drop]; omega, fun c hc => ?_⟩
                    have h1 : c ∈ l := List.mem_of_mem_drop (i := k' + 1) (List.mem_of_mem_take hc)
                    have h2 := g.sg c (by rw [hzl]; exact h1)
                    unfold isSg at h2
                    simp only [Bool.or_eq_true, Bool.and_eq_true, decide_eq_true_eq, beq_iff_eq] at h2
                    omega
                  · rw [hzl] at ht5
                    have s5' : Same H H5 := fun b u hu => s5 b u (fun e => by rw [e, hLn] at hu; cases hu) (s4 _ _ hu)
                    refine ⟨t5, _, rfl, SqT.of ht5, rfl, _, _, rfl, _, _, rfl, rfl, ?_⟩
                    exact ⟨_, _, _, _, rfl, s5', fun h => hD2.in_no h, fun h => hD2.in_ok h⟩
          · clear hf ht s2 v3 v4
            rintro σ H2 ⟨k, fine, v3, v4, rfl, s2, hf, ht⟩
            refine ⟨MidR z H l fun k => Doc l k [] true ∧ blN (l.drop k) = 0 ∧ hd2 (l.drop k) = false, ?_, ?_⟩
            · refine ⟨_, rfl, _, rfl, ?_⟩
              cases fine with
              | false =>
                refine iteF ?_
                exact ⟨k, false, v3, v4, rfl, s2, hf, fun h => by cases h⟩
              | true =>
                refine iteT ?_
                have hD := ht rfl
                refine ⟨_, rfl, _, rfl, z, k, rfl, g, (by have := hD.1; omega), fun H3 t3 s3 ht3 => ?_⟩
                rw [hzl] at ht3
                refine ⟨t3, _, rfl, SqT.of ht3, rfl, _, _, rfl, _, _, rfl, rfl, ?_⟩
                exact ⟨k + (arN (l.drop k)).1, (arN (l.drop k)).2, _, _, rfl, s2.trans s3, fun h => hD.ar_no h, fun h => hD.ar_ok h⟩
            · clear hf ht s2 v3 v4
              rintro σ H2 ⟨k, fine, v3, v4, rfl, s2, hf, ht⟩
              refine ⟨_, rfl, _, rfl, ?_⟩
              cases fine with
              | false =>
                refine iteF ?_
                refine iteF ?_
                exact ⟨_, rfl, _, rfl, (by show 2 ≤ sizeLine; decide), ret H2 _ false s2 (hf rfl) _ rfl⟩
              | true =>
                refine iteT ?_
                obtain ⟨hD, hb, hh⟩ := ht rfl
                refine ⟨_, rfl, _, rfl, _, _, rfl, ⟨g.line, rfl⟩, _, _, rfl, rfl, _, rfl, ?_⟩
                show if decide (((k : Nat) : Int) < ((z.length : Nat) : Int)) = true then _ else _
                rw [len_lt (by have := hD.1; omega), hzl]
                cases hl : l.drop k with
                | nil =>
                  refine iteF ?_
                  exact ⟨_, rfl, _, rfl, (by show 2 ≤ sizeLine; decide), ret H2 _ true s2 (hD.end_ok hl) _ rfl⟩
                | cons c r =>
                  refine iteT ?_
                  have hcp : atI z.cps.toList (k : Int) = some c := cp_at (i := k) (r := r) (by rw [hzl]; exact hl)
                  have hen := hD.end_no hb hh hl
                  refine ⟨_, rfl, _, rfl, _, rfl, z, (k : Int), c, rfl, rfl, g.line, hcp, rfl, ?_⟩
                  have e60 : decide (V.str (sg (c :: r)) = V.str (Str.ofString "<")) = (c == 60) := sg_lit (c :: r) (c := 60)
                  refine .inr ⟨_, rfl, _, _, rfl, rfl, (by show 2 ≤ sizeLine; decide), ret H2 _ false s2 hen _ ?_⟩
                  show (k : Int) + (if decide (V.str (sg (c :: r)) = V.str (Str.ofString "<")) = true then 1 else 0) = ((k + (if c = 60 then 1 else 0) : Nat) : Int)
                  rw [e60]
                  by_cases hc : c = 60
                  · rw [if_pos hc, if_pos (by simpa using hc)]
                    omega
                  · rw [if_neg hc, if_neg (by simpa using hc)]
                    omega
end
end K2
/-! K02Dr -/
namespace K2
open PySem PySem.Spec PyProof.Rows L2 TL
/-- a source of draws -/
def Wl (H : Hp) (p : Addr) (c : Nat) : Prop := ∃ a b : Int, H p = some (.lst [.int a, .int b, .int (c : Int)])
theorem fmod_rng (a : Int) {b : Int} (hb : 0 < b) : 0 ≤ a.fmod b ∧ a.fmod b < b := ⟨Int.fmod_nonneg_of_pos a hb, Int.fmod_lt_of_pos a hb⟩
section
variable {P : Program} {w : World} {K : PySem.W.Frag} {mg : Str → Option Value} {base : Heap}
def spDraw : Sp := fun vs H Q _ => ∃ (p : Addr) (n c : Nat), vs = [.ref p, .int (n : Int)] ∧ Wl H p c ∧ 1 ≤ n ∧ n < 1000000000 ∧ c ≤ 1000000000 ∧
  ∀ H' (k c' : Nat), SameB p H H' → Wl H' p c' → c' ≤ c + 1 → k < n → Q (.int (k : Int)) H'
theorem ok_Ldraw (T : Tx w K mg) : Ok P w K mg base CX0 1 (He.fAd K d_Ldraw.at_) p_Ldraw spDraw := by
  obtain ⟨fd, F⟩ := f_Ldraw T
  refine ⟨fd, ?_, b_Ldraw F, F.kp⟩
  refine F.ok sc_Ldraw (fun vs H Q E h => ?_) (fun cdv A outer s H vs Q E hr h => ?_)
  · obtain ⟨p, n, c, rfl, _⟩ := h
    rfl
  · obtain ⟨p, n, c, rfl, ⟨a, b, hp⟩, hn, hn2, hc, kk⟩ := h
    have nd := sc_Ldraw.nd
    refine ⟨_, PSs.nox (pss_cons (ps_if (pt_cmpR op_gt (pe_ix ix_list (pv 0) pe_int (fun _ _ => rfl)) pe_int (nomark _))
        (pss_cons (ps_set (i := 2) nd rfl (.inl rfl) (pe_op op_modN (pe_callTy call_int1 (by rfl) (n_int T) boot_int (pa_cons (pe_ix ix_list (pv 0) pe_int (fun _ _ => rfl)) pa_nil)) (pv 1)))
        (pss_cons (ps_asg (pe_op op_fdivW (pe_ix ix_list (pv 0) pe_int (fun _ _ => rfl)) (pv 1)) (pg_sub (pv 0) pe_int set_list))
        (pss_one (ps_ret (pv 2))))) pss_nil)
      (pss_cons (ps_asg (pe_op op_add (pe_ix ix_list (pv 0) pe_int (fun _ _ => rfl)) pe_int) (pg_sub (pv 0) pe_int set_list))
      (pss_cons (ps_set (i := 3) nd rfl (.inl rfl) (pe_op op_add (pe_op op_modN (pe_callTy call_int1 (by rfl) (n_int T) boot_int (pa_cons (pe_ix ix_list (pv 0) pe_int (fun _ _ => rfl)) pa_nil)) pe_int)
          (pe_op op_mul (pe_op op_modN (pe_callTy call_int1 (by rfl) (n_int T) boot_int (pa_cons (pe_op op_fdivW (pe_ix ix_list (pv 0) pe_int (fun _ _ => rfl)) pe_int) pa_nil)) pe_int) pe_int)))
      (pss_cons (ps_set (i := 4) nd rfl (.inl rfl) (pe_op op_modN (pe_callTy call_int1 (by rfl) (n_int T) boot_int (pa_cons (pe_op op_pow (pe_op op_add (pe_op op_add (pv 3) (pe_op op_mul pe_int (pe_ix ix_list (pv 0) pe_int (fun _ _ => rfl)))) pe_int) pe_int) pa_nil)) pe_int))
      (pss_cons (ps_set (i := 4) nd rfl (.inl rfl) (pe_op op_modN (pe_callTy call_int1 (by rfl) (n_int T) boot_int (pa_cons (pe_op op_mul (pv 4) (pe_op op_add (pe_op op_add (pe_op op_fdivN (pv 4) pe_int) pe_int) (pe_ix ix_list (pv 0) pe_int (fun _ _ => rfl)))) pa_nil)) pe_int))
      (pss_one (ps_ret (pe_op op_modN (pe_callTy call_int1 (by rfl) (n_int T) boot_int (pa_cons (pe_op op_modN (pe_callTy call_int1 (by rfl) (n_int T) boot_int (pa_cons (pe_op op_mul (pv 4) (pe_op op_add (pe_op op_fdivN (pv 4) pe_int) pe_int)) pa_nil)) pe_int) pa_nil)) (pv 1))))))))), ?_⟩
    have hn0 : (0 : Int) < (n : Int) := by omega
    have fin : ∀ (x : Int) (H' : Hp) (c' : Nat), SameB p H H' → Wl H' p c' → c' ≤ c + 1 → Q (.int (x.fmod (n : Int))) H' := by
      intro x H' c' s1 w1 h1
      obtain ⟨h2, h3⟩ := fmod_rng x hn0
      have := kk H' (x.fmod (n : Int)).toNat c' s1 w1 h1 (by omega)
      rw [Int.toNat_of_nonneg h2] at this
      exact this
    refine ⟨_, rfl, p, _, 0, _, rfl, rfl, SqL.of hp, rfl, _, _, rfl, rfl, _, rfl, ?_⟩
    refine ite2 (fun y => ?_) (fun y => ?_)
    · refine ⟨_, rfl, p, _, 0, _, rfl, rfl, SqL.of hp, rfl, .inl ⟨_, rfl, _, rfl, _, _, rfl, rfl, by omega, ?_⟩⟩
      refine ⟨_, rfl, p, _, 0, _, rfl, rfl, SqL.of hp, rfl, _, rfl, _, _, rfl, rfl, wide_div (b := 30) hn0 (by omega) (by decide) (by decide), ?_⟩
      refine ⟨_, rfl, p, _, 0, 0, rfl, rfl, hp, rfl, _, rfl, ?_⟩
      exact fin a _ c .up ⟨_, b, upd_same⟩ (by omega)
    · refine ⟨_, rfl, p, _, 2, _, rfl, rfl, SqL.of hp, rfl, _, _, rfl, rfl, ?_⟩
      refine ⟨_, rfl, p, _, 2, 2, rfl, rfl, hp, rfl, ?_⟩
      have hp2 : upd H p (.lst [.int a, .int b, .int ((c : Int) + 1)]) p = some (.lst [.int a, .int b, .int ((c : Int) + 1)]) := upd_same
      have hq2 : SameB p H (upd H p (.lst [.int a, .int b, .int ((c : Int) + 1)])) := .up
      generalize hH2 : upd H p (.lst [.int a, .int b, .int ((c : Int) + 1)]) = H2 at hp2 hq2
      have hH2' : upd H p (.lst ([V.int a, .int b, .int (c : Int)].set 2 (.int ((c : Int) + 1)))) = H2 := hH2
      obtain ⟨m1, m2⟩ := fmod_rng b (b := 2147483549) (by decide)
      obtain ⟨m3, m4⟩ := fmod_rng (b / 2147483549) (b := 80021) (by decide)
      refine ⟨_, rfl, p, _, 1, V.int b, rfl, rfl, SqL.of (by rw [hH2']; exact hp2), rfl, .inl ⟨_, rfl, _, _, rfl, rfl, (show (2147483549 : Int) ≠ 0 by decide), ?_⟩⟩
      refine ⟨_, rfl, p, _, 1, V.int b, rfl, rfl, SqL.of (by rw [hH2']; exact hp2), rfl, _, _, rfl, rfl, ⟨by decide, by decide⟩, .inl ⟨_, rfl, _, _, rfl, rfl, (show (80021 : Int) ≠ 0 by decide), ?_⟩⟩
      refine ⟨_, _, rfl, rfl, .inl ⟨by omega, by omega⟩, _, _, rfl, rfl, ?_⟩
      generalize b.fmod 2147483549 = x1 at m1 m2 ⊢
      generalize (b / 2147483549).fmod 80021 = x2 at m3 m4 ⊢
      refine ⟨_, rfl, _, rfl, p, _, 2, V.int ((c : Int) + 1), rfl, rfl, SqL.of (by rw [hH2']; exact hp2), rfl, _, _, rfl, rfl, .inl ⟨by decide, by decide⟩, _, _, rfl, rfl, _, _, rfl, rfl, _, _, rfl, rfl, ?_, .inl ⟨_, rfl, _, _, rfl, rfl, (show (2147483647 : Int) ≠ 0 by decide), ?_⟩⟩
      · refine ⟨by decide, by decide, ?_⟩
        show (x1 + x2 * 37 + 5843 * ((c : Int) + 1) + 17).natAbs < 2 ^ 64
        omega
      obtain ⟨m5, m6⟩ := fmod_rng ((x1 + x2 * 37 + 5843 * ((c : Int) + 1) + 17) ^ Int.toNat 5) (b := 2147483647) (by decide)
      generalize hx3 : ((x1 + x2 * 37 + 5843 * ((c : Int) + 1) + 17) ^ Int.toNat 5).fmod 2147483647 = x3 at m5 m6
      refine ⟨_, rfl, _, rfl, _, _, rfl, rfl, ⟨by decide, by decide⟩, _, _, rfl, rfl, _, rfl, p, _, 2, V.int ((c : Int) + 1), rfl, rfl, SqL.of (by rw [hH2']; exact hp2), rfl, _, _, rfl, rfl, _, _, rfl, rfl, .inl ?_, .inl ⟨_, rfl, _, _, rfl, rfl, (show (2147483629 : Int) ≠ 0 by decide), ?_⟩⟩
      · show -2 ^ 64 < ((x1 + x2 * 37 + 5843 * ((c : Int) + 1) + 17) ^ Int.toNat 5).fmod 2147483647 ∧ ((x1 + x2 * 37 + 5843 * ((c : Int) + 1) + 17) ^ Int.toNat 5).fmod 2147483647 < 2 ^ 64
        rw [hx3]
        omega
      have hbig : ∀ y : Int, ∃ z : Int, z = y.fmod 2147483629 ∧ 0 ≤ z ∧ z < 2147483629 := fun y => ⟨_, rfl, fmod_rng y (by decide)⟩
      refine ⟨_, rfl, _, rfl, _, _, rfl, rfl, ⟨by decide, by decide⟩, _, _, rfl, rfl, _, _, rfl, rfl, .inl ?_, .inl ⟨_, rfl, _, _, rfl, rfl, (show (2147483587 : Int) ≠ 0 by decide), .inl ⟨_, rfl, _, rfl, _, _, rfl, rfl, by omega, ?_⟩⟩⟩
      · obtain ⟨z, h1, h2, h3⟩ := hbig (((x1 + x2 * 37 + 5843 * ((c : Int) + 1) + 17) ^ Int.toNat 5).fmod 2147483647 * ((((x1 + x2 * 37 + 5843 * ((c : Int) + 1) + 17) ^ Int.toNat 5).fmod 2147483647).fdiv 953 + 40993 + ((c : Int) + 1)))
        show -2 ^ 64 < _ ∧ _ < 2 ^ 64
        rw [← h1]
        omega
      · exact fin _ _ (c + 1) (by rw [hH2']; exact hq2) ⟨a, b, by rw [hH2', hp2]; rw [show ((c : Int) + 1) = ((c + 1 : Nat) : Int) by omega]⟩ (Nat.le_refl _)
end
end K2
/-! K02Pk -/
namespace K2
open PySem PySem.Spec PyProof.Rows L2 TL
/-- a text of at most n signs -/
def GS (n : Nat) (s : Str) : Prop := s.length ≤ n ∧ ∀ c ∈ tl s, isSg c = true
section
variable {P : Program} {w : World} {K : PySem.W.Frag} {mg : Str → Option Value} {base : Heap}
def spPick : Sp := fun vs H Q _ => ∃ (p q : Addr) (c : Nat) (xs : List V), vs = [.ref p, .ref q] ∧ Wl H p c ∧ c ≤ 1000000000 ∧ q ≠ p ∧ H q = some (.lst xs) ∧ 1 ≤ xs.length ∧ xs.length ≤ 1000 ∧
  ∀ H' (x : V) (c' : Nat), SameB p H H' → Wl H' p c' → c' ≤ c + 1 → x ∈ xs → Q x H'
theorem ok_Lpick (T : Tx w K mg) : Ok P w K mg base CX0 2 (He.fAd K d_Lpick.at_) p_Lpick spPick := by
  obtain ⟨fd, F⟩ := f_Lpick T
  obtain ⟨fD, GD, bD, kD⟩ := ok_Ldraw (P := P) (base := base) T
  refine ⟨fd, ?_, b_Lpick F, F.kp⟩
  refine F.ok sc_Lpick (fun vs H Q E h => ?_) (fun cdv A outer s H vs Q E hr h => ?_)
  · obtain ⟨p, q, c, xs, rfl, _⟩ := h
    rfl
  · obtain ⟨p, q, c, xs, rfl, hw, hc, hqp, hq, h1, h2, kk⟩ := h
    have nd := sc_Lpick.nd
    refine ⟨_, PSs.nox (pss_one (ps_ret (pe_ix ix_list (pv 1) (pe_call (E := E0) GD (hr.mono (by decide)) (by rfl) (g_Ldraw T) kD bD .nil pass0 (pa_cons (pv 0) (pa_cons (pe_callB call_len (by rfl) (n_len T) PySem.boot_len (pa_cons (pv 1) pa_nil)) pa_nil))) (fun _ _ => rfl)))), ?_⟩
    refine ⟨_, rfl, _, rfl, _, rfl, _, xs.length, rfl, .inl ⟨_, SqL.of hq, rfl⟩, p, xs.length, c, rfl, hw, h1, by omega, hc, fun H' k c' s1 w1 hc1 hk => ?_⟩
    have hq1 := s1 q _ hqp hq
    have hx : xs[k]? = some (xs[k]'hk) := List.getElem?_eq_getElem hk
    exact ⟨q, xs, (k : Int), xs[k]'hk, rfl, rfl, SqL.of hq1, atI_nat hx, kk H' _ c' s1 w1 hc1 (List.getElem_mem hk)⟩
def spWell : Sp := fun vs H Q _ => ∃ (i : Int), vs = [.int i] ∧ ∀ H' p, Same H H' → H p = none → Wl H' p 0 → Q (.ref p) H'
theorem ok_Lwell (T : Tx w K mg) : Ok P w K mg base CX0 1 (He.fAd K d_Lwell.at_) p_Lwell spWell := by
  obtain ⟨fd, F⟩ := f_Lwell T
  refine ⟨fd, ?_, b_Lwell F, F.kp⟩
  refine F.ok sc_Lwell (fun vs H Q E h => ?_) (fun cdv A outer s H vs Q E hr h => ?_)
  · obtain ⟨i, rfl, _⟩ := h
    rfl
  · obtain ⟨i, rfl, kk⟩ := h
    have nd := sc_Lwell.nd
    refine ⟨_, PSs.nox (pss_one (ps_ret (pe_lst (pa_cons (pe_op op_mul (pv 0) (pe_callTy call_int1 (by rfl) (n_int T) boot_int (pa_cons (pe_cmpR op_ge (pv 0) (pe_op op_pow pe_int pe_int) (nomark _)) pa_nil))) (pa_cons (pv 0) (pa_cons pe_int pa_nil)))))), ?_⟩
    refine ⟨_, rfl, _, rfl, _, _, rfl, rfl, ⟨by decide, by decide, by decide⟩, _, _, rfl, rfl, .inr ⟨_, rfl, _, _, rfl, rfl, .inr ?_, _, rfl, (by show 3 ≤ sizeLine; decide), fun L hL => kk _ L (same_new hL) hL ⟨_, _, upd_same⟩⟩⟩
    split
    · exact ⟨by decide, by decide⟩
    · exact ⟨by decide, by decide⟩
def spCell (K : PySem.W.Frag) : Sp := fun vs H Q _ => ∃ (p : Addr) (k : Nat) (ns : List Int), vs = [.ref p, .int (k : Int)] ∧ SqL K H p (ns.map V.int) ∧ ∀ i : Int, Q (.int i) H
theorem ok_Lcell_at (T : Tx w K mg) : Ok P w K mg base CX0 1 (He.fAd K d_Lcell_at.at_) p_Lcell_at (spCell K) := by
  obtain ⟨fd, F⟩ := f_Lcell_at T
  refine ⟨fd, ?_, b_Lcell_at F, F.kp⟩
  refine F.ok sc_Lcell_at (fun vs H Q E h => ?_) (fun cdv A outer s H vs Q E hr h => ?_)
  · obtain ⟨p, k, ns, rfl, _⟩ := h
    rfl
  · obtain ⟨p, k, ns, rfl, hp, kk⟩ := h
    have nd := sc_Lcell_at.nd
    refine ⟨_, PSs.nox (pss_cons (ps_if (pt_cmpR op_lt (pv 1) (pe_callB call_len (by rfl) (n_len T) PySem.boot_len (pa_cons (pv 0) pa_nil)) (nomark _)) (pss_one (ps_ret (pe_ix ix_list (pv 0) (pv 1) (fun _ _ => rfl)))) pss_nil)
      (pss_one (ps_ret pe_int))), ?_⟩
    refine ⟨_, rfl, _, rfl, _, (ns.map V.int).length, rfl, .inl ⟨_, hp, rfl⟩, _, _, rfl, rfl, _, rfl, ?_⟩
    refine ite2 (fun y => ?_) (fun y => ?_)
    · have hk : k < (ns.map V.int).length := by
        have := of_decide_eq_true y
        omega
      have hk2 : k < ns.length := by rw [List.length_map] at hk; exact hk
      have hx : (ns.map V.int)[k]? = some (.int ns[k]) := by
        rw [List.getElem?_map, List.getElem?_eq_getElem hk2]
        rfl
      exact ⟨_, rfl, _, rfl, p, _, (k : Int), _, rfl, rfl, hp, atI_nat hx, kk _⟩
    · exact kk _
end
end K2
/-! K02Tx -/
namespace K2
open PySem PySem.Spec PyProof.Rows L2 TL
theorem mem_joinL {c : Nat} : ∀ {ys : List (List Nat)}, c ∈ joinL [] ys → ∃ y ∈ ys, c ∈ y
  | [], h => by cases h
  | [a], h => ⟨a, List.mem_cons_self, h⟩
  | a :: b :: r, h => by
    have h' : c ∈ a ++ ([] ++ joinL [] (b :: r)) := by simpa [joinL] using h
    rw [List.nil_append, List.mem_append] at h'
    rcases h' with h' | h'
    · exact ⟨a, List.mem_cons_self, h'⟩
    · obtain ⟨y, hy, hc⟩ := mem_joinL h'
      exact ⟨y, List.mem_cons_of_mem _ hy, hc⟩
theorem len_joinL {n : Nat} : ∀ {ys : List (List Nat)}, (∀ y ∈ ys, y.length ≤ n) → (joinL [] ys).length ≤ n * ys.length
  | [], _ => Nat.zero_le _
  | [a], h => by
    have := h a List.mem_cons_self
    show a.length ≤ n * 1
    omega
  | a :: b :: r, h => by
    have h1 := h a List.mem_cons_self
    have h2 := len_joinL (n := n) (ys := b :: r) (fun y hy => h y (List.mem_cons_of_mem _ hy))
    have e : joinL [] (a :: b :: r) = a ++ joinL [] (b :: r) := by simp [joinL]
    rw [e, List.length_append, List.length_cons, Nat.mul_succ]
    omega
/-- texts joined without anything between -/
theorem GS_join {n m : Nat} {ys : List Str} (h : ∀ y ∈ ys, GS n y) (hm : ys.length ≤ m) : GS (n * m) (Txt.join (Str.ofString "") ys) := by
  have e : tl (Txt.join (Str.ofString "") ys) = joinL [] (ys.map tl) := by
    rw [show Txt.join (Str.ofString "") ys = (Str.ofString "").join ys from StrLaws.glued_eq_join _ _, tl_join]
    rfl
  constructor
  · rw [len_tl, e]
    have := len_joinL (n := n) (ys := ys.map tl) (fun y hy => by
      obtain ⟨z, hz, rfl⟩ := List.mem_map.mp hy
      rw [← len_tl]
      exact (h z hz).1)
    rw [List.length_map] at this
    exact Nat.le_trans this (Nat.mul_le_mul_left n hm)
  · intro c hc
    rw [e] at hc
    obtain ⟨y, hy, hcy⟩ := mem_joinL hc
    obtain ⟨z, hz, rfl⟩ := List.mem_map.mp hy
    exact (h z hz).2 c hcy
def gsB (n : Nat) (s : Str) : Bool := decide (s.length ≤ n) && (tl s).all isSg
theorem gsB_ok {n : Nat} {s : Str} (h : gsB n s = true) : GS n s := by
  unfold gsB at h
  rw [Bool.and_eq_true, decide_eq_true_iff, List.all_eq_true] at h
  exact h
theorem GS.mono {n m : Nat} {s : Str} (h : GS n s) (hm : n ≤ m) : GS m s := ⟨Nat.le_trans h.1 hm, h.2⟩
def vgs (n : Nat) (v : V) : Bool := match v with | .str s => gsB n s | _ => false
theorem vgs_ok {n : Nat} {v : V} (h : vgs n v = true) : ∃ s, v = .str s ∧ GS n s := by
  unfold vgs at h
  split at h
  · exact ⟨_, rfl, gsB_ok h⟩
  · cases h
def txS : List V := [.str (Str.ofString "x"), .str (Str.ofString "y z"), .str (Str.ofString "a&b"), .str (Str.ofString "<"), .str (Str.ofString "7"), .str (Str.ofString " "), .str (Str.ofString "]]"), .str (Str.ofString "it's"), .str (Str.ofString "\"q\""), .str (Str.ofString "\n"), .str (Str.ofString "0.5"), .str (Str.ofString ">"), .str (Str.ofString "-"), .str (Str.ofString "ab")]
theorem txS_ok : ∀ v ∈ txS, vgs 4 v = true := by decide +kernel
section
variable {P : Program} {w : World} {K : PySem.W.Frag} {mg : Str → Option Value} {base : Heap}
/-- a step that draws: the heap behind it -/
def Dr (H H' : Hp) (p : Addr) (c n : Nat) : Prop := SameB p H H' ∧ ∃ c', Wl H' p c' ∧ c' ≤ c + n
def spText : Sp := fun vs H Q _ => ∃ (p : Addr) (c : Nat), vs = [.ref p] ∧ Wl H p c ∧ c ≤ 900000000 ∧
  ∀ H' (s : Str), Dr H H' p c 3 → GS 8 s → Q (.str s) H'
theorem Wl.ne {H : Hp} {p D : Addr} {c : Nat} (h : Wl H p c) (hD : H D = none) : D ≠ p := by
  obtain ⟨a, b, h⟩ := h
  intro e
  rw [e, h] at hD
  cases hD
theorem Wl.at {H H' : Hp} {p : Addr} {c : Nat} (h : Wl H p c) (s : Same H H') : Wl H' p c := by
  obtain ⟨a, b, h⟩ := h
  exact ⟨a, b, s _ _ h⟩
theorem Wl.at' {H : Hp} {p D : Addr} {c : Nat} {o : HO} (h : Wl H p c) (hD : D ≠ p) : Wl (upd H D o) p c := by
  obtain ⟨a, b, h⟩ := h
  exact ⟨a, b, by rw [upd_ne (Ne.symm hD)]; exact h⟩
theorem SameB.updN {H H' : Hp} {p D : Addr} {o : HO} (s : SameB p H H') (h : H D = none) : SameB p H (upd H' D o) := fun b u n e => by
  rw [upd_ne (fun e2 => by rw [e2, h] at e; cases e)]
  exact s b u n e
theorem SameB.fr {H H' : Hp} {p D : Addr} (s : SameB p H H') (hn : D ≠ p) (h : H' D = none) : H D = none := by
  cases e : H D with
  | none => rfl
  | some u => rw [s D u hn e] at h; cases h
theorem ok_Ltext (T : Tx w K mg) : Ok P w K mg base CX0 3 (He.fAd K d_Ltext.at_) p_Ltext spText := by
  obtain ⟨fd, F⟩ := f_Ltext T
  obtain ⟨fD, GD, bD, kD⟩ := ok_Ldraw (P := P) (base := base) T
  obtain ⟨fP, GP, bP, kP⟩ := ok_Lpick (P := P) (base := base) T
  refine ⟨fd, ?_, b_Ltext F, F.kp⟩
  refine F.ok sc_Ltext (fun vs H Q E h => ?_) (fun cdv A outer s H vs Q E hr h => ?_)
  · obtain ⟨p, c, rfl, _⟩ := h
    rfl
  · obtain ⟨p, c, rfl, hw, hc, kk⟩ := h
    have nd := sc_Ltext.nd
    refine ⟨_, PSs.nox (pss_cons (ps_set (i := 1) nd rfl (.inr rfl) (pe_lst (pa_cons pe_str (pa_cons pe_str (pa_cons pe_str (pa_cons pe_str (pa_cons pe_str (pa_cons pe_str (pa_cons pe_str (pa_cons pe_str (pa_cons pe_str (pa_cons pe_str (pa_cons pe_str (pa_cons pe_str (pa_cons pe_str (pa_cons pe_str pa_nil))))))))))))))))
      (pss_one (ps_ret (pe_join pe_str (pe_lc (own := [("_law_k", 2)]) (g := gName 2) (tt := tYes) (by rfl) nd
        (pi_range1 (by rfl) (n_range T) (pa_cons (pe_op op_add pe_int (pe_call (E := E0) GD (hr.mono (by decide)) (by rfl) (g_Ldraw T) kD bD .nil pass0 (pa_cons (pv 0) (pa_cons pe_int pa_nil)))) pa_nil))
        (blkOk_by (own := [("_law_k", 2)]) (N := N_Ltext) (sc := defScope s_Ltext) (by decide +kernel))
        (fun _ _ _ _ _ => pg_name (i := 2) nd rfl (Or.inl rfl)) (fun _ _ _ _ _ => pts_nil)
        (fun _ _ _ _ _ => pe_call (E := E0) GP (hr.mono (by decide)) (by rfl) (g_Lpick T) kP bP .nil pass0 (pa_cons (pv 0) (pa_cons (pv 1) pa_nil)))))))), ?_⟩
    refine ⟨by decide, fun q hq => ?_⟩
    have hqp := hw.ne hq
    have hw1 : Wl (upd H q (.lst txS)) p c := hw.at (same_new hq)
    have hq1 : upd H q (.lst txS) q = some (.lst txS) := upd_same
    have s1 : Same H (upd H q (.lst txS)) := same_new hq
    refine ⟨⟨_, rfl⟩, _, rfl, p, 2, c, rfl, hw1, by decide, by decide, by omega, fun H2 k c2 s2 hw2 hc2 hk => ?_⟩
    have s12 : SameB p H H2 := (SameB.of s1).trans s2
    have hq2 := s2 q _ hqp hq1
    refine ⟨_, _, rfl, rfl, ((1 + k : Nat) : Int), (by show [V.int ((1 : Int) + (k : Int))] = _; rw [show ((1 : Int) + (k : Int)) = ((1 + k : Nat) : Int) by omega]), by omega, by omega, fun D hD => ?_⟩
    have hDp := hw2.ne hD
    have hDq : q ≠ D := fun e => by rw [← e, hq2] at hD; cases hD
    refine lc_it walk_range (fun t H3 => SameB p H H3 ∧ (∃ c3, Wl H3 p c3 ∧ c3 ≤ c + 1 + t) ∧ H3 q = some (.lst txS) ∧ ∃ ys : List Str, H3 D = some (.lst (ys.map V.str)) ∧ ys.length = t ∧ ∀ y ∈ ys, GS 4 y)
      ⟨s12.trans (.new hD), ⟨c2, hw2.at (same_new hD), by omega⟩, by rw [upd_ne hDq]; exact hq2, [], upd_same, rfl, fun y hy => by cases hy⟩ (fun _ _ _ _ => trivial) ?_ ?_
    · rintro t x H3 H4 ht ⟨s3, ⟨c3, hw3, hc3⟩, hq3, ys, hys, hyl, hyg⟩ ⟨rfl, rfl⟩
      have ht2 : t < 2 := by
        have : t < (((1 + k : Nat) : Int)).toNat := ht
        omega
      refine ⟨rfl, _, rfl, _, rfl, p, q, c3, txS, rfl, hw3, by omega, hqp, hq3, by decide, by decide, fun H5 x c5 s5 hw5 hc5 hx => ?_⟩
      obtain ⟨y, rfl, hy⟩ := vgs_ok (txS_ok x hx)
      refine ⟨ys.map V.str, s5 D _ hDp hys, ?_, ?_⟩
      · rw [List.length_map, sizeLine_eq]
        omega
      refine ⟨?_, ⟨c5, hw5.at' hDp, by omega⟩, ?_, ys ++ [y], ?_, ?_, ?_⟩
      · exact (s3.trans s5).updN (s12.fr hDp hD)
      · rw [upd_ne hDq]
        exact s5 q _ hqp hq3
      · rw [upd_same, List.map_append]
        rfl
      · rw [List.length_append, hyl]
        rfl
      · intro z hz
        rcases List.mem_append.mp hz with hz | hz
        · exact hyg z hz
        · rw [List.mem_singleton] at hz
          rw [hz]
          exact hy
    · rintro H3 ⟨s3, ⟨c3, hw3, hc3⟩, hq3, ys, hys, hyl, hyg⟩
      have hy2 : ys.length ≤ 2 := by
        have : ys.length = (((1 + k : Nat) : Int)).toNat := hyl
        omega
      refine ⟨Str.ofString "", D, ys, rfl, rfl, .inl (SqL.of hys), ?_, kk H3 _ ⟨s3, c3, hw3, ?_⟩ (GS_join (m := 2) hyg hy2)⟩
      · have : ∀ l : List Str, (∀ y ∈ l, GS 4 y) → (l.map (·.length)).sum ≤ 4 * l.length := by
          intro l
          induction l with
          | nil => intro _; decide
          | cons a l ih =>
            intro h
            have h1 := (h a List.mem_cons_self).1
            have h2 := ih fun y hy => h y (List.mem_cons_of_mem _ hy)
            rw [List.map_cons, List.sum_cons, List.length_cons]
            omega
        have h1 := this ys hyg
        have h2 : (Str.ofString "").length = 0 := by decide +kernel
        show (ys.map (·.length)).sum + ys.length * (Str.ofString "").length ≤ _
        rw [h2, Nat.mul_zero]
        omega
      · have : (((1 + k : Nat) : Int)).toNat = 1 + k := by omega
        rw [this] at hc3
        omega
end
end K2
/-! K02Nd -/
namespace K2
open PySem PySem.Spec PyProof.Rows L2 TL
theorem op_eqNil {X : Cx} (hu : X.A.units < cLine) : OpR X (compareOp .Eq) (fun x y H Q => ∃ a b xs, x = .ref a ∧ y = .ref b ∧ SqL X.K H a xs ∧ SqL X.K H b [] ∧ Q (.bl xs.isEmpty) H) := by
  intro pins s σ H x y v u Q I rx ry h
  obtain ⟨a, b, xs, rfl, rfl, ha, hb, q⟩ := h
  cases rx
  cases ry
  obtain ⟨its, hv, hp, _⟩ := I.list ha
  obtain ⟨its2, hv2, hp2, _⟩ := I.list hb
  have l1 := Vals.length hv
  have l2 := Vals.length hv2
  rw [List.length_nil] at l2
  have fin : EP X pins σ Q (Value.bool xs.isEmpty) s := ⟨.bl xs.isEmpty, H, I, rfl, q⟩
  cases xs with
  | nil =>
    rw [List.length_nil] at l1
    refine SeqAt.RcAt.lists (e := fun _ => true) hp.isList hp2.isList ?_ hu ?_ X.prog X.w X.xe _ ?_
    · rw [List.size_toArray, List.size_toArray, ← l1, ← l2]
    · intro j h1 _
      rw [List.size_toArray, ← l1] at h1
      omega
    · rw [List.size_toArray, ← l1]
      exact fin
  | cons x xs =>
    rw [List.length_cons] at l1
    refine SeqAt.RcAt.lists_lengths hp.isList hp2.isList ?_ hu X.prog X.w X.xe _ fin
    rw [List.size_toArray, List.size_toArray, ← l1, ← l2]
    rfl
/-- a node without attributes and children -/
def NdL (H : Hp) (t : Addr) : Prop :=
  (∃ s, H t = some (.tup [.str (Str.ofString "text"), .non, .str s]) ∧ GS 8 s) ∨
  (∃ s, H t = some (.tup [.str (Str.ofString "comment"), .non, .str s]) ∧ GS 5 s) ∨
  (∃ n s, H t = some (.tup [.str (Str.ofString "instruction"), .str n, .str s]) ∧ GS 3 n ∧ GS 5 s)
def AtL (G H : Hp) (x : V) : Prop := ∃ u m s, x = .ref u ∧ G u = none ∧ H u = some (.tup [.str m, .str s]) ∧ GS 4 m ∧ GS 5 s
/-- a node, made of objects that G has not -/
def Nd (G : Hp) : Nat → Hp → V → Prop
  | 0, H, v => ∃ t, v = .ref t ∧ G t = none ∧ NdL H t
  | d + 1, H, v => ∃ t, v = .ref t ∧ G t = none ∧ (NdL H t ∨ ∃ n al kl as ks, H t = some (.tup [.str (Str.ofString "element"), .str n, .ref al, .ref kl]) ∧ GS 3 n ∧
      G al = none ∧ H al = some (.lst as) ∧ as.length ≤ 2 ∧ (∀ x ∈ as, AtL G H x) ∧ G kl = none ∧ H kl = some (.lst ks) ∧ ks.length ≤ 3 ∧ ∀ x ∈ ks, Nd G d H x)
def KeepG (G H H' : Hp) : Prop := ∀ a o, G a = none → H a = some o → H' a = some o
theorem NdL.keep {G H H' : Hp} {t : Addr} (k : KeepG G H H') (g : G t = none) (h : NdL H t) : NdL H' t := by
  rcases h with ⟨s, h1, h2⟩ | ⟨s, h1, h2⟩ | ⟨n, s, h1, h2⟩
  · exact .inl ⟨s, k _ _ g h1, h2⟩
  · exact .inr (.inl ⟨s, k _ _ g h1, h2⟩)
  · exact .inr (.inr ⟨n, s, k _ _ g h1, h2⟩)
theorem AtL.keep {G H H' : Hp} {x : V} (k : KeepG G H H') (h : AtL G H x) : AtL G H' x := by
  obtain ⟨u, m, s, rfl, g, h1, h2⟩ := h
  exact ⟨u, m, s, rfl, g, k _ _ g h1, h2⟩
theorem Nd.keep {G H H' : Hp} (k : KeepG G H H') : ∀ {d : Nat} {v : V}, Nd G d H v → Nd G d H' v
  | 0, v, ⟨t, e, g, h⟩ => ⟨t, e, g, h.keep k g⟩
  | d + 1, v, ⟨t, e, g, h⟩ => by
    refine ⟨t, e, g, ?_⟩
    rcases h with h | ⟨n, al, kl, as, ks, h1, h2, h3, h4, h5, h6, h7, h8, h9, h10⟩
    · exact .inl (h.keep k g)
    · exact .inr ⟨n, al, kl, as, ks, k _ _ g h1, h2, h3, k _ _ h3 h4, h5, fun x hx => (h6 x hx).keep k, h7, k _ _ h7 h8, h9, fun x hx => Nd.keep k (h10 x hx)⟩
theorem AtL.weak {G G' H : Hp} {x : V} (k : ∀ a, G a = none → G' a = none) (h : AtL G H x) : AtL G' H x := by
  obtain ⟨u, m, s, rfl, g, h1, h2⟩ := h
  exact ⟨u, m, s, rfl, k _ g, h1, h2⟩
theorem Nd.weak {G G' H : Hp} (k : ∀ a, G a = none → G' a = none) : ∀ {d : Nat} {v : V}, Nd G d H v → Nd G' d H v
  | 0, v, ⟨t, e, g, h⟩ => ⟨t, e, k _ g, h⟩
  | d + 1, v, ⟨t, e, g, h⟩ => by
    refine ⟨t, e, k _ g, ?_⟩
    rcases h with h | ⟨n, al, kl, as, ks, h1, h2, h3, h4, h5, h6, h7, h8, h9, h10⟩
    · exact .inl h
    · exact .inr ⟨n, al, kl, as, ks, h1, h2, k _ h3, h4, h5, fun x hx => (h6 x hx).weak k, k _ h7, h8, h9, fun x hx => Nd.weak k (h10 x hx)⟩
theorem Nd.leaf {G H : Hp} {t : Addr} (g : G t = none) (h : NdL H t) : ∀ d, Nd G d H (.ref t)
  | 0 => ⟨t, rfl, g, h⟩
  | _ + 1 => ⟨t, rfl, g, .inl h⟩
/-- its first item -/
theorem Nd.head {G H : Hp} : ∀ {d : Nat} {v : V}, Nd G d H v → ∃ t k xs, v = .ref t ∧ H t = some (.tup (.str k :: xs))
  | 0, v, ⟨t, e, g, h⟩ => by
    rcases h with ⟨s, h1, h2⟩ | ⟨s, h1, h2⟩ | ⟨n, s, h1, h2⟩ <;> exact ⟨t, _, _, e, h1⟩
  | d + 1, v, ⟨t, e, g, h⟩ => by
    rcases h with (⟨s, h1, h2⟩ | ⟨s, h1, h2⟩ | ⟨n, s, h1, h2⟩) | ⟨n, al, kl, as, ks, h1, _⟩ <;> exact ⟨t, _, _, e, h1⟩
def Ec : Nat → Nat
  | 0 => 0
  | d + 1 => 6 + (13 + 3 * Ec d)
def Bc (d : Nat) : Nat := 13 + 3 * Ec d
theorem KeepG.same {G H H' : Hp} {p : Addr} (s : SameB p H H') (hp : G p ≠ none) : KeepG G H H' := fun a o g h => s a o (fun e => hp (e ▸ g)) h
theorem KeepG.updL {G H : Hp} {L : Addr} {o : HO} (h : G L ≠ none) : KeepG G H (upd H L o) := fun a u g e => by
  rw [upd_ne (fun e2 => h (by rw [← e2]; exact g))]
  exact e
theorem KeepG.trans {G H H1 H2 : Hp} (a : KeepG G H H1) (b : KeepG G H1 H2) : KeepG G H H2 := fun c o g h => b c o g (a c o g h)
theorem Wl.some {H : Hp} {p : Addr} {c : Nat} (h : Wl H p c) : H p ≠ none := by
  obtain ⟨a, b, h⟩ := h
  rw [h]
  simp
theorem wk {H H' : Hp} {p : Addr} (s : SameB p H H') (hp : H' p ≠ none) : ∀ a, H' a = none → H a = none := fun a h => s.fr (fun e => hp (e ▸ h)) h
theorem KeepG.ofS {G H H' : Hp} (s : Same H H') : KeepG G H H' := fun a o _ h => s a o h
/-- what is in the one is in the other -/
def Ex (H H' : Hp) : Prop := ∀ a, H' a = none → H a = none
theorem Ex.trans {H H1 H2 : Hp} (a : Ex H H1) (b : Ex H1 H2) : Ex H H2 := fun c h => a c (b c h)
theorem Ex.updL {H H' : Hp} {L : Addr} {o : HO} (e : Ex H H') : Ex H (upd H' L o) := fun a h => e a (by
  by_cases x : a = L
  · rw [x, upd_same] at h
    cases h
  · rw [upd_ne x] at h
    exact h)
theorem Ex.same {H H' : Hp} (s : Same H H') : Ex H H' := fun a h => free0 s h
end K2
/-! K02Ch -/
namespace K2
open PySem PySem.Spec PyProof.Rows L2 TL
def tTcut (t : TT) : TT := fun σ H R => ∃ M : Bool → Hp → Prop, t σ H M ∧ ∀ b H', M b H' → R b H'
theorem pt_cut {X : Cx} {e : Expr} {t : TT} (h : PT X e t) : PT X e (tTcut t) := ⟨fun pins s σ H Q I hh => by
  obtain ⟨M, hm, hu⟩ := hh
  exact thn (h.run pins s σ H M I hm) fun b s1 q => by
    obtain ⟨H', I', q'⟩ := q
    exact ⟨H', I', hu b H' q'⟩⟩
theorem atI0 (x : V) (xs : List V) : atI (x :: xs) 0 = some x := atI_nat (show (x :: xs)[0]? = some x from rfl)
def cmS : List V := [.str (Str.ofString ""), .str (Str.ofString "c"), .str (Str.ofString " a b "), .str (Str.ofString "x-y"), .str (Str.ofString "<&>")]
def inS : List V := [.str (Str.ofString "go"), .str (Str.ofString "p"), .str (Str.ofString "a:b")]
def itS : List V := [.str (Str.ofString ""), .str (Str.ofString "v"), .str (Str.ofString "x = 1"), .str (Str.ofString "?")]
theorem cmS_ok : ∀ v ∈ cmS, vgs 5 v = true := by decide +kernel
theorem inS_ok : ∀ v ∈ inS, vgs 3 v = true := by decide +kernel
theorem itS_ok : ∀ v ∈ itS, vgs 5 v = true := by decide +kernel
section
variable {P : Program} {w : World} {K : PySem.W.Frag} {mg : Str → Option Value} {base : Heap}
def spCh (d : Nat) : Sp := fun vs H Q _ => ∃ (p : Addr) (c : Nat), vs = [.ref p, .int (d : Int), .int 3] ∧ Wl H p c ∧ c + Bc d ≤ 800000000 ∧
  ∀ H' (L : Addr) (ks : List V), Dr H H' p c (Bc d) → H L = none → H' L = some (.lst ks) → ks.length ≤ 3 → (∀ x ∈ ks, Nd H d H' x) → Q (.ref L) H'
def spEl (d : Nat) : Sp := fun vs H Q _ => ∃ (p : Addr) (c : Nat), vs = [.ref p, .int (d : Int), .int 3] ∧ Wl H p c ∧ c + (6 + Bc d) ≤ 800000000 ∧
  ∀ H' (v : V), Dr H H' p c (6 + Bc d) → Nd H (d + 1) H' v → Q v H'
def elSp : Nat → Sp
  | 0 => fun _ _ _ _ => False
  | d + 1 => spEl d
theorem ok_Lchildren (T : Tx w K mg) (d : Nat) (hE : Ok P w K mg base CX0 (2 * d + 3) (He.fAd K d_Lelement.at_) p_Lelement (elSp d)) : Ok P w K mg base CX0 (2 * d + 4) (He.fAd K d_Lchildren.at_) p_Lchildren (spCh d) := by
  obtain ⟨fd, F⟩ := f_Lchildren T
  obtain ⟨fD, GD, bD, kD⟩ := ok_Ldraw (P := P) (base := base) T
  obtain ⟨fP, GP, bP, kP⟩ := ok_Lpick (P := P) (base := base) T
  obtain ⟨fT, GT, bT, kT⟩ := ok_Ltext (P := P) (base := base) T
  obtain ⟨fE, GE, bE, kE⟩ := hE
  refine ⟨fd, ?_, b_Lchildren F, F.kp⟩
  refine F.ok sc_Lchildren (fun vs H Q E h => ?_) (fun cdv A outer s H vs Q E hr h => ?_)
  · obtain ⟨p, c, rfl, _⟩ := h
    rfl
  · obtain ⟨p, c, rfl, hw, hc, kk⟩ := h
    have nd := sc_Lchildren.nd
    refine ⟨_, PSs.nox (pss_cons (ps_set (i := 3) nd rfl (.inl rfl) (pe_lst pa_nil))
      (pss_cons (ps_for PassesOwn.never rfl (pi_range1 (by rfl) (n_range T) (pa_cons (pe_call (E := E0) GD (hr.mono (by omega)) (by rfl) (g_Ldraw T) kD bD .nil pass0 (pa_cons (pv 0) (pa_cons (pe_op op_add (pv 2) pe_int) pa_nil))) pa_nil)) (pg_name (i := 4) nd rfl (.inl rfl))
        (pss_cons (ps_set (i := 5) nd rfl (.inl rfl) (pe_call (E := E0) GD (hr.mono (by omega)) (by rfl) (g_Ldraw T) kD bD .nil pass0 (pa_cons (pv 0) (pa_cons pe_int pa_nil))))
        (pss_one (ps_if (pt_cut (pw_and (pt_cmpR op_lt (pv 5) pe_int (nomark _)) (pw_and1 (pw_or (pt_cmpR (op_eqNil hr.units0) (pv 3) (pe_lst pa_nil) (nomark _)) (pw_or1 (pt_cmpR op_ne (pe_ix ix_tup (pe_ix ix_list (pv 3) (pe_un un_neg pe_int) (fun _ _ => rfl)) pe_int (fun _ _ => rfl)) pe_str (nomark _)))).pt)).pt)
          (pss_one (ps_expr (pe_bm PySem.F.plainAttrs_list PySem.F.slot_list_append PySem.F.type_list_append mt_append (pv 3) (pa_cons (pe_tup (pa_cons pe_str (pa_cons pe_non (pa_cons (pe_call (E := E0) GT (hr.mono (by omega)) (by rfl) (g_Ltext T) kT bT .nil pass0 (pa_cons (pv 0) pa_nil)) pa_nil)))) pa_nil))))
        (pss_one (ps_if (pt_cmpR op_eq (pv 5) pe_int (nomark _))
          (pss_one (ps_expr (pe_bm PySem.F.plainAttrs_list PySem.F.slot_list_append PySem.F.type_list_append mt_append (pv 3) (pa_cons (pe_tup (pa_cons pe_str (pa_cons pe_non (pa_cons (pe_call (E := E0) GP (hr.mono (by omega)) (by rfl) (g_Lpick T) kP bP .nil pass0 (pa_cons (pv 0) (pa_cons (pe_lst (pa_cons pe_str (pa_cons pe_str (pa_cons pe_str (pa_cons pe_str (pa_cons pe_str pa_nil)))))) pa_nil))) pa_nil)))) pa_nil))))
        (pss_one (ps_if (pt_cmpR op_eq (pv 5) pe_int (nomark _))
          (pss_cons (ps_set (i := 6) nd rfl (.inl rfl) (pe_call (E := E0) GP (hr.mono (by omega)) (by rfl) (g_Lpick T) kP bP .nil pass0 (pa_cons (pv 0) (pa_cons (pe_lst (pa_cons pe_str (pa_cons pe_str (pa_cons pe_str pa_nil)))) pa_nil))))
          (pss_one (ps_expr (pe_bm PySem.F.plainAttrs_list PySem.F.slot_list_append PySem.F.type_list_append mt_append (pv 3) (pa_cons (pe_tup (pa_cons pe_str (pa_cons (pv 6) (pa_cons (pe_call (E := E0) GP (hr.mono (by omega)) (by rfl) (g_Lpick T) kP bP .nil pass0 (pa_cons (pv 0) (pa_cons (pe_lst (pa_cons pe_str (pa_cons pe_str (pa_cons pe_str (pa_cons pe_str pa_nil))))) pa_nil))) pa_nil)))) pa_nil)))))
        (pss_one (ps_if (pt_cmpR op_gt (pv 1) pe_int (nomark _))
          (pss_one (ps_expr (pe_bm PySem.F.plainAttrs_list PySem.F.slot_list_append PySem.F.type_list_append mt_append (pv 3) (pa_cons (pe_call (E := E0) GE (hr.mono (by omega)) (by rfl) (g_Lelement T) kE bE .nil pass0 (pa_cons (pv 0) (pa_cons (pe_op op_sub (pv 1) pe_int) (pa_cons (pv 2) pa_nil)))) pa_nil))))
          pss_nil))))))))))
      (pss_one (ps_ret (pv 3))))), ?_⟩
    refine ⟨by decide, fun L hL => ?_⟩
    have hLp := hw.ne hL
    have hw1 : Wl (upd H L (.lst [])) p c := hw.at (same_new hL)
    have s1 : Same H (upd H L (.lst [])) := same_new hL
    have hL1 : upd H L (.lst []) L = some (.lst []) := upd_same
    generalize upd H L (.lst []) = H1 at hw1 s1 hL1 ⊢
    have hL1n : H1 L ≠ none := by rw [hL1]; simp
    have hBc : Bc d = 13 + 3 * Ec d := rfl
    refine ⟨_, rfl, _, rfl, _, _, rfl, rfl, p, 4, c, rfl, hw1, by decide, by decide, by omega, fun H2 n c2 s2 hw2 hc2 hn => ?_⟩
    refine ⟨(n : Int), rfl, by omega, by omega, ?_⟩
    refine for_it walk_range (fun k σ H3 => (SameB p H H3 ∧ Ex H1 H3) ∧ (∃ c3, Wl H3 p c3 ∧ c3 ≤ c + 1 + k * (4 + Ec d)) ∧ (∃ v4 v5 v6 : Option V, σ = [some (.ref p), some (.int (d : Int)), some (.int 3), some (.ref L), v4, v5, v6]) ∧ ∃ ks : List V, H3 L = some (.lst ks) ∧ ks.length ≤ k ∧ ∀ x ∈ ks, Nd H1 d H3 x)
      ⟨⟨(SameB.of s1).trans s2, wk s2 hw2.some⟩, ⟨c2, hw2, by omega⟩, ⟨_, _, _, rfl⟩, [], s2 L _ hLp hL1, Nat.le_refl _, fun x hx => by cases hx⟩ (fun _ _ _ _ _ => trivial) ?_ ?_
    · rintro k x σ H3 H3' hk ⟨⟨s3, x3⟩, ⟨c3, hw3, hc3⟩, ⟨v4, v5, v6, rfl⟩, ks, hks, hkl, hkn⟩ ⟨rfl, rfl⟩
      have hk3 : k < 3 := by
        have : k < ((n : Int)).toNat := hk
        omega
      have hkm : k * (4 + Ec d) ≤ 2 * (4 + Ec d) := Nat.mul_le_mul_right _ (by omega)
      have hkm2 : (k + 1) * (4 + Ec d) = k * (4 + Ec d) + (4 + Ec d) := Nat.succ_mul _ _
      refine ⟨_, rfl, p, 8, c3, rfl, hw3, by decide, by decide, by omega, fun H4 wy c4 s4 hw4 hc4 hwy => ?_⟩
      have hks4 := s4 L _ hLp hks
      have s14 := s3.trans s4
      have x14 : Ex H1 H4 := x3.trans (wk s4 hw4.some)
      have hpn : H1 p ≠ none := hw1.some
      -- a node more
      have add : ∀ (H5 : Hp) (c5 : Nat) (x : V) (v4 v5 v6 : Option V), SameB p H4 H5 → Wl H5 p c5 → c5 ≤ c4 + (3 + Ec d) → Nd H1 d H5 x →
          ((SameB p H (upd H5 L (.lst (ks ++ [x]))) ∧ Ex H1 (upd H5 L (.lst (ks ++ [x])))) ∧ (∃ c3, Wl (upd H5 L (.lst (ks ++ [x]))) p c3 ∧ c3 ≤ c + 1 + (k + 1) * (4 + Ec d)) ∧ (∃ v4' v5' v6' : Option V, [some (.ref p), some (.int (d : Int)), some (.int 3), some (.ref L), v4, v5, v6] = [some (.ref p), some (.int (d : Int)), some (.int 3), some (.ref L), v4', v5', v6']) ∧ ∃ ks' : List V, upd H5 L (.lst (ks ++ [x])) L = some (.lst ks') ∧ ks'.length ≤ k + 1 ∧ ∀ y ∈ ks', Nd H1 d (upd H5 L (.lst (ks ++ [x]))) y) := by
        intro H5 c5 x v4 v5 v6 s5 hw5 hc5 hx
        refine ⟨⟨(s14.trans s5).updN hL, (x14.trans (wk s5 hw5.some)).updL⟩, ⟨c5, hw5.at' hLp, by omega⟩, ⟨_, _, _, rfl⟩, ks ++ [x], upd_same, ?_, fun y hy => ?_⟩
        · rw [List.length_append]
          show ks.length + 1 ≤ _
          omega
        · rcases List.mem_append.mp hy with hy | hy
          · exact (hkn y hy).keep ((KeepG.same (s4.trans s5) hpn).trans (.updL hL1n))
          · rw [List.mem_singleton] at hy
            rw [hy]
            exact hx.keep (.updL hL1n)
      refine ⟨fun b H5 => Same H4 H5, ?_, ?_⟩
      · refine ⟨_, rfl, _, _, rfl, rfl, _, rfl, ?_⟩
        refine ite2 (fun y => ?_) (fun y => ?_)
        · refine ⟨_, rfl, by decide, fun M hM => ?_⟩
          refine ⟨L, M, ks, rfl, rfl, SqL.of ((same_new hM) _ _ hks4), SqL.of upd_same, _, rfl, ?_⟩
          have sM : Same H4 (upd H4 M (.lst [])) := same_new hM
          rcases List.eq_nil_or_concat ks with rfl | ⟨ks', x, rfl⟩
          · refine iteT ?_
            exact sM
          · rw [List.concat_eq_append] at hks4 hkn
            obtain ⟨t, k', xs', rfl, ht⟩ := ((hkn x (by simp)).keep ((KeepG.same s4 hpn).trans (KeepG.ofS sM))).head
            rw [show (ks'.concat (V.ref t)).isEmpty = false by simp]
            refine iteF ?_
            refine ⟨_, rfl, _, rfl, L, ks' ++ [.ref t], -1, .ref t, rfl, rfl, SqL.of (sM _ _ hks4), atI_last _ _, t, .str k' :: xs', 0, .str k', rfl, rfl, SqT.of ht, atI0 _ _, rfl, _, rfl, ?_⟩
            exact sM
        · exact Same.refl H4
      · intro b H5 s5
        have hks5 := s5 _ _ hks4
        have hw5 := hw4.at s5
        have s45 : SameB p H4 H5 := .of s5
        refine ite2 (fun y => ?_) (fun y => ?_)
        · -- a text
          refine ⟨_, rfl, .inl ⟨rfl, _, SqL.of hks5⟩, _, rfl, p, c4, rfl, hw5, by omega, fun H6 z dr gs => ?_⟩
          obtain ⟨s6, c6, hw6, hc6⟩ := dr
          refine ⟨(by show 3 ≤ sizeLine; decide), fun t ht => ?_⟩
          have htp := hw6.ne ht
          have hL6 : upd H6 t (.tup [.str (Str.ofString "text"), .non, .str z]) L = some (.lst ks) := (same_new ht) _ _ (s6 L _ hLp hks5)
          refine ⟨L, ks, .ref t, rfl, rfl, hL6, by rw [sizeLine_eq]; omega, ?_⟩
          exact add _ c6 _ _ _ _ ((s45.trans s6).trans (.new ht)) (hw6.at (same_new ht)) (by omega) (.leaf ((x14.trans (wk (s45.trans s6) hw6.some)) t ht) (.inl ⟨z, upd_same, gs⟩) d)
        · refine ⟨_, rfl, rfl, _, rfl, ?_⟩
          refine ite2 (fun y2 => ?_) (fun y2 => ?_)
          · -- a comment
            refine ⟨_, rfl, .inl ⟨rfl, _, SqL.of hks5⟩, _, rfl, by decide, fun q hq => ?_⟩
            have hqp := hw5.ne hq
            have sq : Same H5 (upd H5 q (.lst cmS)) := same_new hq
            refine ⟨p, q, c4, cmS, rfl, hw5.at sq, by omega, hqp, upd_same, by decide, by decide, fun H6 x c6 s6 hw6 hc6 hx => ?_⟩
            obtain ⟨z, rfl, gs⟩ := vgs_ok (cmS_ok x hx)
            refine ⟨(by show 3 ≤ sizeLine; decide), fun t ht => ?_⟩
            have s46 : SameB p H4 H6 := (s45.trans (.of sq)).trans s6
            have hL6 : upd H6 t (.tup [.str (Str.ofString "comment"), .non, .str z]) L = some (.lst ks) := (same_new ht) _ _ (s46 L _ hLp hks4)
            refine ⟨L, ks, .ref t, rfl, rfl, hL6, by rw [sizeLine_eq]; omega, ?_⟩
            exact add _ c6 _ _ _ _ (s46.trans (.new ht)) (hw6.at (same_new ht)) (by omega) (.leaf ((x14.trans (wk s46 hw6.some)) t ht) (.inr (.inl ⟨z, upd_same, gs⟩)) d)
          · refine ⟨_, rfl, rfl, _, rfl, ?_⟩
            refine ite2 (fun y3 => ?_) (fun y3 => ?_)
            · -- an instruction
              refine ⟨_, rfl, by decide, fun q hq => ?_⟩
              have hqp := hw5.ne hq
              have sq : Same H5 (upd H5 q (.lst inS)) := same_new hq
              refine ⟨p, q, c4, inS, rfl, hw5.at sq, by omega, hqp, upd_same, by decide, by decide, fun H6 x c6 s6 hw6 hc6 hx => ?_⟩
              obtain ⟨z, rfl, gs⟩ := vgs_ok (inS_ok x hx)
              have s46 : SameB p H4 H6 := (s45.trans (.of sq)).trans s6
              refine ⟨_, rfl, .inl ⟨rfl, _, SqL.of (s46 L _ hLp hks4)⟩, _, rfl, _, rfl, by decide, fun q2 hq2 => ?_⟩
              have hqp2 := hw6.ne hq2
              have sq2 : Same H6 (upd H6 q2 (.lst itS)) := same_new hq2
              refine ⟨p, q2, c6, itS, rfl, hw6.at sq2, by omega, hqp2, upd_same, by decide, by decide, fun H7 x7 c7 s7 hw7 hc7 hx7 => ?_⟩
              obtain ⟨z7, rfl, gs7⟩ := vgs_ok (itS_ok x7 hx7)
              have s47 : SameB p H4 H7 := (s46.trans (.of sq2)).trans s7
              refine ⟨(by show 3 ≤ sizeLine; decide), fun t ht => ?_⟩
              have hL7 : upd H7 t (.tup [.str (Str.ofString "instruction"), .str z, .str z7]) L = some (.lst ks) := (same_new ht) _ _ (s47 L _ hLp hks4)
              refine ⟨L, ks, .ref t, rfl, rfl, hL7, by rw [sizeLine_eq]; omega, ?_⟩
              exact add _ c7 _ _ _ _ (s47.trans (.new ht)) (hw7.at (same_new ht)) (by omega) (.leaf ((x14.trans (wk s47 hw7.some)) t ht) (.inr (.inr ⟨z, z7, upd_same, gs, gs7⟩)) d)
            · refine ⟨_, rfl, _, _, rfl, rfl, _, rfl, ?_⟩
              refine ite2 (fun y4 => ?_) (fun y4 => ?_)
              · -- an element
                obtain ⟨e, rfl⟩ : ∃ e, d = e + 1 := by
                  have : (0 : Int) < (d : Int) := of_decide_eq_true y4
                  exact ⟨d - 1, by omega⟩
                have hEc : Ec (e + 1) = 6 + Bc e := rfl
                refine ⟨_, rfl, .inl ⟨rfl, _, SqL.of hks5⟩, _, rfl, _, rfl, _, _, rfl, rfl, _, rfl, ?_⟩
                refine ⟨p, c4, ?_, hw5, by omega, fun H6 v dr hv => ?_⟩
                · show [V.ref p, .int (((e + 1 : Nat) : Int) - 1), .int 3] = _
                  rw [show (((e + 1 : Nat) : Int) - 1) = (e : Int) by omega]
                obtain ⟨s6, c6, hw6, hc6⟩ := dr
                refine ⟨L, ks, v, rfl, rfl, s6 L _ hLp hks5, by rw [sizeLine_eq]; omega, ?_⟩
                exact add _ c6 _ _ _ _ (s45.trans s6) hw6 (by omega) (hv.weak (x14.trans (Ex.same s5)))
              · exact ⟨⟨s14.trans s45, x14.trans (Ex.same s5)⟩, ⟨c4, hw5, by omega⟩, ⟨_, _, _, rfl⟩, ks, hks5, by omega, fun y hy => (hkn y hy).keep (KeepG.same (s4.trans s45) hpn)⟩
    · rintro σ H3 ⟨⟨s3, x3⟩, ⟨c3, hw3, hc3⟩, ⟨v4, v5, v6, rfl⟩, ks, hks, hkl, hkn⟩
      have hn3 : ((n : Int)).toNat ≤ 3 := by omega
      have hm : ((n : Int)).toNat * (4 + Ec d) ≤ 3 * (4 + Ec d) := Nat.mul_le_mul_right _ hn3
      exact ⟨_, rfl, kk H3 L ks ⟨s3, c3, hw3, by omega⟩ hL hks (by omega) fun x hx => (hkn x hx).weak fun a ha => free0 s1 ha⟩
end
end K2
/-! K02El -/
namespace K2
open PySem PySem.Spec PyProof.Rows L2 TL
def nmS : List V := [.str (Str.ofString "p"), .str (Str.ofString "q"), .str (Str.ofString "r"), .str (Str.ofString "id"), .str (Str.ofString "a:b")]
def avS : List V := [.str (Str.ofString ""), .str (Str.ofString "1"), .str (Str.ofString "2"), .str (Str.ofString "x"), .str (Str.ofString "a b"), .str (Str.ofString "<&\"'"), .str (Str.ofString "7")]
def elS : List V := [.str (Str.ofString "a"), .str (Str.ofString "b"), .str (Str.ofString "b"), .str (Str.ofString "c"), .str (Str.ofString "a-b"), .str (Str.ofString "x:y")]
theorem nmS_ok : ∀ v ∈ nmS, vgs 4 v = true := by decide +kernel
theorem avS_ok : ∀ v ∈ avS, vgs 5 v = true := by decide +kernel
theorem elS_ok : ∀ v ∈ elS, vgs 3 v = true := by decide +kernel
theorem seqIx {j n : Nat} (h : j < n) : seqIndex? (j : Int) n = some j := by
  unfold seqIndex?
  have h1 : ¬ ((j : Int) < 0) := by omega
  simp only [h1, if_false]
  rw [decide_eq_true (by omega), decide_eq_true (by omega)]
  simp
section
variable {P : Program} {w : World} {K : PySem.W.Frag} {mg : Str → Option Value} {base : Heap}
theorem ok_Lelement (T : Tx w K mg) (d : Nat) (hC : Ok P w K mg base CX0 (2 * d + 4) (He.fAd K d_Lchildren.at_) p_Lchildren (spCh d)) : Ok P w K mg base CX0 (2 * d + 5) (He.fAd K d_Lelement.at_) p_Lelement (spEl d) := by
  obtain ⟨fd, F⟩ := f_Lelement T
  obtain ⟨fD, GD, bD, kD⟩ := ok_Ldraw (P := P) (base := base) T
  obtain ⟨fP, GP, bP, kP⟩ := ok_Lpick (P := P) (base := base) T
  obtain ⟨fC, GC, bC, kC⟩ := hC
  refine ⟨fd, ?_, b_Lelement F, F.kp⟩
  refine F.ok sc_Lelement (fun vs H Q E h => ?_) (fun cdv A outer s H vs Q E hr h => ?_)
  · obtain ⟨p, c, rfl, _⟩ := h
    rfl
  · obtain ⟨p, c, rfl, hw, hc, kk⟩ := h
    have nd := sc_Lelement.nd
    refine ⟨_, PSs.nox (pss_cons (ps_par (i := 3) (j := 4) rfl nd rfl rfl (by decide) rfl rfl (pa_cons (pe_lst (pa_cons pe_str (pa_cons pe_str (pa_cons pe_str (pa_cons pe_str (pa_cons pe_str pa_nil)))))) (pa_cons (pe_lst pa_nil) pa_nil)) (by rfl))
      (pss_cons (ps_for PassesOwn.never rfl (pi_range1 (by rfl) (n_range T) (pa_cons (pe_call (E := E0) GD (hr.mono (by omega)) (by rfl) (g_Ldraw T) kD bD .nil pass0 (pa_cons (pv 0) (pa_cons pe_int pa_nil))) pa_nil)) (pg_name (i := 5) nd rfl (.inl rfl))
        (pss_cons (ps_set (i := 6) nd rfl (.inl rfl) (pe_bm PySem.F.plainAttrs_list PySem.F.slot_list_pop PySem.F.type_list_pop mt_popAt (pv 3) (pa_cons (pe_call (E := E0) GD (hr.mono (by omega)) (by rfl) (g_Ldraw T) kD bD .nil pass0 (pa_cons (pv 0) (pa_cons (pe_callB call_len (by rfl) (n_len T) PySem.boot_len (pa_cons (pv 3) pa_nil)) pa_nil))) pa_nil)))
        (pss_one (ps_expr (pe_bm PySem.F.plainAttrs_list PySem.F.slot_list_append PySem.F.type_list_append mt_append (pv 4) (pa_cons (pe_tup (pa_cons (pv 6) (pa_cons (pe_call (E := E0) GP (hr.mono (by omega)) (by rfl) (g_Lpick T) kP bP .nil pass0 (pa_cons (pv 0) (pa_cons (pe_lst (pa_cons pe_str (pa_cons pe_str (pa_cons pe_str (pa_cons pe_str (pa_cons pe_str (pa_cons pe_str (pa_cons pe_str pa_nil)))))))) pa_nil))) pa_nil))) pa_nil))))))
      (pss_cons (ps_set (i := 6) nd rfl (.inl rfl) (pe_call (E := E0) GP (hr.mono (by omega)) (by rfl) (g_Lpick T) kP bP .nil pass0 (pa_cons (pv 0) (pa_cons (pe_lst (pa_cons pe_str (pa_cons pe_str (pa_cons pe_str (pa_cons pe_str (pa_cons pe_str (pa_cons pe_str pa_nil))))))) pa_nil))))
      (pss_one (ps_ret (pe_tup (pa_cons pe_str (pa_cons (pv 6) (pa_cons (pv 4) (pa_cons (pe_call (E := E0) GC (hr.mono (by omega)) (by rfl) (g_Lchildren T) kC bC .nil pass0 (pa_cons (pv 0) (pa_cons (pv 1) (pa_cons (pv 2) pa_nil)))) pa_nil)))))))))), ?_⟩
    have hBc : Bc d = 13 + 3 * Ec d := rfl
    refine ⟨by decide, fun N hN => ?_⟩
    generalize hxs : ([.str (Str.ofString "p"), .str (Str.ofString "q"), .str (Str.ofString "r"), .str (Str.ofString "id"), .str (Str.ofString "a:b")] : List V) = xs0
    obtain rfl : nmS = xs0 := hxs
    refine ⟨by decide, fun L hL => ⟨_, _, rfl, ?_⟩⟩
    have hNp := hw.ne hN
    have sN : Same H (upd H N (.lst nmS)) := same_new hN
    have hwN := hw.at sN
    have hLp := hwN.ne hL
    have hL0 : H L = none := free0 sN hL
    have hNL : N ≠ L := fun e => by
      rw [← e] at hL
      have : upd H N (.lst nmS) N = some (.lst nmS) := upd_same
      rw [this] at hL
      cases hL
    have sL : Same H (upd (upd H N (.lst nmS)) L (.lst [])) := sN.trans (same_new hL)
    have hwL : Wl (upd (upd H N (.lst nmS)) L (.lst [])) p c := hw.at sL
    have hLL : upd (upd H N (.lst nmS)) L (.lst []) L = some (.lst []) := upd_same
    have hNN : upd (upd H N (.lst nmS)) L (.lst []) N = some (.lst nmS) := by
      rw [upd_ne hNL]
      exact upd_same
    generalize upd (upd H N (.lst nmS)) L (.lst []) = H1 at sL hwL hLL hNN ⊢
    have hL1n : H1 L ≠ none := by rw [hLL]; simp
    have hN1n : H1 N ≠ none := by rw [hNN]; simp
    have hpn : H1 p ≠ none := hwL.some
    refine ⟨_, rfl, p, 3, c, rfl, hwL, by decide, by decide, by omega, fun H2 n c2 s2 hw2 hc2 hn => ?_⟩
    refine ⟨(n : Int), rfl, by omega, by omega, ?_⟩
    refine for_it walk_range (fun k σ H3 => (SameB p H H3 ∧ Ex H1 H3) ∧ (∃ c3, Wl H3 p c3 ∧ c3 ≤ c + 1 + k * 2) ∧ (∃ v5 v6 : Option V, σ = [some (.ref p), some (.int (d : Int)), some (.int 3), some (.ref N), some (.ref L), v5, v6]) ∧
        (∃ ns : List V, H3 N = some (.lst ns) ∧ ns.length = 5 - k ∧ ∀ x ∈ ns, vgs 4 x = true) ∧ ∃ as : List V, H3 L = some (.lst as) ∧ as.length ≤ k ∧ ∀ x ∈ as, AtL H1 H3 x)
      ⟨⟨(SameB.of sL).trans s2, wk s2 hw2.some⟩, ⟨c2, hw2, by omega⟩, ⟨_, _, rfl⟩, ⟨nmS, s2 N _ hNp hNN, rfl, nmS_ok⟩, [], s2 L _ hLp hLL, Nat.le_refl _, fun x hx => by cases hx⟩ (fun _ _ _ _ _ => trivial) ?_ ?_
    · rintro k x σ H3 H3' hk ⟨⟨s3, x3⟩, ⟨c3, hw3, hc3⟩, ⟨v5, v6, rfl⟩, ⟨ns, hns, hnl, hng⟩, as, has, hal, hag⟩ ⟨rfl, rfl⟩
      have hk2 : k < 2 := by
        have : k < ((n : Int)).toNat := hk
        omega
      refine ⟨_, rfl, .inl ⟨rfl, _, SqL.of hns⟩, _, rfl, _, rfl, _, ns.length, rfl, .inl ⟨_, SqL.of hns, rfl⟩, p, ns.length, c3, rfl, hw3, by omega, by omega, by omega, fun H4 j c4 s4 hw4 hc4 hj => ?_⟩
      have hns4 := s4 N _ hNp hns
      have hjx : ns[j]? = some (ns[j]'hj) := List.getElem?_eq_getElem hj
      obtain ⟨z, hz, gz⟩ := vgs_ok (hng _ (List.getElem_mem hj))
      refine ⟨N, ns, (j : Int), j, ns[j]'hj, rfl, rfl, hns4, by omega, by omega, ?_, hjx, ?_⟩
      · exact seqIx hj
      rw [hz]
      have hNp4 : SameB p H (upd H4 N (.lst (ns.eraseIdx j))) := (s3.trans s4).updN hN
      have hw5 : Wl (upd H4 N (.lst (ns.eraseIdx j))) p c4 := hw4.at' hNp
      have hN5 : upd H4 N (.lst (ns.eraseIdx j)) N = some (.lst (ns.eraseIdx j)) := upd_same
      have hL5 : upd H4 N (.lst (ns.eraseIdx j)) L = some (.lst as) := by
        rw [upd_ne (Ne.symm hNL)]
        exact s4 L _ hLp has
      have x5 : Ex H1 (upd H4 N (.lst (ns.eraseIdx j))) := (x3.trans (wk s4 hw4.some)).updL
      have hag5 : ∀ x ∈ as, AtL H1 (upd H4 N (.lst (ns.eraseIdx j))) x := fun x hx => (hag x hx).keep ((KeepG.same s4 hpn).trans (.updL hN1n))
      generalize upd H4 N (.lst (ns.eraseIdx j)) = H5 at hNp4 hw5 hN5 hL5 x5 hag5 ⊢
      refine ⟨_, rfl, .inl ⟨rfl, _, SqL.of hL5⟩, _, rfl, _, rfl, by decide, fun q hq => ?_⟩
      have hqp := hw5.ne hq
      have sq : Same H5 (upd H5 q (.lst avS)) := same_new hq
      refine ⟨p, q, c4, avS, rfl, hw5.at sq, by omega, hqp, upd_same, by decide, by decide, fun H6 x c6 s6 hw6 hc6 hx => ?_⟩
      obtain ⟨y, rfl, gy⟩ := vgs_ok (avS_ok x hx)
      have s56 : SameB p H5 H6 := (SameB.of sq).trans s6
      refine ⟨(by show 2 ≤ sizeLine; decide), fun t ht => ?_⟩
      have s57 : SameB p H5 (upd H6 t (.tup [.str z, .str y])) := s56.trans (.new ht)
      have hw7 : Wl (upd H6 t (.tup [.str z, .str y])) p c6 := hw6.at (same_new ht)
      have ht7 : upd H6 t (.tup [.str z, .str y]) t = some (.tup [.str z, .str y]) := upd_same
      have htn : H1 t = none := (x5.trans (wk s56 hw6.some)) t ht
      generalize upd H6 t (.tup [.str z, .str y]) = H7 at s57 hw7 ht7 ⊢
      have hL7 := s57 L _ hLp hL5
      refine ⟨L, as, .ref t, rfl, rfl, hL7, by rw [sizeLine_eq]; omega, ?_⟩
      refine ⟨⟨(hNp4.trans s57).updN hL0, (x5.trans (wk s57 hw7.some)).updL⟩, ⟨c6, hw7.at' hLp, by omega⟩, ⟨_, _, rfl⟩, ⟨ns.eraseIdx j, ?_, ?_, ?_⟩, as ++ [.ref t], upd_same, ?_, ?_⟩
      · rw [upd_ne hNL]
        exact s57 N _ hNp hN5
      · rw [List.length_eraseIdx_of_lt hj]
        omega
      · intro x hx
        exact hng x (List.mem_of_mem_eraseIdx hx)
      · rw [List.length_append]
        show as.length + 1 ≤ _
        omega
      · intro x hx
        rcases List.mem_append.mp hx with hx | hx
        · exact (hag5 x hx).keep ((KeepG.same s57 hpn).trans (.updL hL1n))
        · rw [List.mem_singleton] at hx
          rw [hx]
          exact AtL.keep (.updL hL1n) ⟨t, z, y, rfl, htn, ht7, gz, gy⟩
    · rintro σ H3 ⟨⟨s3, x3⟩, ⟨c3, hw3, hc3⟩, ⟨v5, v6, rfl⟩, ⟨ns, hns, hnl, hng⟩, as, has, hal, hag⟩
      have hn2 : ((n : Int)).toNat ≤ 2 := by omega
      have hm : ((n : Int)).toNat * 2 ≤ 2 * 2 := Nat.mul_le_mul_right _ hn2
      refine ⟨_, rfl, by decide, fun q hq => ?_⟩
      have hqp := hw3.ne hq
      have sq : Same H3 (upd H3 q (.lst elS)) := same_new hq
      refine ⟨p, q, c3, elS, rfl, hw3.at sq, by omega, hqp, upd_same, by decide, by decide, fun H6 x c6 s6 hw6 hc6 hx => ?_⟩
      obtain ⟨y, rfl, gy⟩ := vgs_ok (elS_ok x hx)
      have s36 : SameB p H3 H6 := (SameB.of sq).trans s6
      refine ⟨_, rfl, _, rfl, _, rfl, _, rfl, _, rfl, p, c6, rfl, hw6, by omega, fun H7 M ks dr hM hMk hkl hkn => ?_⟩
      obtain ⟨s7, c7, hw7, hc7⟩ := dr
      refine ⟨(by show 4 ≤ sizeLine; decide), fun t ht => ?_⟩
      have hwt : Wl (upd H7 t (.tup [.str (Str.ofString "element"), .str y, .ref L, .ref M])) p c7 := hw7.at (same_new ht)
      have k7 : KeepG H1 H3 (upd H7 t (.tup [.str (Str.ofString "element"), .str y, .ref L, .ref M])) := (KeepG.same (s36.trans s7) hpn).trans (.ofS (same_new ht))
      have hx6 : Ex H H6 := (Ex.same sL).trans (x3.trans (wk s36 hw6.some))
      have htn : H t = none := (hx6.trans (wk s7 hw7.some)) t ht
      refine kk _ _ ⟨((s3.trans s36).trans s7).trans (.new ht), c7, hwt, by omega⟩ ⟨t, rfl, htn, .inr ⟨y, L, M, as, ks, upd_same, gy, hL0, ?_, by omega, ?_, hx6 M hM, ?_, hkl, ?_⟩⟩
      · exact (same_new ht) _ _ ((s36.trans s7) L _ hLp has)
      · exact fun x hx => ((hag x hx).keep k7).weak fun a ha => free0 sL ha
      · exact (same_new ht) _ _ hMk
      · exact fun x hx => ((hkn x hx).keep (.ofS (same_new ht))).weak hx6
theorem no_Ok (T : Tx w K mg) {k : Nat} : Ok P w K mg base CX0 k (He.fAd K d_Lelement.at_) p_Lelement (fun _ _ _ _ => False) := by
  obtain ⟨fd, F⟩ := f_Lelement T
  exact ⟨fd, ⟨fun _ _ _ _ h => h.elim, fun _ _ _ _ _ _ _ _ _ _ _ _ _ h => h.elim⟩, b_Lelement F, F.kp⟩
theorem ok_el (T : Tx w K mg) : ∀ d, Ok P w K mg base CX0 (2 * d + 5) (He.fAd K d_Lelement.at_) p_Lelement (spEl d)
  | 0 => ok_Lelement T 0 (ok_Lchildren T 0 (no_Ok T))
  | d + 1 => ok_Lelement T (d + 1) (ok_Lchildren T (d + 1) (ok_el T d))
end
end K2
/-! K02Te -/
namespace K2
open PySem PySem.Spec PyProof.Rows L2 TL
def SideL (G H : Hp) (v : V) : Prop := ∃ a xs, v = .ref a ∧ G a = none ∧ H a = some (.lst xs) ∧ xs.length ≤ 1 ∧ ∀ x ∈ xs, Nd G 3 H x
theorem SideL.keep {G H H' : Hp} {v : V} (k : KeepG G H H') (h : SideL G H v) : SideL G H' v := by
  obtain ⟨a, xs, e, g, h1, h2, h3⟩ := h
  exact ⟨a, xs, e, g, k _ _ g h1, h2, fun x hx => (h3 x hx).keep k⟩
section
variable {P : Program} {w : World} {K : PySem.W.Frag} {mg : Str → Option Value} {base : Heap}
def spTree : Sp := fun vs H Q _ => ∃ (p : Addr) (c : Nat), vs = [.ref p, .int 2, .int 3] ∧ Wl H p c ∧ c ≤ 1000 ∧
  ∀ H' (L : Addr) (ks : List V), Dr H H' p c 1000 → H' L = some (.lst ks) → ks.length ≤ 3 → (∀ x ∈ ks, Nd H 3 H' x) → Q (.ref L) H'
theorem ok_Ltree (T : Tx w K mg) : Ok P w K mg base CX0 10 (He.fAd K d_Ltree.at_) p_Ltree spTree := by
  obtain ⟨fd, F⟩ := f_Ltree T
  obtain ⟨fD, GD, bD, kD⟩ := ok_Ldraw (P := P) (base := base) T
  obtain ⟨fP, GP, bP, kP⟩ := ok_Lpick (P := P) (base := base) T
  obtain ⟨fE, GE, bE, kE⟩ := ok_el (P := P) (base := base) T 2
  refine ⟨fd, ?_, b_Ltree F, F.kp⟩
  refine F.ok sc_Ltree (fun vs H Q E h => ?_) (fun cdv A outer s H vs Q E hr h => ?_)
  · obtain ⟨p, c, rfl, _⟩ := h
    rfl
  · obtain ⟨p, c, rfl, hw, hc, kk⟩ := h
    have nd := sc_Ltree.nd
    refine ⟨_, PSs.nox (pss_cons (ps_set (i := 3) nd rfl (.inl rfl) (pe_lst pa_nil))
      (pss_cons (ps_for PassesOwn.never rfl (pi_range1 (by rfl) (n_range T) (pa_cons pe_int pa_nil)) (pg_name (i := 4) nd rfl (.inl rfl))
        (pss_cons (ps_set (i := 5) nd rfl (.inr rfl) (pe_lst (pa_cons (pe_tup (pa_cons pe_str (pa_cons pe_non (pa_cons pe_str pa_nil)))) (pa_cons (pe_tup (pa_cons pe_str (pa_cons pe_str (pa_cons pe_str pa_nil)))) pa_nil))))
        (pss_one (ps_expr (pe_bm PySem.F.plainAttrs_list PySem.F.slot_list_append PySem.F.type_list_append mt_append (pv 3) (pa_cons
          (pe_lc (own := [("_law_k", 6)]) (g := gName 6) (tt := tYes) (by rfl) nd
            (pi_range1 (by rfl) (n_range T) (pa_cons (pe_call (E := E0) GD (hr.mono (by decide)) (by rfl) (g_Ldraw T) kD bD .nil pass0 (pa_cons (pv 0) (pa_cons pe_int pa_nil))) pa_nil))
            (blkOk_by (own := [("_law_k", 6)]) (N := N_Ltree) (sc := defScope s_Ltree) (by decide +kernel))
            (fun _ _ _ _ _ => pg_name (i := 6) nd rfl (Or.inl rfl)) (fun _ _ _ _ _ => pts_nil)
            (fun _ _ _ _ _ => pe_call (E := E0) GP (hr.mono (by decide)) (by rfl) (g_Lpick T) kP bP .nil pass0 (pa_cons (pv 0) (pa_cons (pv 5) pa_nil)))) pa_nil))))))
      (pss_one (ps_ret (pe_op op_cat (pe_op op_cat (pe_ix ix_list (pv 3) pe_int (fun _ _ => rfl)) (pe_lst (pa_cons (pe_call (E := E0) GE (hr.mono (by decide)) (by rfl) (g_Lelement T) kE bE .nil pass0 (pa_cons (pv 0) (pa_cons (pv 1) (pa_cons (pv 2) pa_nil)))) pa_nil))) (pe_ix ix_list (pv 3) pe_int (fun _ _ => rfl))))))), ?_⟩
    refine ⟨by decide, fun S hS => ?_⟩
    have hSp := hw.ne hS
    have sS : Same H (upd H S (.lst [])) := same_new hS
    have hw1 := hw.at sS
    have hSS : upd H S (.lst []) S = some (.lst []) := upd_same
    generalize upd H S (.lst []) = H1 at sS hw1 hSS ⊢
    have hS1n : H1 S ≠ none := by rw [hSS]; simp
    have hpn : H1 p ≠ none := hw1.some
    refine ⟨2, rfl, by decide, by decide, ?_⟩
    refine for_it walk_range (fun k σ H3 => (SameB p H H3 ∧ Ex H1 H3) ∧ (∃ c3, Wl H3 p c3 ∧ c3 ≤ c + k * 2) ∧ (∃ v4 v5 v6 : Option V, σ = [some (.ref p), some (.int 2), some (.int 3), some (.ref S), v4, v5, v6]) ∧
        ∃ xs : List V, H3 S = some (.lst xs) ∧ xs.length = k ∧ ∀ x ∈ xs, SideL H1 H3 x)
      ⟨⟨.of sS, fun a h => h⟩, ⟨c, hw1, by omega⟩, ⟨_, _, _, rfl⟩, [], hSS, rfl, fun x hx => by cases hx⟩ (fun _ _ _ _ _ => trivial) ?_ ?_
    · rintro k x σ H3' H3 hk ⟨⟨s3, x3⟩, ⟨c3, hw3, hc3⟩, ⟨v4, v5, v6, rfl⟩, xs, hxs, hxl, hxg⟩ ⟨rfl, rfl⟩
      have hk2 : k < 2 := hk
      refine ⟨(by show 3 ≤ sizeLine; decide), fun t1 ht1 => ⟨(by show 3 ≤ sizeLine; decide), fun t2 ht2 => ⟨(by show 2 ≤ sizeLine; decide), fun q hq => ?_⟩⟩⟩
      have sq : Same H3 (upd (upd (upd H3 t1 (.tup [.str (Str.ofString "comment"), .non, .str (Str.ofString "top")])) t2 (.tup [.str (Str.ofString "instruction"), .str (Str.ofString "go"), .str (Str.ofString "on")])) q (.lst [.ref t1, .ref t2])) := ((same_new ht1).trans (same_new ht2)).trans (same_new hq)
      have ht21 : t2 ≠ t1 := fun e => by
        rw [e, upd_same] at ht2
        cases ht2
      have hq1 : q ≠ t1 := fun e => by
        rw [e, upd_ne (Ne.symm ht21), upd_same] at hq
        cases hq
      have hq2 : q ≠ t2 := fun e => by
        rw [e, upd_same] at hq
        cases hq
      have e1 : upd (upd (upd H3 t1 (.tup [.str (Str.ofString "comment"), .non, .str (Str.ofString "top")])) t2 (.tup [.str (Str.ofString "instruction"), .str (Str.ofString "go"), .str (Str.ofString "on")])) q (.lst [.ref t1, .ref t2]) t1 = some (.tup [.str (Str.ofString "comment"), .non, .str (Str.ofString "top")]) := by
        rw [upd_ne (Ne.symm hq1), upd_ne (Ne.symm ht21), upd_same]
      have e2 : upd (upd (upd H3 t1 (.tup [.str (Str.ofString "comment"), .non, .str (Str.ofString "top")])) t2 (.tup [.str (Str.ofString "instruction"), .str (Str.ofString "go"), .str (Str.ofString "on")])) q (.lst [.ref t1, .ref t2]) t2 = some (.tup [.str (Str.ofString "instruction"), .str (Str.ofString "go"), .str (Str.ofString "on")]) := by
        rw [upd_ne (Ne.symm hq2), upd_same]
      have e3 : upd (upd (upd H3 t1 (.tup [.str (Str.ofString "comment"), .non, .str (Str.ofString "top")])) t2 (.tup [.str (Str.ofString "instruction"), .str (Str.ofString "go"), .str (Str.ofString "on")])) q (.lst [.ref t1, .ref t2]) q = some (.lst [.ref t1, .ref t2]) := upd_same
      have ht1n : H1 t1 = none := x3 t1 ht1
      have ht2n : H1 t2 = none := x3 t2 (free0 (same_new ht1) ht2)
      have hqn : H3 q = none := free0 (same_new ht1) (free0 (same_new ht2) hq)
      have hqp : q ≠ p := hw3.ne hqn
      generalize upd (upd (upd H3 t1 (.tup [.str (Str.ofString "comment"), .non, .str (Str.ofString "top")])) t2 (.tup [.str (Str.ofString "instruction"), .str (Str.ofString "go"), .str (Str.ofString "on")])) q (.lst [.ref t1, .ref t2]) = H4 at sq e1 e2 e3 ⊢
      have hw4 := hw3.at sq
      have hxs4 := sq _ _ hxs
      have x4 : Ex H1 H4 := x3.trans (.same sq)
      have n1 : Nd H1 3 H4 (.ref t1) := .leaf ht1n (.inr (.inl ⟨_, e1, gsB_ok (by decide +kernel)⟩)) 3
      have n2 : Nd H1 3 H4 (.ref t2) := .leaf ht2n (.inr (.inr ⟨_, _, e2, gsB_ok (by decide +kernel), gsB_ok (by decide +kernel)⟩)) 3
      refine ⟨_, rfl, .inl ⟨rfl, _, SqL.of hxs4⟩, _, rfl, p, 2, c3, rfl, hw4, by decide, by decide, by omega, fun H5 n c5 s5 hw5 hc5 hn => ?_⟩
      refine ⟨(n : Int), rfl, by omega, by omega, fun D hD => ?_⟩
      have hDp := hw5.ne hD
      have hDn : H4 D = none := s5.fr hDp hD
      have hDq : q ≠ D := fun e => by rw [← e, e3] at hDn; cases hDn
      have hDS : S ≠ D := fun e => by rw [← e, hxs4] at hDn; cases hDn
      refine lc_it walk_range (fun t H6 => SameB p H4 H6 ∧ (∃ c6, Wl H6 p c6 ∧ c6 ≤ c3 + 1 + t) ∧ ∃ ys : List V, H6 D = some (.lst ys) ∧ ys.length = t ∧ ∀ y ∈ ys, y ∈ [V.ref t1, .ref t2])
        ⟨s5.trans (.new hD), ⟨c5, hw5.at (same_new hD), by omega⟩, [], upd_same, rfl, fun y hy => by cases hy⟩ (fun _ _ _ _ => trivial) ?_ ?_
      · rintro t x H6' H6 ht ⟨s6, ⟨c6, hw6, hc6⟩, ys, hys, hyl, hyg⟩ ⟨rfl, rfl⟩
        have ht2 : t < 1 := by
          have : t < ((n : Int)).toNat := ht
          omega
        refine ⟨rfl, _, rfl, _, rfl, p, q, c6, [.ref t1, .ref t2], rfl, hw6, by omega, hqp, s6 q _ hqp e3, (by show 1 ≤ 2; decide), (by show 2 ≤ 1000; decide), fun H7 y c7 s7 hw7 hc7 hy => ?_⟩
        refine ⟨ys, s7 D _ hDp hys, by rw [sizeLine_eq]; omega, (s6.trans s7).updN hDn, ⟨c7, hw7.at' hDp, by omega⟩, ys ++ [y], upd_same, ?_, ?_⟩
        · rw [List.length_append, hyl]
          rfl
        · intro z hz
          rcases List.mem_append.mp hz with hz | hz
          · exact hyg z hz
          · rw [List.mem_singleton] at hz
            rw [hz]
            exact hy
      · rintro H6 ⟨s6, ⟨c6, hw6, hc6⟩, ys, hys, hyl, hyg⟩
        have hyl1 : ys.length ≤ 1 := by
          have : ys.length = ((n : Int)).toNat := hyl
          omega
        have hc6' : c6 ≤ c3 + 2 := by
          have : ((n : Int)).toNat ≤ 1 := by omega
          omega
        have hxs6 := s6 S _ hSp hxs4
        have k6 : KeepG H1 H4 H6 := .same s6 hpn
        have k3 : KeepG H1 H3 (upd H6 S (.lst (xs ++ [.ref D]))) := ((KeepG.ofS sq).trans k6).trans (.updL hS1n)
        have k4 : KeepG H1 H4 (upd H6 S (.lst (xs ++ [.ref D]))) := k6.trans (.updL hS1n)
        refine ⟨S, xs, .ref D, rfl, rfl, hxs6, by rw [sizeLine_eq]; omega, ?_⟩
        refine ⟨⟨((s3.trans (.of sq)).trans s6).updN hS, (x4.trans (wk s6 hw6.some)).updL⟩, ⟨c6, hw6.at' hSp, by omega⟩, ⟨_, _, _, rfl⟩, xs ++ [.ref D], upd_same, ?_, ?_⟩
        · rw [List.length_append, hxl]
          rfl
        · intro z hz
          rcases List.mem_append.mp hz with hz | hz
          · exact (hxg z hz).keep k3
          · rw [List.mem_singleton] at hz
            subst hz
            refine ⟨D, ys, rfl, x4 D hDn, ?_, hyl1, fun y hy => ?_⟩
            · rw [upd_ne (Ne.symm hDS)]
              exact hys
            · have := hyg y hy
              simp only [List.mem_cons, List.not_mem_nil, or_false] at this
              rcases this with rfl | rfl
              · exact n1.keep k4
              · exact n2.keep k4
    · rintro σ H3 ⟨⟨s3, x3⟩, ⟨c3, hw3, hc3⟩, ⟨v4, v5, v6, rfl⟩, xs, hxs, hxl, hxg⟩
      have hxl2 : xs.length = 2 := hxl
      obtain ⟨y0, y1, rfl⟩ : ∃ y0 y1, xs = [y0, y1] := by
        match xs, hxl2 with
        | [a, b], _ => exact ⟨a, b, rfl⟩
      obtain ⟨a0, as0, rfl, g0, h0, l0, k0⟩ := hxg _ (List.mem_cons_self)
      obtain ⟨a1, as1, rfl, g1, h1, l1, k1⟩ := hxg _ (List.mem_cons_of_mem _ List.mem_cons_self)
      have ha0p : a0 ≠ p := fun e => hpn (e ▸ g0)
      have ha1p : a1 ≠ p := fun e => hpn (e ▸ g1)
      have hc3' : c3 ≤ c + 4 := hc3
      have hB2 : 6 + Bc 2 = 247 := rfl
      refine ⟨_, rfl, S, _, 0, .ref a0, rfl, rfl, SqL.of hxs, atI0 _ _, _, rfl, _, rfl, _, rfl, p, c3, rfl, hw3, (by rw [hB2]; omega), fun H4 v dr hv => ?_⟩
      obtain ⟨s4, c4, hw4, hc4⟩ := dr
      have hc4' : c4 ≤ c3 + 247 := hB2 ▸ hc4
      refine ⟨(by show 1 ≤ sizeLine; decide), fun L1 hL1 => ?_⟩
      have sL1 : Same H4 (upd H4 L1 (.lst [v])) := same_new hL1
      have hL1L : upd H4 L1 (.lst [v]) L1 = some (.lst [v]) := upd_same
      have h04 := sL1 _ _ (s4 a0 _ ha0p h0)
      have s14 : SameB p H3 (upd H4 L1 (.lst [v])) := s4.trans (.of sL1)
      have hw5 := hw4.at sL1
      have k5 : KeepG H1 H3 (upd H4 L1 (.lst [v])) := .same s14 hpn
      have hv5 : Nd H3 3 (upd H4 L1 (.lst [v])) v := hv.keep (.ofS sL1)
      generalize upd H4 L1 (.lst [v]) = H5 at sL1 hL1L h04 s14 hw5 k5 hv5 ⊢
      refine ⟨a0, L1, as0, [v], rfl, rfl, h04, hL1L, by rw [sizeLine_eq]; show as0.length + 1 ≤ _; omega, fun L2 hL2 => ?_⟩
      have sL2 : Same H5 (upd H5 L2 (.lst (as0 ++ [v]))) := same_new hL2
      have hL2L : upd H5 L2 (.lst (as0 ++ [v])) L2 = some (.lst (as0 ++ [v])) := upd_same
      generalize upd H5 L2 (.lst (as0 ++ [v])) = H6 at sL2 hL2L ⊢
      have hS6 := sL2 _ _ (s14 S _ hSp hxs)
      have h16 := sL2 _ _ (s14 a1 _ ha1p h1)
      refine ⟨_, rfl, S, _, 1, .ref a1, rfl, rfl, SqL.of hS6, rfl, L2, a1, as0 ++ [v], as1, rfl, rfl, hL2L, h16, by rw [sizeLine_eq, List.length_append]; show as0.length + 1 + as1.length ≤ _; omega, fun L3 hL3 => ?_⟩
      have sL3 := same_new (o := .lst (as0 ++ [v] ++ as1)) hL3
      have k7 : KeepG H1 H3 (upd H6 L3 (.lst (as0 ++ [v] ++ as1))) := (k5.trans (.ofS sL2)).trans (.ofS sL3)
      have wH : ∀ a, H1 a = none → H a = none := fun a ha => free0 sS ha
      refine kk _ L3 (as0 ++ [v] ++ as1) ⟨((s3.trans s14).trans (.of sL2)).trans (.of sL3), c4, (hw5.at sL2).at sL3, ?_⟩ upd_same ?_ ?_
      · omega
      · rw [List.length_append, List.length_append]
        show as0.length + 1 + as1.length ≤ 3
        omega
      · intro x hx
        rcases List.mem_append.mp hx with hx | hx
        · rcases List.mem_append.mp hx with hx | hx
          · exact ((k0 x hx).keep k7).weak wH
          · rw [List.mem_singleton] at hx
            subst hx
            exact ((hv5.keep ((KeepG.ofS sL2).trans (.ofS sL3))).weak x3).weak wH
        · exact ((k1 x hx).keep k7).weak wH
end
end K2
/-! K02Qu -/
namespace K2
open PySem PySem.Spec PyProof.Rows L2 TL
def tb5 : List (Key × V) := [(.inr (Str.ofString "&"), .str (Str.ofString "&amp;")), (.inr (Str.ofString "<"), .str (Str.ofString "&lt;")), (.inr (Str.ofString "\""), .str (Str.ofString "&quot;")), (.inr (Str.ofString "\t"), .str (Str.ofString "&#9;")), (.inr (Str.ofString "\n"), .str (Str.ofString "&#10;"))]
def tb3 : List (Key × V) := [(.inr (Str.ofString "&"), .str (Str.ofString "&amp;")), (.inr (Str.ofString "<"), .str (Str.ofString "&lt;")), (.inr (Str.ofString ">"), .str (Str.ofString "&gt;"))]
theorem mk5 : mergeK [] tb5 = tb5 := by decide +kernel
theorem mk3 : mergeK [] tb3 = tb3 := by decide +kernel
theorem tb5_ok : ∀ kv ∈ tb5, vgs 6 kv.2 = true := by decide +kernel
theorem tb3_ok : ∀ kv ∈ tb3, vgs 6 kv.2 = true := by decide +kernel
theorem valV_mem {kvs : List (Key × V)} {k : Key} {v : V} (h : valV kvs k = some v) : ∃ kv ∈ kvs, kv.2 = v := by
  unfold valV at h
  cases e : kvs.find? (fun kv => decide (kv.1 = k)) with
  | none => rw [e] at h; cases h
  | some kv =>
    rw [e] at h
    exact ⟨kv, List.mem_of_find?_eq_some e, Option.some.inj h⟩
theorem get_gs {tb : List (Key × V)} (ht : ∀ kv ∈ tb, vgs 6 kv.2 = true) (k : Key) {c : Nat} (hc : isSg c = true) : ∃ s, (valV tb k).getD (.str ⟨#[c]⟩) = .str s ∧ GS 6 s := by
  cases e : valV tb k with
  | none =>
    refine ⟨⟨#[c]⟩, rfl, (by show 1 ≤ 6; decide), fun x hx => ?_⟩
    have : x ∈ [c] := hx
    rw [List.mem_singleton] at this
    rw [this]
    exact hc
  | some v =>
    obtain ⟨kv, h1, h2⟩ := valV_mem e
    obtain ⟨s, h3, h4⟩ := vgs_ok (ht kv h1)
    exact ⟨s, by rw [← h2, h3]; rfl, h4⟩
theorem sum_len {n : Nat} : ∀ {l : List Str}, (∀ y ∈ l, GS n y) → (l.map (·.length)).sum ≤ n * l.length
  | [], _ => Nat.zero_le _
  | a :: l, h => by
    have h1 := (h a List.mem_cons_self).1
    have h2 := sum_len (fun y hy => h y (List.mem_cons_of_mem _ hy) : ∀ y ∈ l, GS n y)
    rw [List.map_cons, List.sum_cons, List.length_cons, Nat.mul_succ]
    omega
section
variable {P : Program} {w : World} {K : PySem.W.Frag} {mg : Str → Option Value} {base : Heap}
def spQuo : Sp := fun vs H Q _ => ∃ (z : Str), vs = [.str z] ∧ GS 5 z ∧ ∀ H' s, Same H H' → GS 30 s → Q (.str s) H'
theorem ok_Lquoted (T : Tx w K mg) : Ok P w K mg base CX0 1 (He.fAd K d_Lquoted.at_) p_Lquoted spQuo := by
  obtain ⟨fd, F⟩ := f_Lquoted T
  refine ⟨fd, ?_, b_Lquoted F, F.kp⟩
  refine F.ok sc_Lquoted (fun vs H Q E h => ?_) (fun cdv A outer s H vs Q E hr h => ?_)
  · obtain ⟨z, rfl, _⟩ := h
    rfl
  · obtain ⟨z, rfl, gz, kk⟩ := h
    have nd := sc_Lquoted.nd
    refine ⟨_, PSs.nox (pss_cons (ps_set (i := 1) nd rfl (.inr rfl) (pe_disp (pps_cons pe_str pe_str (pps_cons pe_str pe_str (pps_cons pe_str pe_str (pps_cons pe_str pe_str (pps_cons pe_str pe_str pps_nil))))) (by rfl) (by rfl) (fun z => by cases z) (by decide)))
      (pss_one (ps_ret (pe_join pe_str (pe_lc (own := [("_law_sign", 2)]) (g := gName 2) (tt := tYes) (by rfl) nd (pi_str (pv 0))
        (blkOk_by (own := [("_law_sign", 2)]) (N := N_Lquoted) (sc := defScope s_Lquoted) (by decide +kernel))
        (fun _ _ _ _ _ => pg_name (i := 2) nd rfl (Or.inl rfl)) (fun _ _ _ _ _ => pts_nil)
        (fun _ _ _ _ _ => pe_dget2 (hu_of hr) (pv 1) (pv 2) (pv 2) ⟨rfl, rfl, rfl, rfl⟩)))))), ?_⟩
    refine fun d hd => ⟨upd_same, tb5, rfl, by decide, ?_⟩
    rw [mk5]
    have hdd : upd (upd H d (.dK [])) d (.dK tb5) d = some (.dK tb5) := upd_same
    have sd : Same H (upd (upd H d (.dK [])) d (.dK tb5)) := same_upd0 (same_new hd) hd
    generalize upd (upd H d (.dK [])) d (.dK tb5) = H1 at hdd sd ⊢
    refine ⟨⟨_, rfl⟩, _, rfl, z, rfl, fun D hD => ?_⟩
    have hDn : H D = none := free0 sd hD
    refine lc_it walk_str (fun t H6 => Same H1 H6 ∧ ∃ ys : List Str, H6 D = some (.lst (ys.map V.str)) ∧ ys.length = t ∧ ∀ y ∈ ys, GS 6 y)
      ⟨same_new hD, [], upd_same, rfl, fun y hy => by cases hy⟩ (fun _ _ _ _ => trivial) ?_ ?_
    · rintro t x H6' H6 ht ⟨s6, ys, hys, hyl, hyg⟩ ⟨rfl, c, hc, rfl⟩
      have ht5 : t < 5 := by
        have h1 := gz.1
        have h2 : t < z.length := ht
        omega
      have hcs : isSg c = true := gz.2 c (by
        have h1 : (tl z)[t]? = some c := by
          show z.cps.toList[t]? = some c
          rw [Array.getElem?_toList]
          exact hc
        exact List.mem_of_getElem? h1)
      obtain ⟨y, hy, gy⟩ := get_gs tb5_ok (.inr ⟨#[c]⟩) hcs
      refine ⟨rfl, _, rfl, d, rfl, .inl ⟨tb5, .inl (s6 _ _ hdd)⟩, _, rfl, _, rfl, _, DGet.k (k := Sum.inr ⟨#[c]⟩) (s6 _ _ hdd), ?_⟩
      rw [hy]
      refine ⟨ys.map V.str, hys, by rw [List.length_map, sizeLine_eq]; omega, ?_, ys ++ [y], ?_, ?_, ?_⟩
      · exact same_upd0 s6 hD
      · rw [upd_same, List.map_append]
        rfl
      · rw [List.length_append, hyl]
        rfl
      · intro q hq
        rcases List.mem_append.mp hq with hq | hq
        · exact hyg q hq
        · rw [List.mem_singleton] at hq
          rw [hq]
          exact gy
    · rintro H6 ⟨s6, ys, hys, hyl, hyg⟩
      have hl5 : ys.length ≤ 5 := by
        have h1 : ys.length = z.length := hyl
        have := gz.1
        omega
      have h1 := sum_len hyg
      have h2 : (Str.ofString "").length = 0 := by decide +kernel
      refine ⟨Str.ofString "", D, ys, rfl, rfl, .inl (SqL.of hys), ?_, kk H6 _ (sd.trans s6) (GS_join (m := 5) hyg hl5)⟩
      show (ys.map (·.length)).sum + ys.length * (Str.ofString "").length ≤ _
      rw [h2, Nat.mul_zero]
      omega
end
end K2
/-! K02Wr -/
namespace K2
open PySem PySem.Spec PyProof.Rows L2 TL
theorem GS_app {n m : Nat} {a b : Str} (ha : GS n a) (hb : GS m b) : GS (n + m) (a ++ b) := by
  constructor
  · rw [len_tl, tl_append, List.length_append, ← len_tl, ← len_tl]
    have := ha.1
    have := hb.1
    omega
  · intro c hc
    rw [tl_append, List.mem_append] at hc
    rcases hc with hc | hc
    · exact ha.2 c hc
    · exact hb.2 c hc
theorem GS_rstrip {n : Nat} {a b : Str} (h : GS n a) : GS n (Txt.rstripChars a b) := by
  refine ⟨Nat.le_trans (len_stripBy _ _ _ a) h.1, fun c hc => ?_⟩
  obtain ⟨j, hj, e⟩ := rstripChars_is_prefix a b
  rw [e] at hc
  refine h.2 c ?_
  have hc' : c ∈ (a.cps.extract 0 j).toList := hc
  rw [Array.toList_extract, List.extract_eq_drop_take] at hc'
  exact List.mem_of_mem_drop (List.mem_of_mem_take hc')
def Pw : Nat → Nat
  | 0 => 100
  | d + 1 => 100 + 3 * Pw d
def E0h : Hp := fun _ => none
section
variable {P : Program} {w : World} {K : PySem.W.Frag} {mg : Str → Option Value} {base : Heap}
def spWr (d : Nat) : Sp := fun vs H Q _ => ∃ (L : Addr) (ks : List V), vs = [.ref L] ∧ H L = some (.lst ks) ∧ ks.length ≤ 3 ∧ (∀ x ∈ ks, Nd E0h d H x) ∧ Pw d ≤ 10000 ∧ ∀ H' s, Same H H' → GS (3 * Pw d) s → Q (.str s) H'
def wrSp : Nat → Sp
  | 0 => fun _ _ _ _ => False
  | d + 1 => spWr d
theorem ok_Lwritten (T : Tx w K mg) (d : Nat) (hW : Ok P w K mg base CX0 (d + 2) (He.fAd K d_Lwritten.at_) p_Lwritten (wrSp d)) : Ok P w K mg base CX0 (d + 3) (He.fAd K d_Lwritten.at_) p_Lwritten (spWr d) := by
  obtain ⟨fd, F⟩ := f_Lwritten T
  obtain ⟨fQ, GQ, bQ, kQ⟩ := ok_Lquoted (P := P) (base := base) T
  obtain ⟨fW, GW, bW, kW⟩ := hW
  refine ⟨fd, ?_, b_Lwritten F, F.kp⟩
  refine F.ok sc_Lwritten (fun vs H Q E h => ?_) (fun cdv A outer s H vs Q E hr h => ?_)
  · obtain ⟨L, ks, rfl, _⟩ := h
    rfl
  · obtain ⟨L, ks, rfl, hL, hkl, hkn, hPw, kk⟩ := h
    have nd := sc_Lwritten.nd
    refine ⟨_, PSs.nox (pss_cons (ps_asg (pe_tup (pa_cons pe_str (pa_cons (pe_disp (pps_cons pe_str pe_str (pps_cons pe_str pe_str (pps_cons pe_str pe_str pps_nil))) (by rfl) (by rfl) (fun z => by cases z) (by decide)) pa_nil))) (pg_tup (by rfl) (pgs_cons (pg_name (i := 1) nd rfl (.inl rfl)) (pgs_cons (pg_name (i := 2) nd rfl (.inr rfl)) pgs_nil))))
      (pss_cons (ps_for PassesOwn.never rfl (pi_list (pv 0)) (pg_name (i := 3) nd rfl (.inl rfl))
        (pss_one (ps_if (pt_cmpR op_eq (pe_ix ix_tup (pv 3) pe_int (fun _ _ => rfl)) pe_str (nomark _))
          (pss_one (ps_set (i := 1) nd rfl (.inl rfl) (pe_op op_add_str (pv 1) (pe_join pe_str (pe_lc (own := [("_law_sign", 8)]) (g := gName 8) (tt := tYes) (by rfl) nd (pi_str (pe_ix ix_tup (pv 3) pe_int (fun _ _ => rfl)))
            (blkOk_by (own := [("_law_sign", 8)]) (N := N_Lwritten) (sc := defScope s_Lwritten) (by decide +kernel))
            (fun _ _ _ _ _ => pg_name (i := 8) nd rfl (Or.inl rfl)) (fun _ _ _ _ _ => pts_nil)
            (fun _ _ _ _ _ => pe_dget2 (hu_of hr) (pv 2) (pv 8) (pv 8) ⟨rfl, rfl, rfl, rfl⟩))))))
        (pss_one (ps_if (pt_cmpR op_eq (pe_ix ix_tup (pv 3) pe_int (fun _ _ => rfl)) pe_str (nomark _))
          (pss_one (ps_set (i := 1) nd rfl (.inl rfl) (pe_op op_add_str (pe_op op_add_str (pe_op op_add_str (pv 1) pe_str) (pe_ix ix_tup (pv 3) pe_int (fun _ _ => rfl))) pe_str)))
        (pss_one (ps_if (pt_cmpR op_eq (pe_ix ix_tup (pv 3) pe_int (fun _ _ => rfl)) pe_str (nomark _))
          (pss_one (ps_set (i := 1) nd rfl (.inl rfl) (pe_op op_add_str (pe_op op_add_str (pe_op op_add_str (pv 1) pe_str)
            (pe_bm PySem.F.plainAttrs_str PySem.F.slot_str_rstrip PySem.F.type_str_rstrip mt_rstripChars (pe_op op_add_str (pe_op op_add_str (pe_ix ix_tup (pv 3) pe_int (fun _ _ => rfl)) pe_str) (pe_ix ix_tup (pv 3) pe_int (fun _ _ => rfl))) (pa_cons pe_str pa_nil))) pe_str)))
          (pss_cons (ps_set (i := 4) nd rfl (.inl rfl) (pe_op op_add_str pe_str (pe_ix ix_tup (pv 3) pe_int (fun _ _ => rfl))))
          (pss_cons (ps_for PassesOwn.never rfl (pi_list (pe_ix ix_tup (pv 3) pe_int (fun _ _ => rfl))) (pg_tup (by rfl) (pgs_cons (pg_name (i := 5) nd rfl (.inl rfl)) (pgs_cons (pg_name (i := 6) nd rfl (.inl rfl)) pgs_nil)))
            (pss_one (ps_set (i := 4) nd rfl (.inl rfl) (pe_op op_add_str (pe_op op_add_str (pe_op op_add_str (pe_op op_add_str (pe_op op_add_str (pv 4) pe_str) (pv 5)) pe_str) (pe_call (E := E0) GQ (hr.mono (by omega)) (by rfl) (g_Lquoted T) kQ bQ .nil pass0 (pa_cons (pv 6) pa_nil))) pe_str))))
          (pss_cons (ps_set (i := 7) nd rfl (.inl rfl) (pe_call (E := E0) GW (hr.mono (by omega)) (by rfl) (g_Lwritten T) kW bW .nil pass0 (pa_cons (pe_ix ix_tup (pv 3) pe_int (fun _ _ => rfl)) pa_nil)))
          (pss_one (ps_set (i := 1) nd rfl (.inl rfl) (pe_op op_add_str (pe_op op_add_str (pv 1) (pv 4))
            (pe_ix ix_list (pe_lst (pa_cons (pe_op op_add_str (pe_op op_add_str (pe_op op_add_str (pe_op op_add_str pe_str (pv 7)) pe_str) (pe_ix ix_tup (pv 3) pe_int (fun _ _ => rfl))) pe_str) (pa_cons pe_str pa_nil)))
              (pe_callTy call_int1 (by rfl) (n_int T) boot_int (pa_cons (pe_cmpR (op_eqNil hr.units0) (pe_ix ix_tup (pv 3) pe_int (fun _ _ => rfl)) (pe_lst pa_nil) (nomark _)) pa_nil)) (fun _ _ => rfl)))))))))))))))
      (pss_one (ps_ret (pv 1))))), ?_⟩
    refine fun M hM => ⟨upd_same, tb3, rfl, by decide, ?_⟩
    rw [mk3]
    refine ⟨(by show 2 ≤ sizeLine; decide), fun t ht => ⟨t, _, rfl, SqT.of upd_same, rfl, _, _, rfl, _, _, rfl, rfl, ?_⟩⟩
    have sM : Same H (upd (upd H M (.dK [])) M (.dK tb3)) := same_upd0 (same_new hM) hM
    have s1 : Same H (upd (upd (upd H M (.dK [])) M (.dK tb3)) t (.tup [.str (Str.ofString ""), .ref M])) := sM.trans (same_new ht)
    have hMM : upd (upd (upd H M (.dK [])) M (.dK tb3)) t (.tup [.str (Str.ofString ""), .ref M]) M = some (.dK tb3) := (same_new ht) _ _ upd_same
    generalize upd (upd (upd H M (.dK [])) M (.dK tb3)) t (.tup [.str (Str.ofString ""), .ref M]) = H1 at s1 hMM ⊢
    have hL1 := s1 _ _ hL
    refine ⟨_, rfl, L, rfl, ⟨_, SqL.of hL1⟩, ?_⟩
    refine for_it (walk_list (xs := ks)) (fun k σ H3 => Same H1 H3 ∧ ∃ (f : Str) (v3 v4 v5 v6 v7 v8 : Option V), σ = [some (.ref L), some (.str f), some (.ref M), v3, v4, v5, v6, v7, v8] ∧ GS (k * Pw d) f)
      ⟨Same.refl _, Str.ofString "", _, _, _, _, _, _, rfl, ?_⟩ (fun k σ H3 _ h => SqL.of (h.1 _ _ hL1)) ?_ ?_
    · rw [Nat.zero_mul]
      exact gsB_ok (by decide +kernel)
    · rintro k x σ H3' H3 hk ⟨s3, f, v3, v4, v5, v6, v7, v8, rfl, hf⟩ ⟨rfl, hx⟩
      have hxm : x ∈ ks := List.mem_of_getElem? hx
      have hk3 : k < 3 := by
        have : k < ks.length := hk
        omega
      have hkm : k * Pw d ≤ 2 * Pw d := Nat.mul_le_mul_right _ (by omega)
      have hkm2 : (k + 1) * Pw d = k * Pw d + Pw d := Nat.succ_mul _ _
      have sH3 := s1.trans s3
      have hn : Nd E0h d H3 x := (hkn x hxm).keep (.ofS sH3)
      have hPd : 100 ≤ Pw d := by cases d <;> simp [Pw]
      -- a part more
      have more : ∀ (H4 : Hp) (g : Str) (v3 v4 v5 v6 v7 v8 : Option V), Same H3 H4 → GS (k * Pw d + Pw d) g → (Same H1 H4 ∧ ∃ (f : Str) (v3' v4' v5' v6' v7' v8' : Option V), [some (.ref L), some (.str g), some (.ref M), v3, v4, v5, v6, v7, v8] = [some (.ref L), some (.str f), some (.ref M), v3', v4', v5', v6', v7', v8'] ∧ GS ((k + 1) * Pw d) f) := fun H4 g v3 v4 v5 v6 v7 v8 s4 hg => ⟨s3.trans s4, g, _, _, _, _, _, _, rfl, by rw [hkm2]; exact hg⟩
      obtain ⟨t, hxt, hh⟩ : ∃ t, x = .ref t ∧ (NdL H3 t ∨ ∃ e, d = e + 1 ∧ ∃ n al kl as ks, H3 t = some (.tup [.str (Str.ofString "element"), .str n, .ref al, .ref kl]) ∧ GS 3 n ∧ H3 al = some (.lst as) ∧ as.length ≤ 2 ∧ (∀ x ∈ as, AtL E0h H3 x) ∧ H3 kl = some (.lst ks) ∧ ks.length ≤ 3 ∧ ∀ x ∈ ks, Nd E0h e H3 x) := by
        cases d with
        | zero =>
          obtain ⟨t, e, _, h⟩ := hn
          exact ⟨t, e, .inl h⟩
        | succ e =>
          obtain ⟨t, e', _, h⟩ := hn
          refine ⟨t, e', ?_⟩
          rcases h with h | ⟨n, al, kl, as, ks, h1, h2, h3, h4, h5, h6, h7, h8, h9, h10⟩
          · exact .inl h
          · exact .inr ⟨e, rfl, n, al, kl, as, ks, h1, h2, h4, h5, h6, h8, h9, h10⟩
      subst hxt
      rcases hh with (⟨z, ht, gz⟩ | ⟨z, ht, gz⟩ | ⟨n, z, ht, gn, gz⟩) | ⟨e, rfl, n, al, kl, as, ks2, ht, gn, hal, hasl, hasg, hkl2, hks2, hkn2⟩
      · -- a text
        refine ⟨_, rfl, t, _, 0, _, rfl, rfl, SqT.of ht, atI0 _ _, rfl, _, rfl, ?_⟩
        refine iteT ?_
        refine ⟨_, rfl, ⟨_, rfl⟩, _, rfl, t, _, 2, .str z, rfl, rfl, SqT.of ht, rfl, z, rfl, fun D hD => ?_⟩
        have hMM3 := s3 _ _ hMM
        refine lc_it walk_str (fun t H6 => Same H3 H6 ∧ ∃ ys : List Str, H6 D = some (.lst (ys.map V.str)) ∧ ys.length = t ∧ ∀ y ∈ ys, GS 6 y)
          ⟨same_new hD, [], upd_same, rfl, fun y hy => by cases hy⟩ (fun _ _ _ _ => trivial) ?_ ?_
        · rintro t x H6' H6 ht6 ⟨s6, ys, hys, hyl, hyg⟩ ⟨rfl, c, hc, rfl⟩
          have ht8 : t < 8 := by
            have h1 := gz.1
            have h2 : t < z.length := ht6
            omega
          have hcs : isSg c = true := gz.2 c (by
            have h1 : (tl z)[t]? = some c := by
              show z.cps.toList[t]? = some c
              rw [Array.getElem?_toList]
              exact hc
            exact List.mem_of_getElem? h1)
          obtain ⟨y, hy, gy⟩ := get_gs tb3_ok (.inr ⟨#[c]⟩) hcs
          refine ⟨rfl, _, rfl, M, rfl, .inl ⟨tb3, .inl (s6 _ _ hMM3)⟩, _, rfl, _, rfl, _, DGet.k (k := Sum.inr ⟨#[c]⟩) (s6 _ _ hMM3), ?_⟩
          rw [hy]
          refine ⟨ys.map V.str, hys, by rw [List.length_map, sizeLine_eq]; omega, same_upd0 s6 hD, ys ++ [y], ?_, ?_, ?_⟩
          · rw [upd_same, List.map_append]
            rfl
          · rw [List.length_append, hyl]
            rfl
          · intro q hq
            rcases List.mem_append.mp hq with hq | hq
            · exact hyg q hq
            · rw [List.mem_singleton] at hq
              rw [hq]
              exact gy
        · rintro H6 ⟨s6, ys, hys, hyl, hyg⟩
          have hl8 : ys.length ≤ 8 := by
            have h1 : ys.length = z.length := hyl
            have := gz.1
            omega
          have h1 := sum_len hyg
          have h2 : (Str.ofString "").length = 0 := by decide +kernel
          have gj := GS_join (m := 8) hyg hl8
          have gfj := GS_app hf gj
          refine ⟨Str.ofString "", D, ys, rfl, rfl, .inl (SqL.of hys), ?_, f, _, rfl, rfl, ?_, ?_⟩
          · show (ys.map (·.length)).sum + ys.length * (Str.ofString "").length ≤ _
            rw [h2, Nat.mul_zero]
            omega
          · have h3 := hf.1
            have h4 := gj.1
            rw [sizeLine_eq]
            omega
          · exact more H6 _ _ _ _ _ _ _ s6 (gfj.mono (by omega))
      · -- a comment
        have g1 := GS_app hf (gsB_ok (n := 4) (s := Str.ofString "<!--") (by decide +kernel))
        have g2 := GS_app g1 gz
        have g3 := GS_app g2 (gsB_ok (n := 3) (s := Str.ofString "-->") (by decide +kernel))
        have l0 := hf.1
        have lz := gz.1
        have l1 := (gsB_ok (n := 4) (s := Str.ofString "<!--") (by decide +kernel)).1
        have l2 := (gsB_ok (n := 3) (s := Str.ofString "-->") (by decide +kernel)).1
        refine ⟨_, rfl, t, _, 0, _, rfl, rfl, SqT.of ht, atI0 _ _, rfl, _, rfl, ?_⟩
        refine iteF ?_
        refine ⟨_, rfl, t, _, 0, _, rfl, rfl, SqT.of ht, atI0 _ _, rfl, _, rfl, ?_⟩
        refine iteT ?_
        refine ⟨_, rfl, f, _, rfl, rfl, by rw [sizeLine_eq]; omega, _, rfl, t, _, 2, .str z, rfl, rfl, SqT.of ht, rfl, _, _, rfl, rfl, by rw [sizeLine_eq]; have := g1.1; omega, _, _, rfl, rfl, by rw [sizeLine_eq]; have := g2.1; omega, ?_⟩
        exact more H3 _ _ _ _ _ _ _ (Same.refl _) (g3.mono (by omega))
      · -- an instruction
        have q1 := GS_app gn (gsB_ok (n := 1) (s := Str.ofString " ") (by decide +kernel))
        have q2 := GS_app q1 gz
        have q3 := GS_rstrip (b := Str.ofString " ") q2
        have g1 := GS_app hf (gsB_ok (n := 2) (s := Str.ofString "<?") (by decide +kernel))
        have g2 := GS_app g1 q3
        have g3 := GS_app g2 (gsB_ok (n := 2) (s := Str.ofString "?>") (by decide +kernel))
        have l0 := hf.1
        have lz := gz.1
        have ln := gn.1
        have l1 := (gsB_ok (n := 2) (s := Str.ofString "<?") (by decide +kernel)).1
        have l2 := (gsB_ok (n := 2) (s := Str.ofString "?>") (by decide +kernel)).1
        have l3 := (gsB_ok (n := 1) (s := Str.ofString " ") (by decide +kernel)).1
        refine ⟨_, rfl, t, _, 0, _, rfl, rfl, SqT.of ht, atI0 _ _, rfl, _, rfl, ?_⟩
        refine iteF ?_
        refine ⟨_, rfl, t, _, 0, _, rfl, rfl, SqT.of ht, atI0 _ _, rfl, _, rfl, ?_⟩
        refine iteF ?_
        refine ⟨_, rfl, t, _, 0, _, rfl, rfl, SqT.of ht, atI0 _ _, rfl, _, rfl, ?_⟩
        refine iteT ?_
        refine ⟨_, rfl, f, _, rfl, rfl, by rw [sizeLine_eq]; omega, ?_⟩
        refine ⟨_, rfl, t, _, 1, .str n, rfl, rfl, SqT.of ht, rfl, _, _, rfl, rfl, by rw [sizeLine_eq]; omega, _, rfl, t, _, 2, .str z, rfl, rfl, SqT.of ht, rfl, _, _, rfl, rfl, by rw [sizeLine_eq]; have := q1.1; omega, rfl, _, _, rfl, rfl, by rw [sizeLine_eq]; have := q2.1; omega, _, _, rfl, rfl, by rw [sizeLine_eq]; have := g1.1; have := q3.1; omega, _, _, rfl, rfl, by rw [sizeLine_eq]; have := g2.1; omega, ?_⟩
        exact more H3 _ _ _ _ _ _ _ (Same.refl _) (g3.mono (by omega))
      · -- an element
        have hPe : Pw (e + 1) = 100 + 3 * Pw e := rfl
        have c1 : GS 1 (Str.ofString "<") := gsB_ok (by decide +kernel)
        have c2 : GS 1 (Str.ofString " ") := gsB_ok (by decide +kernel)
        have c3 : GS 2 (Str.ofString "=\"") := gsB_ok (by decide +kernel)
        have c4 : GS 1 (Str.ofString "\"") := gsB_ok (by decide +kernel)
        have c5 : GS 1 (Str.ofString ">") := gsB_ok (by decide +kernel)
        have c6 : GS 2 (Str.ofString "</") := gsB_ok (by decide +kernel)
        have c7 : GS 2 (Str.ofString "/>") := gsB_ok (by decide +kernel)
        have t1 := GS_app c1 gn
        have l0 := hf.1
        have ln := gn.1
        refine ⟨_, rfl, t, _, 0, _, rfl, rfl, SqT.of ht, atI0 _ _, rfl, _, rfl, ?_⟩
        refine iteF ?_
        refine ⟨_, rfl, t, _, 0, _, rfl, rfl, SqT.of ht, atI0 _ _, rfl, _, rfl, ?_⟩
        refine iteF ?_
        refine ⟨_, rfl, t, _, 0, _, rfl, rfl, SqT.of ht, atI0 _ _, rfl, _, rfl, ?_⟩
        refine iteF ?_
        refine ⟨_, rfl, t, _, 1, .str n, rfl, rfl, SqT.of ht, rfl, _, _, rfl, rfl, by rw [sizeLine_eq]; have := c1.1; omega, ?_⟩
        refine ⟨_, rfl, t, _, 2, .ref al, rfl, rfl, SqT.of ht, rfl, al, rfl, ⟨_, SqL.of hal⟩, ?_⟩
        refine for_it (walk_list (xs := as)) (fun k2 σ H5 => Same H3 H5 ∧ ∃ (tg : Str) (v5 v6 v7 v8 : Option V), σ = [some (.ref L), some (.str f), some (.ref M), some (.ref t), some (.str tg), v5, v6, v7, v8] ∧ GS (4 + k2 * 40) tg)
          ⟨Same.refl _, _, _, _, _, _, rfl, t1⟩ (fun k2 σ H5 _ h => SqL.of (h.1 _ _ hal)) ?_ ?_
        · rintro k2 x2 σ2 H5' H5 hk2 ⟨s5, tg, v5, v6, v7, v8, rfl, gt⟩ ⟨rfl, hx2⟩
          have hk22 : k2 < 2 := by
            have : k2 < as.length := hk2
            omega
          obtain ⟨u, m, q, rfl, _, hu, gm, gq⟩ := (hasg x2 (List.mem_of_getElem? hx2)).keep (.ofS s5)
          refine ⟨u, _, rfl, SqT.of hu, rfl, _, _, rfl, _, _, rfl, rfl, ?_⟩
          have a1 := GS_app gt c2
          have a2 := GS_app a1 gm
          have a3 := GS_app a2 c3
          refine ⟨_, rfl, _, _, rfl, rfl, by rw [sizeLine_eq]; have := gt.1; have := c2.1; omega, _, rfl, _, _, rfl, rfl, by rw [sizeLine_eq]; have := a1.1; have := gm.1; omega, _, _, rfl, rfl, by rw [sizeLine_eq]; have := a2.1; have := c3.1; omega, _, rfl, q, rfl, gq, fun H6 r s6 gr => ?_⟩
          have a4 := GS_app a3 gr
          have a5 := GS_app a4 c4
          refine ⟨_, _, rfl, rfl, by rw [sizeLine_eq]; have := a3.1; have := gr.1; omega, _, _, rfl, rfl, by rw [sizeLine_eq]; have := a4.1; have := c4.1; omega, ?_⟩
          exact ⟨s5.trans s6, _, _, _, _, _, rfl, a5.mono (by omega)⟩
        · rintro σ2 H5 ⟨s5, tg, v5, v6, v7, v8, rfl, gt⟩
          have gt' : GS 84 tg := gt.mono (by omega)
          have ht5 := s5 _ _ ht
          have hks5 := s5 _ _ hkl2
          refine ⟨_, rfl, t, _, 3, .ref kl, rfl, rfl, SqT.of ht5, rfl, kl, ks2, rfl, hks5, hks2, fun y hy => (hkn2 y hy).keep (.ofS s5), by omega, fun H6 r s6 gr => ?_⟩
          have b1 := GS_app hf gt'
          have d1 := GS_app c5 gr
          have d2 := GS_app d1 c6
          have d3 := GS_app d2 gn
          have d4 := GS_app d3 c5
          have ht6 := s6 _ _ ht5
          refine ⟨_, rfl, _, rfl, _, _, rfl, rfl, by rw [sizeLine_eq]; have := hf.1; have := gt'.1; omega, ?_⟩
          refine ⟨_, rfl, _, _, rfl, rfl, by rw [sizeLine_eq]; have := c5.1; have := gr.1; omega, _, _, rfl, rfl, by rw [sizeLine_eq]; have := d1.1; have := c6.1; omega, _, rfl, t, _, 1, .str n, rfl, rfl, SqT.of ht6, rfl, _, _, rfl, rfl, by rw [sizeLine_eq]; have := d2.1; omega, _, _, rfl, rfl, by rw [sizeLine_eq]; have := d3.1; have := c5.1; omega, (by show 2 ≤ sizeLine; decide), fun L2 hL2 => ?_⟩
          have sL2 := same_new (o := .lst [.str (Str.ofString ">" ++ r ++ Str.ofString "</" ++ n ++ Str.ofString ">"), .str (Str.ofString "/>")]) hL2
          have hL2L : upd H6 L2 (.lst [.str (Str.ofString ">" ++ r ++ Str.ofString "</" ++ n ++ Str.ofString ">"), .str (Str.ofString "/>")]) L2 = some (.lst [.str (Str.ofString ">" ++ r ++ Str.ofString "</" ++ n ++ Str.ofString ">"), .str (Str.ofString "/>")]) := upd_same
          have ht7 := sL2 _ _ ht6
          have hks7 := sL2 _ _ (s6 _ _ hks5)
          have s37 : Same H3 (upd H6 L2 (.lst [.str (Str.ofString ">" ++ r ++ Str.ofString "</" ++ n ++ Str.ofString ">"), .str (Str.ofString "/>")])) := (s5.trans s6).trans sL2
          generalize upd H6 L2 (.lst [.str (Str.ofString ">" ++ r ++ Str.ofString "</" ++ n ++ Str.ofString ">"), .str (Str.ofString "/>")]) = H7 at ht7 hks7 s37 hL2L ⊢
          refine ⟨_, rfl, t, _, 3, .ref kl, rfl, rfl, SqT.of ht7, rfl, by decide, fun M2 hM2 => ?_⟩
          have sM2 := same_new (o := .lst []) hM2
          refine ⟨kl, M2, ks2, rfl, rfl, SqL.of (sM2 _ _ hks7), SqL.of upd_same, .inr ⟨_, rfl, ?_⟩⟩
          cases ks2.isEmpty with
          | true =>
            refine ⟨L2, _, 1, .str (Str.ofString "/>"), rfl, rfl, SqL.of (sM2 _ _ hL2L), rfl, _, _, rfl, rfl, by rw [sizeLine_eq]; have := b1.1; have := c7.1; omega, ?_⟩
            exact more _ _ _ _ _ _ _ _ (s37.trans sM2) ((GS_app b1 c7).mono (by omega))
          | false =>
            refine ⟨L2, _, 0, .str (Str.ofString ">" ++ r ++ Str.ofString "</" ++ n ++ Str.ofString ">"), rfl, rfl, SqL.of (sM2 _ _ hL2L), atI0 _ _, _, _, rfl, rfl, by rw [sizeLine_eq]; have := b1.1; have := d4.1; omega, ?_⟩
            exact more _ _ _ _ _ _ _ _ (s37.trans sM2) ((GS_app b1 d4).mono (by omega))
    · rintro σ H3 ⟨s3, f, v3, v4, v5, v6, v7, v8, rfl, hf⟩
      refine ⟨_, rfl, kk H3 f (s1.trans s3) (hf.mono (Nat.mul_le_mul_right _ hkl))⟩
theorem no_OkW (T : Tx w K mg) {k : Nat} : Ok P w K mg base CX0 k (He.fAd K d_Lwritten.at_) p_Lwritten (fun _ _ _ _ => False) := by
  obtain ⟨fd, F⟩ := f_Lwritten T
  exact ⟨fd, ⟨fun _ _ _ _ h => h.elim, fun _ _ _ _ _ _ _ _ _ _ _ _ _ h => h.elim⟩, b_Lwritten F, F.kp⟩
theorem ok_wr (T : Tx w K mg) : ∀ d, Ok P w K mg base CX0 (d + 3) (He.fAd K d_Lwritten.at_) p_Lwritten (spWr d)
  | 0 => ok_Lwritten T 0 (no_OkW T)
  | d + 1 => ok_Lwritten T (d + 1) (ok_wr T d)
end
end K2
/-! K02Sp0 -/
namespace K2
open PySem PySem.Spec PyProof.Rows L2 TL
theorem op_mulS {X : Cx} : OpR X (binaryOp .Mult) (fun x y H Q => ∃ a, x = .str a ∧ y = .int 2 ∧ a.length ≤ 1000 ∧ Q (.str (Txt.mul a 2)) H) := by
  intro pins s σ H x y v u Q I rx ry h
  obtain ⟨a, rfl, rfl, ha, q⟩ := h
  obtain ⟨t, rfl⟩ := rx
  obtain ⟨t', rfl⟩ := ry
  refine P.mul_str (by decide) (fun _ _ => ?_) (fun _ _ => ?_) ?_
  · have : ((2 : Int) ^ 63 - 1) / 2 = 4611686018427387903 := by decide
    rw [this]
    omega
  · unfold Builtin.Str.tooLong
    refine decide_eq_false ?_
    have e2 : (2 : Int).toNat = 2 := rfl
    rw [sizeLine_eq, e2]
    omega
  · unfold Txt.mul at q
    have h1 : ¬ (2 : Int) < 1 := by decide
    rw [if_neg h1] at q ⊢
    split at q
    · rename_i e
      rw [if_pos e]
      exact ⟨.str a, H, I, ⟨t, rfl⟩, q⟩
    · rename_i e
      rw [if_neg e]
      refine ⟨?_, .str _, H, Inv.tok I _, ⟨_, rfl⟩, q⟩
      have e : (List.foldl (fun x1 x2 => x1 ++ x2) #[] (List.replicate (Int.toNat 2) a.cps)) = a.cps ++ a.cps := by
        show ((#[] ++ a.cps) ++ a.cps) = _
        simp
      show (List.foldl (fun x1 x2 => x1 ++ x2) #[] (List.replicate (Int.toNat 2) a.cps)).size ≤ _
      rw [e, Array.size_append, sizeLine_eq]
      have : a.cps.size ≤ 1000 := ha
      omega
theorem GS_mul {a : Str} (h : GS 1 a) : GS 2 (Txt.mul a 2) := by
  unfold Txt.mul
  rw [if_neg (by decide)]
  split
  · exact h.mono (by decide)
  · have e : (List.foldl (fun x1 x2 => x1 ++ x2) #[] (List.replicate (Int.toNat 2) a.cps)) = a.cps ++ a.cps := by
      show ((#[] ++ a.cps) ++ a.cps) = _
      simp
    rw [e]
    constructor
    · show (a.cps ++ a.cps).size ≤ 2
      have : a.cps.size ≤ 1 := h.1
      rw [Array.size_append]
      omega
    · intro c hc
      have hc' : c ∈ (a.cps ++ a.cps).toList := hc
      rw [Array.toList_append, List.mem_append] at hc'
      rcases hc' with hc' | hc'
      · exact h.2 c hc'
      · exact h.2 c hc'
end K2
/-! K02Sl -/
namespace K2
open PySem PySem.Spec PyProof.Rows L2 TL
theorem tl_cut (z : Str) (lo hi : Option Int) : tl (cutS z lo hi) = ((tl z).drop (HT.sIx z.length 0 lo)).take (HT.sIx z.length z.length hi - HT.sIx z.length 0 lo) := rfl
theorem GS_cut {n : Nat} {z : Str} (h : GS n z) (lo hi : Option Int) : GS n (cutS z lo hi) := by
  constructor
  · rw [len_tl, tl_cut, List.length_take, List.length_drop, ← len_tl]
    have := h.1
    omega
  · intro c hc
    rw [tl_cut] at hc
    exact h.2 c (List.mem_of_mem_drop (List.mem_of_mem_take hc))
theorem cut_to_len (z : Str) (i : Nat) : (cutS z none (some (i : Int))).length ≤ i := by
  rw [cut_none, mkS_len, List.length_take]
  omega
theorem cut_from_len (z : Str) (i : Nat) : (cutS z (some (i : Int)) none).length ≤ z.length - i := by
  rw [len_tl, tl_cut, List.length_take, List.length_drop, ← len_tl]
  have h2 : HT.sIx z.length 0 (some (i : Int)) = min i z.length := by
    show (if (i : Int) < 0 then ((i : Int) + (z.length : Int)).toNat else min (i : Int).toNat z.length) = _
    rw [if_neg (by omega)]
    rfl
  rw [h2]
  omega
def sgnS : Str := Str.ofString "<>&/-?!]='a ;[#:x13" ++ Str.ofString "\""
theorem sgn_ok : gsB 20 sgnS = true := by decide +kernel
theorem sgn_len : sgnS.length = 20 := by decide +kernel
section
variable {P : Program} {w : World} {K : PySem.W.Frag} {mg : Str → Option Value} {base : Heap}
def spSpo : Sp := fun vs H Q _ => ∃ (p : Addr) (c : Nat) (z : Str), vs = [.ref p, .str z] ∧ Wl H p c ∧ c ≤ 100000 ∧ GS 200000 z ∧
  ∀ H' s, Dr H H' p c 1000 → GS 200012 s → Q (.str s) H'
theorem ok_Lspoilt (T : Tx w K mg) : Ok P w K mg base CX0 3 (He.fAd K d_Lspoilt.at_) p_Lspoilt spSpo := by
  obtain ⟨fd, F⟩ := f_Lspoilt T
  obtain ⟨fD, GD, bD, kD⟩ := ok_Ldraw (P := P) (base := base) T
  obtain ⟨fP, GP, bP, kP⟩ := ok_Lpick (P := P) (base := base) T
  refine ⟨fd, ?_, b_Lspoilt F, F.kp⟩
  refine F.ok sc_Lspoilt (fun vs H Q E h => ?_) (fun cdv A outer s H vs Q E hr h => ?_)
  · obtain ⟨p, c, z, rfl, _⟩ := h
    rfl
  · obtain ⟨p, c, z, rfl, hw, hc, gz, kk⟩ := h
    have nd := sc_Lspoilt.nd
    refine ⟨_, PSs.nox (pss_cons (ps_for PassesOwn.never rfl (pi_range1 (by rfl) (n_range T) (pa_cons (pe_call (E := E0) GD (hr.mono (by decide)) (by rfl) (g_Ldraw T) kD bD .nil pass0 (pa_cons (pv 0) (pa_cons pe_int pa_nil))) pa_nil)) (pg_name (i := 2) nd rfl (.inl rfl))
        (pss_cons (ps_set (i := 3) nd rfl (.inl rfl) (pe_call (E := E0) GD (hr.mono (by decide)) (by rfl) (g_Ldraw T) kD bD .nil pass0 (pa_cons (pv 0) (pa_cons (pe_op op_add (pe_callB call_len (by rfl) (n_len T) PySem.boot_len (pa_cons (pv 1) pa_nil)) pe_int) pa_nil))))
        (pss_cons (ps_set (i := 4) nd rfl (.inl rfl) (pe_op op_add_str pe_str pe_str))
        (pss_cons (ps_set (i := 5) nd rfl (.inl rfl) (pe_ix ix_str (pv 4) (pe_call (E := E0) GD (hr.mono (by decide)) (by rfl) (g_Ldraw T) kD bD .nil pass0 (pa_cons (pv 0) (pa_cons (pe_callB call_len (by rfl) (n_len T) PySem.boot_len (pa_cons (pv 4) pa_nil)) pa_nil))) (fun _ _ => rfl)))
        (pss_cons (ps_set (i := 6) nd rfl (.inl rfl) (pe_op op_add (pv 3) (pe_call (E := E0) GP (hr.mono (by decide)) (by rfl) (g_Lpick T) kP bP .nil pass0 (pa_cons (pv 0) (pa_cons (pe_lst (pa_cons pe_int (pa_cons pe_int (pa_cons pe_int (pa_cons pe_int pa_nil))))) pa_nil)))))
        (pss_one (ps_set (i := 1) nd rfl (.inl rfl) (pe_op op_add_str (pe_op op_add_str (pe_slice sl_str (pv 1) po_none (po_some (pv 3)))
          (pe_call (E := E0) GP (hr.mono (by decide)) (by rfl) (g_Lpick T) kP bP .nil pass0 (pa_cons (pv 0) (pa_cons (pe_lst (pa_cons (pv 5) (pa_cons (pv 5) (pa_cons pe_str (pa_cons (pe_op op_mulS (pe_slice sl_str (pv 1) (po_some (pv 3)) (po_some (pe_op op_add (pv 3) pe_int))) pe_int) (pa_cons pe_str (pa_cons pe_str (pa_cons pe_str pa_nil)))))))) pa_nil)))) (pe_slice sl_str (pv 1) (po_some (pv 6)) po_none)))))))))
      (pss_one (ps_ret (pe_slice sl_str (pv 1) po_none (po_some (pe_call (E := E0) GP (hr.mono (by decide)) (by rfl) (g_Lpick T) kP bP .nil pass0 (pa_cons (pv 0) (pa_cons (pe_lst (pa_cons (pe_callB call_len (by rfl) (n_len T) PySem.boot_len (pa_cons (pv 1) pa_nil)) (pa_cons (pe_callB call_len (by rfl) (n_len T) PySem.boot_len (pa_cons (pv 1) pa_nil)) (pa_cons (pe_callB call_len (by rfl) (n_len T) PySem.boot_len (pa_cons (pv 1) pa_nil)) (pa_cons (pe_call (E := E0) GD (hr.mono (by decide)) (by rfl) (g_Ldraw T) kD bD .nil pass0 (pa_cons (pv 0) (pa_cons (pe_op op_add (pe_callB call_len (by rfl) (n_len T) PySem.boot_len (pa_cons (pv 1) pa_nil)) pe_int) pa_nil))) pa_nil))))) pa_nil)))))))), ?_⟩
    refine ⟨_, rfl, p, 4, c, rfl, hw, by decide, by decide, by omega, fun H2 n c2 s2 hw2 hc2 hn => ?_⟩
    refine ⟨(n : Int), rfl, by omega, by omega, ?_⟩
    refine for_it walk_range (fun k σ H3 => SameB p H H3 ∧ (∃ c3, Wl H3 p c3 ∧ c3 ≤ c + 1 + k * 5) ∧ ∃ (y : Str) (v2 v3 v4 v5 v6 : Option V), σ = [some (.ref p), some (.str y), v2, v3, v4, v5, v6] ∧ GS (200000 + k * 4) y)
      ⟨s2, ⟨c2, hw2, by omega⟩, z, _, _, _, _, _, rfl, gz⟩ (fun _ _ _ _ _ => trivial) ?_ ?_
    · rintro k x σ H3' H3 hk ⟨s3, ⟨c3, hw3, hc3⟩, y, v2, v3, v4, v5, v6, rfl, gy⟩ ⟨rfl, rfl⟩
      have hk3 : k < 3 := by
        have : k < ((n : Int)).toNat := hk
        omega
      have hyl := gy.1
      have hyL : y.length ≤ sizeLine := by rw [sizeLine_eq]; omega
      refine ⟨_, rfl, _, rfl, _, y.length, rfl, ⟨hyL, rfl⟩, _, _, rfl, rfl, p, y.length + 1, c3, rfl, hw3, by omega, by omega, by omega, fun H4 a c4 s4 hw4 hc4 ha => ?_⟩
      refine ⟨_, _, rfl, rfl, (by rw [sizeLine_eq]; decide +kernel), ?_⟩
      refine ⟨_, rfl, _, rfl, _, rfl, _, 20, rfl, ⟨(by rw [sizeLine_eq]; decide +kernel), sgn_len.symm⟩, p, 20, c4, rfl, hw4, by decide, by decide, by omega, fun H5 j c5 s5 hw5 hc5 hj => ?_⟩
      have hjl : j < (tl sgnS).length := by
        rw [← len_tl, sgn_len]
        exact hj
      have hjx : sgnS.cps.toList[j]? = some ((tl sgnS)[j]'hjl) := List.getElem?_eq_getElem hjl
      have hcs : isSg ((tl sgnS)[j]'hjl) = true := (gsB_ok sgn_ok).2 _ (List.getElem_mem hjl)
      generalize (tl sgnS)[j]'hjl = ch at hjx hcs
      refine ⟨sgnS, (j : Int), ch, rfl, rfl, (by rw [sizeLine_eq, sgn_len]; decide), atI_nat hjx, ?_⟩
      refine ⟨_, rfl, _, rfl, by decide, fun q hq => ?_⟩
      have hqp := hw5.ne hq
      have sq : Same H5 (upd H5 q (.lst [.int 0, .int 1, .int 1, .int 2])) := same_new hq
      refine ⟨p, q, c5, [.int 0, .int 1, .int 1, .int 2], rfl, hw5.at sq, by omega, hqp, upd_same, by decide, by decide, fun H6 x6 c6 s6 hw6 hc6 hx6 => ?_⟩
      obtain ⟨b, rfl, hb⟩ : ∃ b : Nat, x6 = .int (b : Int) ∧ b ≤ 2 := by
        simp only [List.mem_cons, List.not_mem_nil, or_false] at hx6
        rcases hx6 with h | h | h | h
        · exact ⟨0, h, by decide⟩
        · exact ⟨1, h, by decide⟩
        · exact ⟨1, h, by decide⟩
        · exact ⟨2, h, by decide⟩
      refine ⟨_, _, rfl, rfl, ?_⟩
      have hone : GS 1 (cutS y (some (a : Int)) (some ((a : Int) + 1))) := by
        refine ⟨?_, (GS_cut gy _ _).2⟩
        rw [cut_one]
        cases (tl y).drop a with
        | nil => exact Nat.zero_le _
        | cons u r => exact Nat.le_refl 1
      refine ⟨_, rfl, _, rfl, _, rfl, y, rfl, hyL, _, rfl, _, rfl, _, rfl, _, rfl, _, rfl, _, rfl, _, rfl, _, _, rfl, rfl, _, rfl, y, rfl, hyL, _, rfl, rfl, (by have := hone.1; omega), (by show 7 ≤ sizeLine; decide), fun q2 hq2 => ?_⟩
      have hqp2 := hw6.ne hq2
      have sq2 : Same H6 (upd H6 q2 (.lst [.str ⟨#[ch]⟩, .str ⟨#[ch]⟩, .str (Str.ofString ""), .str (Txt.mul (cutS y (some (a : Int)) (some ((a : Int) + 1))) 2), .str (Str.ofString "&#"), .str (Str.ofString "<!--"), .str (Str.ofString "]]>")])) := same_new hq2
      refine ⟨p, q2, c6, [.str ⟨#[ch]⟩, .str ⟨#[ch]⟩, .str (Str.ofString ""), .str (Txt.mul (cutS y (some (a : Int)) (some ((a : Int) + 1))) 2), .str (Str.ofString "&#"), .str (Str.ofString "<!--"), .str (Str.ofString "]]>")], rfl, hw6.at sq2, by omega, hqp2, upd_same, (by show 1 ≤ 7; decide), (by show 7 ≤ 1000; decide), fun H7 x7 c7 s7 hw7 hc7 hx7 => ?_⟩
      have hch : GS 4 ⟨#[ch]⟩ := ⟨(by show 1 ≤ 4; decide), fun u hu => by
        have : u ∈ [ch] := hu
        rw [List.mem_singleton] at this
        rw [this]
        exact hcs⟩
      obtain ⟨s7', rfl, g7⟩ : ∃ s, x7 = .str s ∧ GS 4 s := by
        simp only [List.mem_cons, List.not_mem_nil, or_false] at hx7
        rcases hx7 with h | h | h | h | h | h | h
        · exact ⟨_, h, hch⟩
        · exact ⟨_, h, hch⟩
        · exact ⟨_, h, gsB_ok (by decide +kernel)⟩
        · exact ⟨_, h, (GS_mul hone).mono (by decide)⟩
        · exact ⟨_, h, gsB_ok (by decide +kernel)⟩
        · exact ⟨_, h, gsB_ok (by decide +kernel)⟩
        · exact ⟨_, h, gsB_ok (by decide +kernel)⟩
      have e1 := cut_to_len y a
      have e2 := cut_from_len y (a + b)
      have eab : ((a : Int) + (b : Int)) = ((a + b : Nat) : Int) := by omega
      have g1 : GS a (cutS y none (some (a : Int))) := ⟨e1, (GS_cut gy _ _).2⟩
      have g2 : GS (y.length - (a + b)) (cutS y (some ((a : Int) + (b : Int))) none) := ⟨by rw [eab]; exact e2, (GS_cut gy _ _).2⟩
      have g3 := GS_app g1 g7
      have g4 := GS_app g3 g2
      refine ⟨_, _, rfl, rfl, by rw [sizeLine_eq]; have := g7.1; omega, _, rfl, _, rfl, _, rfl, y, rfl, hyL, _, _, rfl, rfl, by rw [sizeLine_eq]; have := g3.1; have := g2.1; omega, ?_⟩
      refine ⟨((((s3.trans s4).trans s5).trans (.of sq)).trans s6).trans ((SameB.of sq2).trans s7), ⟨c7, hw7, by omega⟩, _, _, _, _, _, _, rfl, g4.mono (by omega)⟩
    · rintro σ H3 ⟨s3, ⟨c3, hw3, hc3⟩, y, v2, v3, v4, v5, v6, rfl, gy⟩
      have hn3 : ((n : Int)).toNat ≤ 3 := by omega
      have hyl := gy.1
      have hyL : y.length ≤ sizeLine := by rw [sizeLine_eq]; omega
      have ln : LenV K (.str y) H3 y.length := ⟨hyL, rfl⟩
      refine ⟨_, rfl, _, rfl, _, rfl, _, y.length, rfl, ln, _, rfl, _, y.length, rfl, ln, _, rfl, _, y.length, rfl, ln, _, rfl, _, rfl, _, y.length, rfl, ln, _, _, rfl, rfl, p, y.length + 1, c3, rfl, hw3, by omega, by omega, by omega, fun H4 a c4 s4 hw4 hc4 ha => ?_⟩
      refine ⟨(by show 4 ≤ sizeLine; decide), fun q hq => ?_⟩
      have hqp := hw4.ne hq
      have sq : Same H4 (upd H4 q (.lst [.int (y.length : Int), .int (y.length : Int), .int (y.length : Int), .int (a : Int)])) := same_new hq
      refine ⟨p, q, c4, [.int (y.length : Int), .int (y.length : Int), .int (y.length : Int), .int (a : Int)], rfl, hw4.at sq, by omega, hqp, upd_same, (by show 1 ≤ 4; decide), (by show 4 ≤ 1000; decide), fun H5 x5 c5 s5 hw5 hc5 hx5 => ?_⟩
      obtain ⟨b, rfl⟩ : ∃ b : Int, x5 = .int b := by
        simp only [List.mem_cons, List.not_mem_nil, or_false] at hx5
        rcases hx5 with h | h | h | h <;> exact ⟨_, h⟩
      refine ⟨_, rfl, y, rfl, hyL, kk H5 _ ⟨((s3.trans s4).trans (.of sq)).trans s5, c5, hw5, by omega⟩ ((GS_cut gy _ _).mono (by omega))⟩
end
end K2
/-! K02Rw -/
namespace K2
open PySem PySem.Spec PyProof.Rows L2 TL
/-- an answer, as it is: raw -/
def CEr (outer : List Env) (P : Program) (w : World) (H : Hp) (s : Shared) (R : Value → Hp → Prop) (r : Result) (s' : Shared) : Prop :=
  match r with
  | Except.ok (Flow.ret u) => ∃ H', s'.os = s.os ∧ AllBare s'.gens ∧ Un (frs outer) [] H H' s.heap s'.heap ∧ HOk P w H' s'.heap ∧ R u H'
  | _ => False
section
variable {P : Program} {w : World} {K : PySem.W.Frag} {mg : Str → Option Value} {base : Heap}
theorem raw_pick (T : Tx w K mg) {A : Around} {outer : List Env} {s : Shared} {H : Hp} {p q : Addr} {c n : Nat} {o : Obj} {its : Array Value} {xs : List V} {R : Value → Hp → Prop}
    (hr : Room 2 A) (e0 : Env0 P w K mg base A outer s H) (hw : Wl H p c) (hc : c ≤ 1000000000) (hqp : q ≠ p) (hq : H q = some (.frz o (.lst xs))) (ho : o.cls = .type "list") (hd : o.data = .seq its n)
    (hlen : xs.length = its.size) (h1 : 1 ≤ xs.length) (h2 : xs.length ≤ 1000)
    (kk : ∀ H' (c' k : Nat) (u : Value), SameB p H H' → Wl H' p c' → c' ≤ c + 1 → its[k]? = some u → R u H') :
    codeAny (model P w) A (Code.call (Value.ref (He.fAd K d_Lpick.at_)) { pos := [Value.ref p, Value.ref q] }) (CEr outer P w H s R) s := by
  obtain ⟨fd, F⟩ := f_Lpick T
  obtain ⟨fD, GD, bD, kD⟩ := ok_Ldraw (P := P) (base := base) T
  have hb0 := b_Lpick F
  obtain ⟨oc, od, dV, kV, doc, pm, an, cdv, ct, osl, hfd, lk, hcd, _, _⟩ := F.ex
  subst hfd
  have S := sc_Lpick
  have KX := PySem.W.Frag.In.keeps e0.mod.kin fun b o e => (e0.bs b o e).1
  have lim := Heap.NoLimit.keeps e0.mod.nolimit fun b o e => (e0.bs b o e).1
  have hb := hb0 s [Value.ref p, Value.ref q] KX rfl
  refine codeAny_call_function (Room.depth hr) (KX _ _ lk) rfl S.co S.gen rfl (PySem.W.codeRec_of KX hcd) ?_
  refine hb (model P w) A.in1 _ _ ?_
  have hkind : ∀ x ∈ (p_Lpick.zip ([Value.ref p, Value.ref q] ++ [])), List.lookup x.1 d_Lpick.scope.names = some NameKind.local ∨ List.lookup x.1 d_Lpick.scope.names = some NameKind.cell ∧ (List.lookup x.1 (cellsFrom (s.heap.objs.size + 1) d_Lpick.scope.names [])).isSome = true := by
    intro x hx
    obtain ⟨a, b⟩ := x
    rcases S.par a (List.of_mem_zip hx).1 with h | h
    · exact .inl h
    · exact .inr ⟨h, PySem.W.cellsFrom_some d_Lpick.scope.names (s.heap.objs.size + 1) [] (Or.inl h)⟩
  refine wpAny_newFunctionEnv_cells S.kind hkind fun env he s1 xx => ?_
  subst he
  refine ⟨Heap.NoLimit.keeps lim xx.toInCall.keep, codeAny_func ?_⟩
  have rv : Vals [V.ref p, .ref q] [Value.ref p, Value.ref q] := .cons rfl (.cons rfl .nil)
  have I := inv_start (CX := CX0) (E := E0) S hr.hd e0 rfl rv xx
  have nd := S.nd
  have hrX := Room.deeper hr (envOfC d_Lpick.qual d_Lpick.scope s.heap.objs.size (He.fAd K d_Lpick.at_) cdv)
  refine wpAny_execs_cons (wpAny_Return_some (PyProof.Rows.Subscript_ ?_))
  refine raw_name (X := cxOf CX0 P w K mg base N_Lpick d_Lpick.qual d_Lpick.scope (He.fAd K d_Lpick.at_) cdv A outer s H E0) (i := 1) rfl (.inl rfl) I rfl (fun v r => ?_)
  have hv : v = Value.ref q := r
  subst hv
  refine thn ((pe_call (X := cxOf CX0 P w K mg base N_Lpick d_Lpick.qual d_Lpick.scope (He.fAd K d_Lpick.at_) cdv A outer s H E0) (E := E0) GD (hrX.mono (by decide)) (by rfl) (g_Ldraw T) kD bD .nil pass0 (pa_cons (pv 0) (pa_cons (pe_callB call_len (by rfl) (n_len T) PySem.boot_len (pa_cons (pv 1) pa_nil)) pa_nil))).run [] s1 _ H (fun v H' => ∃ (k c' : Nat), v = .int (k : Int) ∧ k < xs.length ∧ SameB p H H' ∧ Wl H' p c' ∧ c' ≤ c + 1) I ?_) fun i s2 hq2 => ?_
  · refine ⟨_, rfl, _, rfl, _, xs.length, rfl, .inl ⟨xs, .inl (.inr ⟨o, hq⟩), rfl⟩, p, xs.length, c, rfl, hw, h1, by omega, hc, fun H' k c' s' w' hc' hk => ⟨k, c', rfl, hk, s', w', hc'⟩⟩
  · obtain ⟨v, H', I2, ri, k, c', rfl, hk, ss, hw', hc'⟩ := hq2
    obtain ⟨tk, rfl⟩ := ri
    have hq2 := ss q _ hqp hq
    have h5 := (I2.hok q _ hq2).1
    have hk2 : k < its.size := by omega
    have hu : its[((k : Nat) : Int).toNat]? = some its[k] := by
      rw [show ((k : Nat) : Int).toNat = k by omega]
      exact Array.getElem?_eq_getElem hk2
    refine item_listR ⟨o, h5, ho, n, hd⟩ (by omega) (by omega) hu ?_ rfl
    exact ⟨H', I2.os, I2.bare, I2.base, I2.hok, kk H' c' k _ ss hw' hc' (Array.getElem?_eq_getElem hk2)⟩
end
end K2
/-! K02Rx -/
namespace K2
open PySem PySem.Spec PyProof.Rows L2 TL
def tRepP (i j : Nat) (y z1 z2 z3 z4 : Str) : TE := fun σ H Q => ∃ (x : Str) (p : Addr) (c : Nat), σ[i]? = some (some (.str x)) ∧ σ[j]? = some (some (.ref p)) ∧ Wl H p c ∧ c ≤ 1000000000 ∧
  (∀ z ∈ [z1, z2, z3, z4], x.length + (x.length + 1) * z.length ≤ 16777216) ∧ ∀ H' z, z ∈ [z1, z2, z3, z4] → Dr H H' p c 1 → Q (.str (Txt.replace x y z)) H'
theorem pet_repP {X : Cx} (T : Tx X.w X.K X.mg) (NB : ∀ h : Heap, X.K.In h → NoneBooked h) (hr : Room 2 X.A) (hg : Gl X "_law_pick") {i j : Nat} {tx wl y z1 z2 z3 z4 : Str} {p1 p2 p3 p4 p5 apos pos c0 c1 c2 c3 c4 : Pos} {k0 k1 k2 k3 k4 : Nat}
    (hNi : X.N[i]? = some tx) (hvi : Vis X.env.scope tx) (hNj : X.N[j]? = some wl) (hvj : Vis X.env.scope wl) (hline : (apos.endLine == pos.line) = true)
    (d1 : (tx == Str.ofString "__debug__") = false := by rfl) (d2 : (tx == Str.ofString "__classdict__") = false := by rfl) (d3 : (wl == Str.ofString "__debug__") = false := by rfl) (d4 : (wl == Str.ofString "__classdict__") = false := by rfl) :
    PET X (.Call (.Attribute (.Name tx p1) "replace" apos) [.Constant (.str y) k0 c0, .Call (.Name "_law_pick" p2) [.Name wl p3, .List [.Constant (.str z1) k1 c1, .Constant (.str z2) k2 c2, .Constant (.str z3) k3 c3, .Constant (.str z4) k4 c4] p4] [] p5] [] pos) (tRepP i j y z1 z2 z3 z4) := by
  intro pins s σ H Q h0 I h
  obtain ⟨x, p, c, hx, hp, hw, hc, hlen, kk⟩ := h
  obtain ⟨fP, GP, bP, kP⟩ := ok_Lpick (P := X.prog) (base := X.base) T
  refine Call_method2 rfl rfl hline ?_
  refine raw_name hNi hvi I hx (fun v r => ?_) d1 d2
  obtain ⟨tt, rfl⟩ := r
  refine ⟨"str", "str.replace", F.plainAttrs_str, F.slot_str_replace, F.type_str_replace, typeIs_str s x tt, (fun _ e => nomatch e), ?_⟩
  refine Calls.callWith_builtin rfl (Calls.evalArgs_plain (Calls.spliced_cons (Calls.Constant_str (Calls.spliced_cons ?_))))
  refine wpAny_Call_Name_kw (ld_glob (Inv.tok I _) hg (g_Lpick T) ?_ rfl)
  refine PySem.W.callWith_K I.ok.mod.kin kP ?_ rfl rfl
  refine Calls.spliced_cons (raw_name hNj hvj (Inv.tok I _) hp (fun v r => ?_) d3 d4)
  have hv : v = Value.ref p := r
  subst hv
  refine Calls.spliced_cons (wpAny_List_spliced ?_)
  refine Calls.spliced_cons (Calls.Constant_str (k := k1) (pos := c1) (Calls.spliced_cons (Calls.Constant_str (k := k2) (pos := c2) (Calls.spliced_cons (Calls.Constant_str (k := k3) (pos := c3) (Calls.spliced_cons (Calls.Constant_str (k := k4) (pos := c4) (Calls.spliced_nil ⟨(by show 4 ≤ sizeLine; decide), Calls.spliced_nil ?_⟩))))))))
  let o : Obj := { cls := .type "list", data := .seq #[.str z1 (s.toks + 1), .str z2 (s.toks + 1 + 1), .str z3 (s.toks + 1 + 1 + 1), .str z4 (s.toks + 1 + 1 + 1 + 1)] }
  let s1 : Shared := { heap := s.heap.push o, gens := s.gens, drawn := s.drawn, toks := s.toks + 1 + 1 + 1 + 1 + 1, os := s.os }
  have hk : ∀ b u, s.heap.get? b = some u → (s.heap.push o).get? b = some u := fun b u e => Heap.get?_push_of_some _ e
  have hsz : (s.heap.push o).get? s.heap.objs.size = some o := Heap.get?_push_size _ rfl
  have hfree : H s.heap.objs.size = none := HOk.fresh I.hok (Nat.le_refl _)
  have hqp : s.heap.objs.size ≠ p := hw.ne hfree
  have I1 : L2.Inv X pins σ (upd H s.heap.objs.size (.frz o (.lst [.str z1, .str z2, .str z3, .str z4]))) s1 :=
    Inv.laid I hk (Nat.le_refl _) ⟨hsz, (by show 4 ≤ sizeLine; decide), [.str z1 (s.toks + 1), .str z2 (s.toks + 1 + 1), .str z3 (s.toks + 1 + 1 + 1), .str z4 (s.toks + 1 + 1 + 1 + 1)], 0, .cons ⟨_, rfl⟩ (.cons ⟨_, rfl⟩ (.cons ⟨_, rfl⟩ (.cons ⟨_, rfl⟩ .nil))), hsz⟩
  have hw1 : Wl (upd H s.heap.objs.size (.frz o (.lst [.str z1, .str z2, .str z3, .str z4]))) p c := hw.at' hqp
  have hq1 : upd H s.heap.objs.size (.frz o (.lst [.str z1, .str z2, .str z3, .str z4])) s.heap.objs.size = some (.frz o (.lst [.str z1, .str z2, .str z3, .str z4])) := upd_same
  have sH : SameB p H (upd H s.heap.objs.size (.frz o (.lst [.str z1, .str z2, .str z3, .str z4]))) := .new hfree
  show X.K.In s1.heap ∧ wpAny (model X.prog X.w) X.A (call (Value.ref (He.fAd X.K d_Lpick.at_)) [Value.ref p, Value.ref s.heap.objs.size]) _ X.xe s1
  generalize upd H s.heap.objs.size (.frz o (.lst [.str z1, .str z2, .str z3, .str z4])) = H1 at I1 hw1 hq1 sH
  refine ⟨Inv.kIn I1, wpAny_call (codeAny_mono (raw_pick T (o := o) (n := 0) (its := #[.str z1 (s.toks + 1), .str z2 (s.toks + 1 + 1), .str z3 (s.toks + 1 + 1 + 1), .str z4 (s.toks + 1 + 1 + 1 + 1)]) (R := fun u H' => ∃ z t, u = Value.str z t ∧ z ∈ [z1, z2, z3, z4] ∧ s.toks < t ∧ Dr H H' p c 1) hr (Inv.env0 I1) hw1 hc hqp hq1 rfl rfl rfl (by show 1 ≤ 4; decide) (by show 4 ≤ 1000; decide) ?_) fun r s2 hq => ?_)⟩
  · intro H' c' k u ss w' hc' hu
    have dr : Dr H H' p c 1 := ⟨sH.trans ss, c', w', hc'⟩
    match k, hu with
    | 0, hu => exact ⟨z1, _, (Option.some.inj hu).symm, by simp, by omega, dr⟩
    | 1, hu => exact ⟨z2, _, (Option.some.inj hu).symm, by simp, by omega, dr⟩
    | 2, hu => exact ⟨z3, _, (Option.some.inj hu).symm, by simp, by omega, dr⟩
    | 3, hu => exact ⟨z4, _, (Option.some.inj hu).symm, by simp, by omega, dr⟩
    | k + 4, hu => cases hu
  · match r, hq with
    | Except.ok (Flow.ret u), hq =>
      obtain ⟨H2, os, bare, un, hok, z, t, rfl, hz, ht, dr⟩ := hq
      obtain ⟨v, H'', I2, _, rfl, rfl⟩ : EP X pins σ (fun v H'' => H'' = H2 ∧ v = .str z) (Value.str z t) s2 := Inv.after I1 ⟨.str z, H2, os, bare, un, hok, ⟨t, rfl⟩, rfl, rfl⟩
      refine Calls.spliced_nil ?_
      exact SC.replaceA (u := s.toks) (v := t) (Nat.ne_of_gt h0) (Nat.ne_of_gt (Nat.lt_of_le_of_lt (Nat.zero_le _) ht)) (Nat.ne_of_lt ht) (hlen z hz) (fun t' k => ⟨.str (Txt.replace x y z), _, Inv.tok I2 k, ⟨t', rfl⟩, kk _ z hz dr⟩) (NB _ (Inv.kIn I2))
end K2
/-! K02Fo -/
namespace K2
open PySem PySem.Spec PyProof.Rows L2
theorem pst_forT {X : Cx} {tg iter : Expr} {body : List Stmt} {wi : TI} {g : TG} {tb : TS} {pos : Pos} (hp : PassesOwn (model X.prog X.w) X.A X.env X.xe) (hc : X.calm = true) (hi : PI X tg iter wi) (hg : PG X tg g) (hb : PSsT X body tb)
    (hs : ∀ x, foldedSetIterable iter X.env x = pure x := by exact fun _ => rfl) : PST X (.For tg iter body [] pos) (tFor wi g tb) := by
  intro pins s σ H D h0 I h
  refine wpAny_For ?_ hs
  refine wpAny_with_toks h0 ?_
  refine wpAny_mono (hi.run pins s σ H _ I h) ?_ (fun e s' z _ => z)
  intro v s1 h1 t1
  refine wpAny_with_toks t1 ?_
  refine wpAny_mono h1 ?_ (fun e s' z _ => z)
  rintro itv s2 ⟨it, fp, tn, J, H2, e, I2, T, st2, f2, W, ⟨m0, w0⟩, turn⟩ t2
  subst e
  have stat : ∀ {H' : Hp}, (∀ b ∈ fp, H' b = none) → ∀ b ∈ fp, FpOk X pins H' b := fun hn b hb => ⟨hn b hb, (f2 b hb).2⟩
  refine codeAny_forLoop_any (fun n s' => 1 ≤ s'.toks ∧ ∃ i σ' H', L2.Inv X pins σ' H' s' ∧ tn i s'.heap ∧ (∀ b ∈ fp, H' b = none) ∧ W i n σ' H') ?_ m0 ⟨t2, 0, σ, H2, I2, st2, fun b hb => (f2 b hb).1, w0⟩
  rintro n s3 ⟨t3, i, σ3, H3, I3, st3, fr3, w3⟩
  rcases turn i n σ3 H3 w3 with ⟨stop, qn⟩ | ⟨go, N, hN, step⟩
  · refine wpAny_passesOwn hp ?_
    refine wpAny_mono (T.done X rfl rfl rfl hc i pins s3 σ3 H3 X.xe I3 (stat fr3) st3 stop) ?_ (fun e s' z => z)
    rintro r s4 ⟨rfl, I4⟩
    exact wpAny_execs_nil ⟨σ3, H3, I4, qn⟩
  · refine wpAny_passesOwn hp ?_
    refine wpAny_with_toks t3 ?_
    refine wpAny_mono (T.item X rfl rfl rfl hc i pins s3 σ3 H3 X.xe I3 (stat fr3) st3 go) ?_ (fun e s' z _ => z)
    rintro r s4 ⟨u, rfl, h4⟩ t4
    refine wpAny_passesOwn hp ?_
    refine wpAny_with_toks t4 ?_
    refine wpAny_mono h4 ?_ (fun e s' z _ => z)
    rintro _ s5 ⟨x, H5, I5, r5, y5, st5, fr5⟩ t5
    have I5' := L2.Inv.pinned I5 (stat fr5) (T.obj (i + 1) s5.heap st5)
    refine wpAny_passesOwn hp ?_
    refine wpAny_with_toks t5 ?_
    refine wpAny_mono (hg.run (pins ++ pinsAt fp s5.heap) s5 σ3 H5 x u (fun σ2 H2 => tb { nx := N, rt := D.rt, bk := D.nx, ct := N } σ2 H2) I5' r5 (step x H5 y5)) ?_ (fun e s' z _ => z)
    rintro _ s6 ⟨σ6, H6, I6, q6⟩ t6
    refine wpAny_passesOwn hp ?_
    refine wpAny_with_toks t6 ?_
    refine wpAny_mono (hb (pins ++ pinsAt fp s5.heap) s6 σ6 H6 { nx := N, rt := D.rt, bk := D.nx, ct := N } t6 I6 q6) ?_ (fun e s' z _ => z)
    intro f s7 q7 t7
    have again : ∀ {σ7 : L2.St} {H7 : Hp}, L2.Inv X (pins ++ pinsAt fp s5.heap) σ7 H7 s7 → N σ7 H7 → ∃ m, m < n ∧ (1 ≤ s7.toks ∧ ∃ i σ' H', L2.Inv X pins σ' H' s7 ∧ tn i s7.heap ∧ (∀ b ∈ fp, H' b = none) ∧ W i m σ' H') := by
      intro σ7 H7 I7 n7
      obtain ⟨m', hm, w7⟩ := hN σ7 H7 n7
      have pin : ∀ b ∈ fp, ∀ o, s5.heap.get? b = some o → s7.heap.get? b = some o ∧ H7 b = none := fun b hb o e => by
        have := I7.pin (b, o) (List.mem_append_right X.pn (List.mem_append_right pins (mem_pinsAt hb e)))
        exact ⟨this.1, this.2.1⟩
      refine ⟨m', hm, t7, i + 1, σ7, H7, L2.Inv.unpinned I7, T.keep (i + 1) s5.heap s7.heap st5 (fun b hb o e => (pin b hb o e).1), fun b hb => ?_, w7⟩
      obtain ⟨o, ho, _⟩ := T.obj (i + 1) s5.heap st5 b hb
      exact (pin b hb o ho).2
    cases f with
    | next =>
      obtain ⟨σ7, H7, I7, n7⟩ := q7
      exact again I7 n7
    | cont =>
      obtain ⟨σ7, H7, I7, n7⟩ := q7
      exact again I7 n7
    | brk =>
      obtain ⟨σ7, H7, I7, n7⟩ := q7
      exact ⟨σ7, H7, L2.Inv.unpinned I7, n7⟩
    | ret v =>
      obtain ⟨w, σ7, H7, I7, rv, n7⟩ := q7
      exact ⟨w, σ7, H7, L2.Inv.unpinned I7, rv, n7⟩
theorem exm_own {K : PySem.W.Frag} {C : Addr} (h : OexC K C) : PySem.W.exmOne K (.ref C) (.ref C) = some true := by
  obtain ⟨nm, q, N, bs, bm, sn, sub, ab, col, dd, k0, k1, k2, k3, k5, lk, hv⟩ := h.cls
  have e0 := h.exC
  have e1 := h.tyC
  unfold PySem.W.exmOne PySem.W.kitCls
  rw [e0]
  simp only [PySem.W.subIn, PySem.W.mroIn, PySem.W.clsIn, lk]
  simp [excClassObj, e1]
end K2
/-! K02Lw -/
namespace K2
open PySem PySem.Spec PyProof.Rows L2 TL
theorem pst_asg {X : Cx} {pos : Pos} {tg e : Expr} {te : TE} {g : TG} (he : PET X e te) (hg : PG X tg g) (hs : swapsWithSole [tg] e pos.line X.env = pure false := by rfl) (hw : swappedStores [tg] e X.env = pure none := by rfl)
    (h1 : (assignEach [tg] X.env).map (·.2) = [assign tg X.env] := by rfl) : PST X (.Assign [tg] e pos) (tAsg te g) := by
  intro pins s σ H D h0 I h
  refine wpAny_Assign_stores (thn (he pins s σ H (fun x H1 => g x σ H1 D.nx) h0 I h) fun v s1 q => ?_) hs hw
  obtain ⟨x, H1, I1, r1, q1⟩ := q
  rw [h1]
  exact thn (hg.run pins s1 σ H1 x v D.nx I1 r1 q1) fun x s2 q => q
theorem psst_nox {X : Cx} {st : List Stmt} {t : TS} (h : PSsT X.nox st t) : PSsT X st t := fun pins s σ H D h0 I hw =>
  wpAny_mono (h pins s σ H D h0 (Inv.wish I fun _ _ => False) hw) (fun _ _ q => SP.unwish q) fun _ _ z => z.elim
theorem okT {P : Program} {w : World} {K : PySem.W.Frag} {mg : Str → Option Value} {base : Heap} {x qual : Str} {params : Arguments} {body : List Stmt} {scope : Scope} {dvs : List V} {kws : List (Str × V)} {f : Addr} {fd : FuncData} {CX : CXT} {N ps : List Str} {k : Nat} {sp : Sp}
    (F : FunD K x qual params body scope dvs kws f fd) (S : FnScope N ps scope) (hnc : ∀ y ∈ scope.names, y.2 ≠ .cell) (hps : 1 ≤ ps.length) (len : ∀ vs H Q E, sp vs H Q E → vs.length = ps.length)
    (hbody : ∀ (cdv : Value) (A : Around) (outer : List Env) (s : Shared) (H : Hp) (vs : List V) (Q : VK) (E : XK), Room k (A.deeper (envOfC qual scope s.heap.objs.size f cdv)) → sp vs H Q E →
      ∃ t, PSsT (cxOf CX P w K mg base N qual scope f cdv A outer s H E) body t ∧ t { nx := fun x H' => Q V.non H', rt := Q } (L2.start N vs) H) : FnOk P w K mg base CX (k + 1) f fd ps sp := by
  obtain ⟨oc, od, dV, kV, doc, pm, an, cdv, ct, osl, hfd, lk, hcd, _, _⟩ := F.ex
  subst hfd
  exact fn_ofT lk hcd S hnc hps len fun A outer s H vs Q E hr hsp => hbody cdv A outer s H vs Q E hr hsp
def frS : List V := [.str (Str.ofString ""), .str (Str.ofString ""), .str (Str.ofString "<?xml version='1.0'?>\n"), .str (Str.ofString " ")]
theorem frS_ok : ∀ v ∈ frS, vgs 22 v = true := by decide +kernel
def odS (K : PySem.W.Frag) (H : Hp) (x : V) : Prop := x = .non ∨ x = .int 5 ∨ (∃ a xs, x = .ref a ∧ H a = some (.lst xs)) ∨ (∃ a xs, x = .ref a ∧ H a = some (.tup xs))
theorem mem_replS {y z : List Nat} {c : Nat} : ∀ (l : List Nat) (n : Nat), c ∈ StrLaws.replS y z n l → c ∈ l ∨ c ∈ z := by
  intro l
  induction l with
  | nil =>
    intro n h
    rw [StrLaws.replS] at h
    cases h
  | cons a l ih =>
    intro n h
    cases n with
    | zero =>
      rw [StrLaws.replS] at h
      split at h
      · rcases List.mem_append.mp h with h | h
        · exact .inr h
        · exact (ih _ h).imp (List.mem_cons_of_mem _) id
      · rcases List.mem_cons.mp h with h | h
        · exact .inl (h ▸ List.mem_cons_self)
        · exact (ih _ h).imp (List.mem_cons_of_mem _) id
    | succ n =>
      rw [StrLaws.replS] at h
      exact (ih _ h).imp (List.mem_cons_of_mem _) id
theorem GS_replace {n m : Nat} {x y z : Str} (hx : GS n x) (hz : GS m z) (hy : 1 ≤ y.length) : GS (n + (n + 1) * m) (Txt.replace x y z) := by
  constructor
  · refine Nat.le_trans (TK.replace_len x y z) ?_
    have h1 := hx.1
    have h2 := hz.1
    exact Nat.add_le_add h1 (Nat.mul_le_mul (by omega) h2)
  · intro c hc
    have hc' : c ∈ (Txt.replace x y z).cps.toList := hc
    rw [StrLaws.replace_list hy] at hc'
    rcases mem_replS _ _ hc' with h | h
    · exact hx.2 c h
    · exact hz.2 c h
def rpS : List Str := [Str.ofString "y z", Str.ofString "<![CDATA[y z]]>", Str.ofString "&#x79; &#122;", Str.ofString "&quot;y z"]
theorem rpS_ok : ∀ z ∈ rpS, gsB 15 z = true := by decide +kernel
theorem sqL_keep {K : PySem.W.Frag} {H H' : Hp} {a : Addr} {xs : List V} (h : SqL K H a xs) (s : Same H H') : SqL K H' a xs := by
  rcases h with h | h
  · refine .inl ?_
    rcases h with h | ⟨o, h⟩
    · exact .inl (s _ _ h)
    · exact .inr ⟨o, s _ _ h⟩
  · exact .inr h
theorem SameB.full {H H' : Hp} {p : Addr} (s : SameB p H H') (h : H p = none) : Same H H' := fun a o e => s a o (fun x => by rw [x, h] at e; cases e) e
theorem mem_cutV {xs : List V} {lo hi : Option Int} {x : V} (h : x ∈ cutV xs lo hi) : x ∈ xs := List.mem_of_mem_drop (List.mem_of_mem_take h)
section
variable {P : Program} {w : World} {K : PySem.W.Frag} {mg : Str → Option Value} {base : Heap}
def tTry1 (K : PySem.W.Frag) : TS := fun D σ H => tSeq (tDrop (tCallS (spRead K) (WE (wOnly K (.ref (CB K)) (fun _ _ _ => tNext) (fun _ _ _ _ => False) D)) (tCons (tVar 1) tNil))) (tRet (tC (.bl false))) D σ H
def tTry2 (K : PySem.W.Frag) : TS := fun D σ H => tSeq (tDrop (tCallS (spRead K) (WE (wAs K (.ref (CN K)) 8 (fun a cls d => tIfS (tOr (tB (tVar 7)) (tTest (tOp rNe (tXf a cls d (CN K) "at" (tVar 8)) (tVar 6)))) (tRet (tC (.bl false))) tNext) (fun _ _ _ _ => False) D)) (tCons (tVar 5) tNil))) (tIfS (tNot (tB (tVar 7))) (tRet (tC (.bl false))) tNext) D σ H
def spLaw (K : PySem.W.Frag) : Sp := fun vs H Q _ => ∃ (a : Addr) (ns : List Int), vs = [.ref a] ∧ SqL K H a (ns.map V.int) ∧ ∀ H', Q (.bl true) H'
theorem ok_law (T : Tx w K mg) {fd : FuncData} (F : FnP K d_law fd) : FnOk P w K mg base CX0 15 (He.fAd K d_law.at_) fd p_law (spLaw K) := by
  obtain ⟨fR, GR, bR, kR⟩ := ok_read (P := P) (base := base) T
  obtain ⟨fC, GC, bC, kC⟩ := ok_Lcell_at (P := P) (base := base) T
  obtain ⟨fW, GW, bW, kW⟩ := ok_Lwell (P := P) (base := base) T
  obtain ⟨fP, GP, bP, kP⟩ := ok_Lpick (P := P) (base := base) T
  obtain ⟨fT, GT, bT, kT⟩ := ok_Ltree (P := P) (base := base) T
  obtain ⟨fN, GN, bN, kN⟩ := ok_wr (P := P) (base := base) T 3
  obtain ⟨fS, GS', bS, kS⟩ := ok_Lspoilt (P := P) (base := base) T
  obtain ⟨fL, GL, bL, kL⟩ := ok_Lread (P := P) (base := base) T
  refine okT F sc_law (by decide +kernel) (by decide) (fun vs H Q E h => ?_) (fun cdv A outer s H vs Q E hr h => ?_)
  · obtain ⟨a, ns, rfl, _⟩ := h
    rfl
  · obtain ⟨a, ns, rfl, ha, kk⟩ := h
    have nd := sc_law.nd
    have NB := none_booked T
    refine ⟨_, psst_nox (psst_cons (PST.of (ps_for PassesOwn.never rfl (pi_list (pe_lst (pa_cons pe_non (pa_cons pe_int (pa_cons (pe_lst (pa_cons pe_str pa_nil)) (pa_cons (pe_tup (pa_cons pe_str pa_nil)) pa_nil)))))) (pg_name (i := 1) nd rfl (.inl rfl))
        (pss_one (t := tTry1 K) (by exact (ps_try_only (tb := fun W => tSeq (tDrop (tCallS (spRead K) (WE W) (tCons (tVar 1) tNil))) (tRet (tC (.bl false)))) (ts := fun _ _ _ => tNext) (Wout := fun _ _ _ _ => False) rfl rfl ⟨rfl, by decide, .inl (g_BadValue T)⟩ takes0
          (fun W pn xe tk hpo => pss_cons (ps_expr (by exact (pe_callS GR (hr.mono (by decide)) rfl (g_read T) kR bR (fun σ => passAt tk σ) (by exact (pa_cons (pv 1) pa_nil))))) (pss_one (ps_ret pe_bl)))
          (fun a oe cls d pn hz hf => pss_one ps_pass))))))
      (psst_cons (pst_forT PassesOwn.never rfl (pi_list (pe_op op_cat (pe_lst (pa_cons (pe_call (E := E0) GC (hr.mono (by decide)) (by rfl) (g_Lcell_at T) kC bC .nil pass0 (pa_cons (pv 0) (pa_cons pe_int pa_nil))) pa_nil)) (pe_slice sl_list (pv 0) (po_some pe_int) (po_some pe_int)))) (pg_name (i := 2) nd rfl (.inl rfl))
        (psst_cons (PST.of (ps_set (i := 3) nd rfl (.inl rfl) (pe_call (E := E0) GW (hr.mono (by decide)) (by rfl) (g_Lwell T) kW bW .nil pass0 (pa_cons (pv 2) pa_nil))))
        (psst_cons (PST.of (ps_set (i := 4) nd rfl (.inl rfl) (pe_call (E := E0) GP (hr.mono (by decide)) (by rfl) (g_Lpick T) kP bP .nil pass0 (pa_cons (pv 3) (pa_cons (pe_lst (pa_cons pe_str (pa_cons pe_str (pa_cons pe_str (pa_cons pe_str pa_nil))))) pa_nil)))))
        (psst_cons (PST.of (ps_set (i := 5) nd rfl (.inl rfl) (pe_op op_add_str (pv 4) (pe_call (E := E0) GN (hr.mono (by decide)) (by rfl) (g_Lwritten T) kN bN .nil pass0 (pa_cons (pe_call (E := E0) GT (hr.mono (by decide)) (by rfl) (g_Ltree T) kT bT .nil pass0 (pa_cons (pv 3) (pa_cons pe_int (pa_cons pe_int pa_nil)))) pa_nil)))))
        (psst_cons (pst_asg (pet_repP T NB (hr.mono (by decide)) (by rfl) (i := 5) (j := 3) (by rfl) (.inl (by rfl)) (by rfl) (.inl (by rfl)) (by rfl)) (pg_name (i := 5) nd rfl (.inl rfl)))
        (psst_cons (PST.of (ps_set (i := 5) nd rfl (.inl rfl) (pe_call (E := E0) GS' (hr.mono (by decide)) (by rfl) (g_Lspoilt T) kS bS .nil pass0 (pa_cons (pv 3) (pa_cons (pv 5) pa_nil)))))
        (psst_cons (PST.of (ps_asg (pe_call (E := E0) GL (hr.mono (by decide)) (by rfl) (g_Lread T) kL bL .nil pass0 (pa_cons (pv 5) pa_nil)) (pg_tup (by rfl) (pgs_cons (pg_name (i := 6) nd rfl (.inl rfl)) (pgs_cons (pg_name (i := 7) nd rfl (.inl rfl)) pgs_nil)))))
        (PSsT.of (pss_one (t := tTry2 K) (by exact (ps_try_as (i := 8) (tb := fun W => tSeq (tDrop (tCallS (spRead K) (WE W) (tCons (tVar 5) tNil))) (tIfS (tNot (tB (tVar 7))) (tRet (tC (.bl false))) tNext))
            (ts := fun a cls d => tIfS (tOr (tB (tVar 7)) (tTest (tOp rNe (tXf a cls d (CN K) "at" (tVar 8)) (tVar 6)))) (tRet (tC (.bl false))) tNext) (Wout := fun _ _ _ _ => False) rfl rfl nd rfl rfl ⟨rfl, by decide, .inl (g_NotDocument T)⟩ takes0
          (fun W pn xe tk hpo => pss_cons (ps_expr (by exact (pe_callS GR (hr.mono (by decide)) rfl (g_read T) kR bR (fun σ => passAt tk σ) (by exact (pa_cons (pv 5) pa_nil))))) (pss_one (ps_if (pt_not (pt_val (pv 7))) (pss_one (ps_ret pe_bl)) pss_nil)))
          (fun a oe cls d pn hz hf => pss_one (ps_if (pw_or (pt_val (pv 7)) (pw_or1 (pt_cmpR op_ne (pe_xf (oex_of (more_of T).2.1).2 (na_NotDocument_at T) hz hf (pv 8)) (pv 6) (nomark _)))).pt (pss_one (ps_ret pe_bl)) pss_nil)))))))))))))
      (PSsT.of (pss_one (ps_ret pe_bl))))), ?_⟩
    have EB := exm_own (oex_of (more_of T).1).1
    have EN := exm_own (oex_of (more_of T).2.1).1
    refine ⟨by decide, fun q1 hq1 => ⟨(by show 1 ≤ sizeLine; decide), fun t1 ht1 => ⟨(by show 4 ≤ sizeLine; decide), fun L hL => ?_⟩⟩⟩
    have s1 : Same H (upd H q1 (.lst [.str (Str.ofString "<a/>")])) := same_new hq1
    have s2 : Same (upd H q1 (.lst [.str (Str.ofString "<a/>")])) (upd (upd H q1 (.lst [.str (Str.ofString "<a/>")])) t1 (.tup [.str (Str.ofString "<a/>")])) := same_new ht1
    have e1 := s2 q1 _ upd_same
    have e2 : upd (upd H q1 (.lst [.str (Str.ofString "<a/>")])) t1 (.tup [.str (Str.ofString "<a/>")]) t1 = some (.tup [.str (Str.ofString "<a/>")]) := upd_same
    have s12 := s1.trans s2
    generalize upd (upd H q1 (.lst [.str (Str.ofString "<a/>")])) t1 (.tup [.str (Str.ofString "<a/>")]) = H2 at hL s12 e1 e2 ⊢
    have s3 : Same H2 (upd H2 L (.lst [.non, .int 5, .ref q1, .ref t1])) := same_new hL
    have e3 : upd H2 L (.lst [.non, .int 5, .ref q1, .ref t1]) L = some (.lst [.non, .int 5, .ref q1, .ref t1]) := upd_same
    have s13 := s12.trans s3
    have e1' := s3 _ _ e1
    have e2' := s3 _ _ e2
    generalize upd H2 L (.lst [.non, .int 5, .ref q1, .ref t1]) = H3 at s13 e1' e2' e3 ⊢
    refine ⟨L, rfl, ⟨_, SqL.of e3⟩, ?_⟩
    refine for_it (walk_list (K := K) (a := L) (xs := [.non, .int 5, .ref q1, .ref t1])) (fun k σ H4 => Same H3 H4 ∧ ∃ v1 : Option V, σ = [some (.ref a), v1, none, none, none, none, none, none, none])
      ⟨Same.refl _, none, rfl⟩ (fun k σ H4 _ h => SqL.of (h.1 _ _ e3)) ?_ ?_
    · rintro k x σ H4' H4 hk ⟨s4, v1, rfl⟩ ⟨rfl, hx⟩
      have hxm : x ∈ [V.non, .int 5, .ref q1, .ref t1] := List.mem_of_getElem? hx
      obtain ⟨ty, hty, hkit⟩ : ∃ ty, TyX K H4 x ty ∧ PySem.W.kitOne K ty (.type "str") = some false := by
        simp only [List.mem_cons, List.not_mem_nil, or_false] at hxm
        rcases hxm with rfl | rfl | rfl | rfl
        · exact ⟨.type "NoneType", .base .non, kit_ty (by decide)⟩
        · exact ⟨.type "int", .base (.int 5), kit_ty (by decide)⟩
        · exact ⟨.type "list", .base (.lst (s4 _ _ e1')), kit_ty (by decide)⟩
        · exact ⟨.type "tuple", .base (.tup (s4 _ _ e2')), kit_ty (by decide)⟩
      refine ⟨_, rfl, .inr ⟨x, ty, rfl, hty, hkit, fun d y hd => ⟨true, EB, fun _ a' ha' => ?_, fun h => by cases h⟩⟩⟩
      exact ⟨s4.trans (same_new hd), _, rfl⟩
    · rintro σ H4 ⟨s4, v1, rfl⟩
      have s14 := s13.trans s4
      have ha4 := sqL_keep ha s14
      refine ⟨_, rfl, a, 0, ns, rfl, ha4, fun i => ⟨(by show 1 ≤ sizeLine; decide), fun L1 hL1 => ?_⟩⟩
      have sL1 : Same H4 (upd H4 L1 (.lst [.int i])) := same_new hL1
      have eL1 : upd H4 L1 (.lst [.int i]) L1 = some (.lst [.int i]) := upd_same
      generalize upd H4 L1 (.lst [.int i]) = H5 at sL1 eL1 ⊢
      refine ⟨_, rfl, _, rfl, _, rfl, a, _, rfl, sqL_keep ha4 sL1, fun L2 hL2 => ?_⟩
      have sL2 := same_new (o := .lst (cutV (ns.map V.int) (some 1) (some 5))) hL2
      have eL2 : upd H5 L2 (.lst (cutV (ns.map V.int) (some 1) (some 5))) L2 = some (.lst (cutV (ns.map V.int) (some 1) (some 5))) := upd_same
      have eL1' := sL2 _ _ eL1
      generalize upd H5 L2 (.lst (cutV (ns.map V.int) (some 1) (some 5))) = H6 at sL2 eL2 eL1' ⊢
      have hcl : (cutV (ns.map V.int) (some 1) (some 5)).length ≤ 10 := by
        unfold cutV
        rw [List.length_take]
        have e5 : HT.sIx (ns.map V.int).length (ns.map V.int).length (some 5) = min 5 (ns.map V.int).length := rfl
        rw [e5]
        omega
      refine ⟨L1, L2, _, _, rfl, rfl, eL1', eL2, by rw [sizeLine_eq]; show 1 + _ ≤ _; omega, fun L3 hL3 => ?_⟩
      have sL3 := same_new (o := .lst ([.int i] ++ cutV (ns.map V.int) (some 1) (some 5))) hL3
      have eL3 : upd H6 L3 (.lst ([.int i] ++ cutV (ns.map V.int) (some 1) (some 5))) L3 = some (.lst ([.int i] ++ cutV (ns.map V.int) (some 1) (some 5))) := upd_same
      have hall : ∀ x ∈ [V.int i] ++ cutV (ns.map V.int) (some 1) (some 5), ∃ j : Int, x = .int j := by
        intro x hx
        rcases List.mem_append.mp hx with hx | hx
        · rw [List.mem_singleton] at hx
          exact ⟨i, hx⟩
        · obtain ⟨j, _, rfl⟩ := List.mem_map.mp (mem_cutV hx)
          exact ⟨j, rfl⟩
      generalize [V.int i] ++ cutV (ns.map V.int) (some 1) (some 5) = cells at sL3 eL3 hall ⊢
      generalize upd H6 L3 (.lst cells) = H7 at sL3 eL3 ⊢
      refine ⟨L3, rfl, ⟨_, SqL.of eL3⟩, ?_⟩
      refine for_it (walk_list (K := K) (a := L3) (xs := cells)) (fun k σ H8 => Same H7 H8 ∧ ∃ v1 v2 v3 v4 v5 v6 v7 v8 : Option V, σ = [some (.ref a), v1, v2, v3, v4, v5, v6, v7, v8])
        ⟨Same.refl _, _, _, _, _, _, _, _, _, rfl⟩ (fun k σ H8 _ h => SqL.of (h.1 _ _ eL3)) ?_ ?_
      · rintro k x σ H8' H8 hk ⟨s8, v1, v2, v3, v4, v5, v6, v7, v8, rfl⟩ ⟨rfl, hx⟩
        obtain ⟨cl, rfl⟩ := hall x (List.mem_of_getElem? hx)
        refine ⟨_, rfl, cl, rfl, fun H9 p s9 hp9 hw9 => ?_⟩
        have hp8 : H8 p = none := hp9
        refine ⟨_, rfl, by decide, fun q hq => ?_⟩
        have hqp := hw9.ne hq
        have sq : Same H9 (upd H9 q (.lst frS)) := same_new hq
        refine ⟨p, q, 0, frS, rfl, hw9.at sq, by decide, hqp, upd_same, by decide, by decide, fun H10 x c10 s10 hw10 hc10 hx10 => ?_⟩
        obtain ⟨fr, rfl, gfr⟩ := vgs_ok (frS_ok x hx10)
        have b10 : SameB p H8 H10 := (SameB.of (s9.trans sq)).trans s10
        refine ⟨_, rfl, _, rfl, p, c10, rfl, hw10, by omega, fun H11 M ks dr hM hkl hkn => ?_⟩
        obtain ⟨s11, c11, hw11, hc11⟩ := dr
        refine ⟨M, ks, rfl, hM, hkl, fun y hy => (hkn y hy).weak fun _ _ => rfl, by decide, fun H12 wr s12 gwr => ?_⟩
        have hPw : 3 * Pw 3 = 12000 := rfl
        rw [hPw] at gwr
        have gt := GS_app gfr gwr
        refine ⟨_, _, rfl, rfl, by rw [sizeLine_eq]; have := gfr.1; have := gwr.1; omega, ?_⟩
        have hw12 := hw11.at s12
        have b12 : SameB p H8 H12 := (b10.trans s11).trans (.of s12)
        refine ⟨fr ++ wr, p, c11, rfl, rfl, hw12, by omega, ?_, fun H13 z hz dr13 => ?_⟩
        · intro z hz
          have h1 := gt.1
          have h2 := (gsB_ok (rpS_ok z hz)).1
          have : (fr ++ wr).length + ((fr ++ wr).length + 1) * z.length ≤ 12022 + (12022 + 1) * 15 := Nat.add_le_add h1 (Nat.mul_le_mul (by omega) h2)
          omega
        obtain ⟨s13', c13, hw13, hc13⟩ := dr13
        have gr : GS 200000 (Txt.replace (fr ++ wr) (Str.ofString "y z") z) := (GS_replace gt (gsB_ok (rpS_ok z hz)) (by decide +kernel)).mono (by decide)
        have b13 : SameB p H8 H13 := b12.trans s13'
        generalize Txt.replace (fr ++ wr) (Str.ofString "y z") z = tx at gr ⊢
        refine ⟨_, rfl, _, rfl, p, c13, tx, rfl, hw13, by omega, gr, fun H14 sp dr14 gsp => ?_⟩
        obtain ⟨s14', c14, hw14, hc14⟩ := dr14
        have b14 : SameB p H8 H14 := b13.trans s14'
        have gd : Gd sp := ⟨gsp.2, by have := gsp.1; omega⟩
        refine ⟨_, rfl, sp, rfl, gd, fun H15 t s15 ht => ?_⟩
        refine ⟨t, _, rfl, SqT.of ht, rfl, _, _, rfl, _, _, rfl, rfl, ?_⟩
        have f15 : Same H7 H15 := (s8.trans (b14.full hp8)).trans s15
        refine ⟨_, rfl, .inl ⟨sp, rfl, gd, fun hd H16 t16 s16 => ?_, fun hd H16 d16 fl => ?_⟩⟩
        · refine ⟨_, rfl, _, rfl, ?_⟩
          rw [hd]
          refine iteF ?_
          exact ⟨f15.trans s16, _, _, _, _, _, _, _, _, rfl⟩
        · obtain ⟨s16, y, hx16⟩ := fl
          refine ⟨true, EN, fun _ a' ha' => ?_, fun h => by cases h⟩
          refine ⟨_, rfl, _, rfl, ?_⟩
          rw [hd]
          refine iteF ?_
          refine ⟨_, rfl, rfl, rfl, d16, _, _, rfl, hx16, rfl, _, rfl, rfl, _, rfl, ?_⟩
          show if (!decide (V.int ((docN (tl sp)).1 : Int) = V.int ((docN (tl sp)).1 : Int))) = true then _ else _
          rw [decide_eq_true rfl]
          refine iteF ?_
          exact ⟨f15.trans s16, _, _, _, _, _, _, _, _, rfl⟩
      · rintro σ H8 ⟨s8, v1, v2, v3, v4, v5, v6, v7, v8, rfl⟩
        exact kk H8
end
end K2
/-! K02Fin -/
namespace K2
open PySem PySem.Spec PyProof.Rows L2
theorem tx_of {w : World} {K : PySem.W.Frag} {h : Heap} {mg : Str → Option Value} (X : K.In h) (G : h.Ns mainGlobals mg) (c : He.SaysT fa fn ts w K) (e : ex K = true) : Tx w K mg := by
  refine ⟨c.d, ⟨h, X, G⟩, ?_, e⟩
  have h2 := congrArg Prod.snd c
  exact (List.cons.inj h2).1
end K2
open PySem PySem.W PySem.Calls PyProof.Rows
theorem PySem.Challenge.cw_pathloom_k02_what_is_no_document_holds : PySem.Challenge.rw_pathloom_k02_what_is_no_document.Holds := by
  w_on; o_law
  refine HandSHeadRun.head_any (r := OpenLaw.row PySem.Challenge.rw_pathloom_k02_what_is_no_document) (q := view (OpenLaw.row PySem.Challenge.rw_pathloom_k02_what_is_no_document).prog [55]) (H := K2.hk) (ob := K2.ob) (M := 4000) (loose := K2.names)
    (d := HandSHeadRun.topDef (OpenLaw.row PySem.Challenge.rw_pathloom_k02_what_is_no_document).prog 55) (kwd := []) K2.ob_eq
    (by kernel_rfl) (fun s => by kernel_rfl) K2.headRun (by kernel_rfl) (by kernel_rfl) (by kernel_rfl) (by rfl) (by first | assumption | decide +kernel) (by decide +kernel) ⟨rfl, rfl, rfl, rfl, rfl, by decide +kernel⟩ ?hw ?hc
  case hw => w_witness2
  case hc =>
    refine L2.walk_ofE (l := PySem.Challenge.rw_pathloom_k02_what_is_no_document) (n := 63) (k := 15) (x := "_law_script") (CX := L2.CX0) rfl (by decide) (by kernel_rfl) ⟨rfl, by decide, by decide⟩ ?F (fun _ _ _ _ z => z)
    intro w mg f h Y G hmg0
    obtain ⟨K, KX, c, e⟩ := Y
    have T := K2.tx_of KX G c e
    have hmg : mg ("law" : PySem.Str) = some (.ref f) := by
      have e2 : (HandSHeadRun.topDef (OpenLaw.row PySem.Challenge.rw_pathloom_k02_what_is_no_document).prog 55).name = ("law" : PySem.Str) := by kernel_rfl
      rw [← e2]
      exact hmg0
    have ef := hmg.symm.trans (K2.g_law T)
    cases ef
    obtain ⟨fd, F⟩ := K2.f_law T
    have b := L2.FunD.bindsA (ps := ["_law_script"]) F fun _ _ _ _ _ _ us hl => match us, hl with | [_], _ => rfl
    exact ⟨K, fd, K2.spLaw K, KX, fun s v => b s [v] rfl, fun H a ns hl _ hS => ⟨a, ns, rfl, hS, fun _ => rfl⟩, fun base _ _ => K2.ok_law T F⟩
