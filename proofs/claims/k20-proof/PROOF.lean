import PyProof.Rows.All
import Wide.All
import OpenK.AllK
import Wide.FinOn
import HandS.ForMost
import HandS.ForExc
import HandS.Defaults
import HandS.ExcInit
import HandS.ExcField
import HandS.ClsMeth
import HandS.HeadHook1
import HandS.HeadHook2
import HandS.HeadHook3
import HandS.HeadHook4
import KE.KStateDown
import HandS.Head0
import HandS.Head1
import HandS.Head2
import HandS.HeadEnd
import HandS.FStr
import HandS.StrMore
import HandS.Style
import HandS.Walk
import HandS.Evl
import HandS.List
import HandS.More
import HandS.Conv
import HandS.IsInst
import HandS.ExcIs
import HandS.ExcValue
import KE.KExcIs
import HandS.Wide
import HandS.TryOnly
import HandS.CallLocal
import HandS.MapJoin
import PySem.Challenge.RW_pathloom_k20_what_is_no_text_and_no_call
set_option Elab.async false
set_option linter.all false
set_option maxRecDepth 100000
set_option maxHeartbeats 0
/-! K20Text -/
namespace K20
open PySem PySem.Spec PyProof.Rows L2
/-! ### the text -/
def top (i : Nat) : Stmt := PySem.Challenge.pw_pathloom_k20_what_is_no_text_and_no_call.main.body.getD i (.Pass ⟨0, 0, 0, 0⟩)

abbrev s_TreeError_init : Stmt := inClass (top 1) 0
abbrev s_BadValue_init : Stmt := inClass (top 2) 0
abbrev s_NotPath_init : Stmt := inClass (top 3) 0
abbrev s_is_blank : Stmt := top 18
abbrev s_is_sign : Stmt := top 19
abbrev s_begins_word : Stmt := top 20
abbrev s_goes_on_in_word : Stmt := top 21
abbrev s_tokens_in : Stmt := top 24
abbrev s_end_of_blanks : Stmt := top 25
abbrev s_token_at : Stmt := top 26
abbrev s_is_digit : Stmt := top 27
abbrev s_end_of_name : Stmt := top 28
abbrev s_end_of_word : Stmt := top 29
abbrev s_end_of_digits : Stmt := top 30
abbrev s_end_of_number : Stmt := top 31
abbrev s_quoted_token : Stmt := top 32
abbrev s_PathReader_init : Stmt := inClass (top 34) 0
abbrev s_PathReader_peek : Stmt := inClass (top 34) 1
abbrev s_PathReader_peek_behind : Stmt := inClass (top 34) 2
abbrev s_PathReader_has_sign : Stmt := inClass (top 34) 3
abbrev s_PathReader_take : Stmt := inClass (top 34) 4
abbrev s_PathReader_read_path : Stmt := inClass (top 34) 5
abbrev s_PathReader_read_expression : Stmt := inClass (top 34) 6
abbrev s_PathReader_read_operator : Stmt := inClass (top 34) 7
abbrev s_PathReader_end_behind_operand : Stmt := inClass (top 34) 8
abbrev s_PathReader_expect_behind_operand : Stmt := inClass (top 34) 9
abbrev s_PathReader_expect : Stmt := inClass (top 34) 10
abbrev s_PathReader_read_operand : Stmt := inClass (top 34) 11
abbrev s_PathReader_read_literal : Stmt := inClass (top 34) 12
abbrev s_PathReader_text_of_literal : Stmt := inClass (top 34) 13
abbrev s_PathReader_read_variable : Stmt := inClass (top 34) 14
abbrev s_PathReader_is_call : Stmt := inClass (top 34) 15
abbrev s_PathReader_read_call : Stmt := inClass (top 34) 16
abbrev s_PathReader_read_behind : Stmt := inClass (top 34) 17
abbrev s_PathReader_read_slash : Stmt := inClass (top 34) 18
abbrev s_PathReader_read_rooted : Stmt := inClass (top 34) 19
abbrev s_PathReader_begins_step : Stmt := inClass (top 34) 20
abbrev s_PathReader_read_steps : Stmt := inClass (top 34) 21
abbrev s_PathReader_read_step : Stmt := inClass (top 34) 22
abbrev s_PathReader_read_axis : Stmt := inClass (top 34) 23
abbrev s_PathReader_read_test : Stmt := inClass (top 34) 24
abbrev s_PathReader_read_kind : Stmt := inClass (top 34) 25
abbrev s_PathReader_check_colon : Stmt := inClass (top 34) 26
abbrev s_PathReader_read_predicates : Stmt := inClass (top 34) 27
abbrev s_OperatorRow_init : Stmt := inClass (top 35) 0
abbrev s_OperatorRow_ends_with : Stmt := inClass (top 35) 1
abbrev s_OperatorRow_put_minus : Stmt := inClass (top 35) 2
abbrev s_OperatorRow_put_operand : Stmt := inClass (top 35) 3
abbrev s_OperatorRow_put_operator : Stmt := inClass (top 35) 4
abbrev s_OperatorRow_bind : Stmt := inClass (top 35) 5
abbrev s_OperatorRow_finished : Stmt := inClass (top 35) 6
abbrev s_common_length : Stmt := top 36
abbrev s_shortest_number : Stmt := top 37
abbrev s_path_text : Stmt := top 39
abbrev s_tokens : Stmt := top 52
abbrev s_tree_of : Stmt := top 53
abbrev s_canonical : Stmt := top 54
abbrev s_abbreviated : Stmt := top 55
abbrev s_Lstate : Stmt := top 57
abbrev s_Ldraw : Stmt := top 58
abbrev s_Lone : Stmt := top 59
abbrev s_Lsaid : Stmt := top 60
abbrev s_Lwords : Stmt := top 61
abbrev s_Lcall : Stmt := top 62
abbrev s_Lcall_right : Stmt := top 63
abbrev s_law : Stmt := top 64
def d_TreeError_init : He.DefD := ⟨("TreeError", some "__init__"), "__init__", "TreeError.__init__", defArgs s_TreeError_init, defBody s_TreeError_init, defScope s_TreeError_init, [.str ""], []⟩
def d_BadValue_init : He.DefD := ⟨("BadValue", some "__init__"), "__init__", "BadValue.__init__", defArgs s_BadValue_init, defBody s_BadValue_init, defScope s_BadValue_init, [.str ""], []⟩
def d_NotPath_init : He.DefD := ⟨("NotPath", some "__init__"), "__init__", "NotPath.__init__", defArgs s_NotPath_init, defBody s_NotPath_init, defScope s_NotPath_init, [], []⟩
def d_is_blank : He.DefD := ⟨("is_blank", none), "is_blank", "is_blank", defArgs s_is_blank, defBody s_is_blank, defScope s_is_blank, [], []⟩
def d_is_sign : He.DefD := ⟨("is_sign", none), "is_sign", "is_sign", defArgs s_is_sign, defBody s_is_sign, defScope s_is_sign, [], []⟩
def d_begins_word : He.DefD := ⟨("begins_word", none), "begins_word", "begins_word", defArgs s_begins_word, defBody s_begins_word, defScope s_begins_word, [], []⟩
def d_goes_on_in_word : He.DefD := ⟨("goes_on_in_word", none), "goes_on_in_word", "goes_on_in_word", defArgs s_goes_on_in_word, defBody s_goes_on_in_word, defScope s_goes_on_in_word, [], []⟩
def d_tokens_in : He.DefD := ⟨("tokens_in", none), "tokens_in", "tokens_in", defArgs s_tokens_in, defBody s_tokens_in, defScope s_tokens_in, [], []⟩
def d_end_of_blanks : He.DefD := ⟨("end_of_blanks", none), "end_of_blanks", "end_of_blanks", defArgs s_end_of_blanks, defBody s_end_of_blanks, defScope s_end_of_blanks, [], []⟩
def d_token_at : He.DefD := ⟨("token_at", none), "token_at", "token_at", defArgs s_token_at, defBody s_token_at, defScope s_token_at, [], []⟩
def d_is_digit : He.DefD := ⟨("is_digit", none), "is_digit", "is_digit", defArgs s_is_digit, defBody s_is_digit, defScope s_is_digit, [], []⟩
def d_end_of_name : He.DefD := ⟨("end_of_name", none), "end_of_name", "end_of_name", defArgs s_end_of_name, defBody s_end_of_name, defScope s_end_of_name, [], []⟩
def d_end_of_word : He.DefD := ⟨("end_of_word", none), "end_of_word", "end_of_word", defArgs s_end_of_word, defBody s_end_of_word, defScope s_end_of_word, [], []⟩
def d_end_of_digits : He.DefD := ⟨("end_of_digits", none), "end_of_digits", "end_of_digits", defArgs s_end_of_digits, defBody s_end_of_digits, defScope s_end_of_digits, [], []⟩
def d_end_of_number : He.DefD := ⟨("end_of_number", none), "end_of_number", "end_of_number", defArgs s_end_of_number, defBody s_end_of_number, defScope s_end_of_number, [], []⟩
def d_quoted_token : He.DefD := ⟨("quoted_token", none), "quoted_token", "quoted_token", defArgs s_quoted_token, defBody s_quoted_token, defScope s_quoted_token, [], []⟩
def d_PathReader_init : He.DefD := ⟨("PathReader", some "__init__"), "__init__", "PathReader.__init__", defArgs s_PathReader_init, defBody s_PathReader_init, defScope s_PathReader_init, [], []⟩
def d_PathReader_peek : He.DefD := ⟨("PathReader", some "peek"), "peek", "PathReader.peek", defArgs s_PathReader_peek, defBody s_PathReader_peek, defScope s_PathReader_peek, [], []⟩
def d_PathReader_peek_behind : He.DefD := ⟨("PathReader", some "peek_behind"), "peek_behind", "PathReader.peek_behind", defArgs s_PathReader_peek_behind, defBody s_PathReader_peek_behind, defScope s_PathReader_peek_behind, [], []⟩
def d_PathReader_has_sign : He.DefD := ⟨("PathReader", some "has_sign"), "has_sign", "PathReader.has_sign", defArgs s_PathReader_has_sign, defBody s_PathReader_has_sign, defScope s_PathReader_has_sign, [], []⟩
def d_PathReader_take : He.DefD := ⟨("PathReader", some "take"), "take", "PathReader.take", defArgs s_PathReader_take, defBody s_PathReader_take, defScope s_PathReader_take, [], []⟩
def d_PathReader_read_path : He.DefD := ⟨("PathReader", some "read_path"), "read_path", "PathReader.read_path", defArgs s_PathReader_read_path, defBody s_PathReader_read_path, defScope s_PathReader_read_path, [], []⟩
def d_PathReader_read_expression : He.DefD := ⟨("PathReader", some "read_expression"), "read_expression", "PathReader.read_expression", defArgs s_PathReader_read_expression, defBody s_PathReader_read_expression, defScope s_PathReader_read_expression, [], []⟩
def d_PathReader_read_operator : He.DefD := ⟨("PathReader", some "read_operator"), "read_operator", "PathReader.read_operator", defArgs s_PathReader_read_operator, defBody s_PathReader_read_operator, defScope s_PathReader_read_operator, [], []⟩
def d_PathReader_end_behind_operand : He.DefD := ⟨("PathReader", some "end_behind_operand"), "end_behind_operand", "PathReader.end_behind_operand", defArgs s_PathReader_end_behind_operand, defBody s_PathReader_end_behind_operand, defScope s_PathReader_end_behind_operand, [], []⟩
def d_PathReader_expect_behind_operand : He.DefD := ⟨("PathReader", some "expect_behind_operand"), "expect_behind_operand", "PathReader.expect_behind_operand", defArgs s_PathReader_expect_behind_operand, defBody s_PathReader_expect_behind_operand, defScope s_PathReader_expect_behind_operand, [], []⟩
def d_PathReader_expect : He.DefD := ⟨("PathReader", some "expect"), "expect", "PathReader.expect", defArgs s_PathReader_expect, defBody s_PathReader_expect, defScope s_PathReader_expect, [], []⟩
def d_PathReader_read_operand : He.DefD := ⟨("PathReader", some "read_operand"), "read_operand", "PathReader.read_operand", defArgs s_PathReader_read_operand, defBody s_PathReader_read_operand, defScope s_PathReader_read_operand, [], []⟩
def d_PathReader_read_literal : He.DefD := ⟨("PathReader", some "read_literal"), "read_literal", "PathReader.read_literal", defArgs s_PathReader_read_literal, defBody s_PathReader_read_literal, defScope s_PathReader_read_literal, [], []⟩
def d_PathReader_text_of_literal : He.DefD := ⟨("PathReader", some "text_of_literal"), "text_of_literal", "PathReader.text_of_literal", defArgs s_PathReader_text_of_literal, defBody s_PathReader_text_of_literal, defScope s_PathReader_text_of_literal, [], []⟩
def d_PathReader_read_variable : He.DefD := ⟨("PathReader", some "read_variable"), "read_variable", "PathReader.read_variable", defArgs s_PathReader_read_variable, defBody s_PathReader_read_variable, defScope s_PathReader_read_variable, [], []⟩
def d_PathReader_is_call : He.DefD := ⟨("PathReader", some "is_call"), "is_call", "PathReader.is_call", defArgs s_PathReader_is_call, defBody s_PathReader_is_call, defScope s_PathReader_is_call, [], []⟩
def d_PathReader_read_call : He.DefD := ⟨("PathReader", some "read_call"), "read_call", "PathReader.read_call", defArgs s_PathReader_read_call, defBody s_PathReader_read_call, defScope s_PathReader_read_call, [], []⟩
def d_PathReader_read_behind : He.DefD := ⟨("PathReader", some "read_behind"), "read_behind", "PathReader.read_behind", defArgs s_PathReader_read_behind, defBody s_PathReader_read_behind, defScope s_PathReader_read_behind, [], []⟩
def d_PathReader_read_slash : He.DefD := ⟨("PathReader", some "read_slash"), "read_slash", "PathReader.read_slash", defArgs s_PathReader_read_slash, defBody s_PathReader_read_slash, defScope s_PathReader_read_slash, [], []⟩
def d_PathReader_read_rooted : He.DefD := ⟨("PathReader", some "read_rooted"), "read_rooted", "PathReader.read_rooted", defArgs s_PathReader_read_rooted, defBody s_PathReader_read_rooted, defScope s_PathReader_read_rooted, [], []⟩
def d_PathReader_begins_step : He.DefD := ⟨("PathReader", some "begins_step"), "begins_step", "PathReader.begins_step", defArgs s_PathReader_begins_step, defBody s_PathReader_begins_step, defScope s_PathReader_begins_step, [], []⟩
def d_PathReader_read_steps : He.DefD := ⟨("PathReader", some "read_steps"), "read_steps", "PathReader.read_steps", defArgs s_PathReader_read_steps, defBody s_PathReader_read_steps, defScope s_PathReader_read_steps, [], []⟩
def d_PathReader_read_step : He.DefD := ⟨("PathReader", some "read_step"), "read_step", "PathReader.read_step", defArgs s_PathReader_read_step, defBody s_PathReader_read_step, defScope s_PathReader_read_step, [], []⟩
def d_PathReader_read_axis : He.DefD := ⟨("PathReader", some "read_axis"), "read_axis", "PathReader.read_axis", defArgs s_PathReader_read_axis, defBody s_PathReader_read_axis, defScope s_PathReader_read_axis, [], []⟩
def d_PathReader_read_test : He.DefD := ⟨("PathReader", some "read_test"), "read_test", "PathReader.read_test", defArgs s_PathReader_read_test, defBody s_PathReader_read_test, defScope s_PathReader_read_test, [], []⟩
def d_PathReader_read_kind : He.DefD := ⟨("PathReader", some "read_kind"), "read_kind", "PathReader.read_kind", defArgs s_PathReader_read_kind, defBody s_PathReader_read_kind, defScope s_PathReader_read_kind, [], []⟩
def d_PathReader_check_colon : He.DefD := ⟨("PathReader", some "check_colon"), "check_colon", "PathReader.check_colon", defArgs s_PathReader_check_colon, defBody s_PathReader_check_colon, defScope s_PathReader_check_colon, [], []⟩
def d_PathReader_read_predicates : He.DefD := ⟨("PathReader", some "read_predicates"), "read_predicates", "PathReader.read_predicates", defArgs s_PathReader_read_predicates, defBody s_PathReader_read_predicates, defScope s_PathReader_read_predicates, [], []⟩
def d_OperatorRow_init : He.DefD := ⟨("OperatorRow", some "__init__"), "__init__", "OperatorRow.__init__", defArgs s_OperatorRow_init, defBody s_OperatorRow_init, defScope s_OperatorRow_init, [], []⟩
def d_OperatorRow_ends_with : He.DefD := ⟨("OperatorRow", some "ends_with"), "ends_with", "OperatorRow.ends_with", defArgs s_OperatorRow_ends_with, defBody s_OperatorRow_ends_with, defScope s_OperatorRow_ends_with, [], []⟩
def d_OperatorRow_put_minus : He.DefD := ⟨("OperatorRow", some "put_minus"), "put_minus", "OperatorRow.put_minus", defArgs s_OperatorRow_put_minus, defBody s_OperatorRow_put_minus, defScope s_OperatorRow_put_minus, [], []⟩
def d_OperatorRow_put_operand : He.DefD := ⟨("OperatorRow", some "put_operand"), "put_operand", "OperatorRow.put_operand", defArgs s_OperatorRow_put_operand, defBody s_OperatorRow_put_operand, defScope s_OperatorRow_put_operand, [], []⟩
def d_OperatorRow_put_operator : He.DefD := ⟨("OperatorRow", some "put_operator"), "put_operator", "OperatorRow.put_operator", defArgs s_OperatorRow_put_operator, defBody s_OperatorRow_put_operator, defScope s_OperatorRow_put_operator, [], []⟩
def d_OperatorRow_bind : He.DefD := ⟨("OperatorRow", some "bind"), "bind", "OperatorRow.bind", defArgs s_OperatorRow_bind, defBody s_OperatorRow_bind, defScope s_OperatorRow_bind, [], []⟩
def d_OperatorRow_finished : He.DefD := ⟨("OperatorRow", some "finished"), "finished", "OperatorRow.finished", defArgs s_OperatorRow_finished, defBody s_OperatorRow_finished, defScope s_OperatorRow_finished, [], []⟩
def d_common_length : He.DefD := ⟨("common_length", none), "common_length", "common_length", defArgs s_common_length, defBody s_common_length, defScope s_common_length, [], []⟩
def d_shortest_number : He.DefD := ⟨("shortest_number", none), "shortest_number", "shortest_number", defArgs s_shortest_number, defBody s_shortest_number, defScope s_shortest_number, [], []⟩
def d_path_text : He.DefD := ⟨("path_text", none), "path_text", "path_text", defArgs s_path_text, defBody s_path_text, defScope s_path_text, [], []⟩
def d_tokens : He.DefD := ⟨("tokens", none), "tokens", "tokens", defArgs s_tokens, defBody s_tokens, defScope s_tokens, [], []⟩
def d_tree_of : He.DefD := ⟨("tree_of", none), "tree_of", "tree_of", defArgs s_tree_of, defBody s_tree_of, defScope s_tree_of, [], []⟩
def d_canonical : He.DefD := ⟨("canonical", none), "canonical", "canonical", defArgs s_canonical, defBody s_canonical, defScope s_canonical, [], []⟩
def d_abbreviated : He.DefD := ⟨("abbreviated", none), "abbreviated", "abbreviated", defArgs s_abbreviated, defBody s_abbreviated, defScope s_abbreviated, [], []⟩
def d_Lstate : He.DefD := ⟨("_law_state", none), "_law_state", "_law_state", defArgs s_Lstate, defBody s_Lstate, defScope s_Lstate, [], []⟩
def d_Ldraw : He.DefD := ⟨("_law_draw", none), "_law_draw", "_law_draw", defArgs s_Ldraw, defBody s_Ldraw, defScope s_Ldraw, [], []⟩
def d_Lone : He.DefD := ⟨("_law_one", none), "_law_one", "_law_one", defArgs s_Lone, defBody s_Lone, defScope s_Lone, [], []⟩
def d_Lsaid : He.DefD := ⟨("_law_said", none), "_law_said", "_law_said", defArgs s_Lsaid, defBody s_Lsaid, defScope s_Lsaid, [], []⟩
def d_Lwords : He.DefD := ⟨("_law_words", none), "_law_words", "_law_words", defArgs s_Lwords, defBody s_Lwords, defScope s_Lwords, [], []⟩
def d_Lcall : He.DefD := ⟨("_law_call", none), "_law_call", "_law_call", defArgs s_Lcall, defBody s_Lcall, defScope s_Lcall, [], []⟩
def d_Lcall_right : He.DefD := ⟨("_law_call_right", none), "_law_call_right", "_law_call_right", defArgs s_Lcall_right, defBody s_Lcall_right, defScope s_Lcall_right, [], []⟩
def d_law : He.DefD := ⟨("law", none), "law", "law", defArgs s_law, defBody s_law, defScope s_law, [], []⟩
def fn : List He.DefD := [d_TreeError_init, d_BadValue_init, d_NotPath_init, d_is_blank, d_is_sign, d_begins_word, d_goes_on_in_word, d_tokens_in, d_end_of_blanks, d_token_at, d_is_digit, d_end_of_name, d_end_of_word, d_end_of_digits, d_end_of_number, d_quoted_token, d_PathReader_init, d_PathReader_peek, d_PathReader_peek_behind, d_PathReader_has_sign, d_PathReader_take, d_PathReader_read_path, d_PathReader_read_expression, d_PathReader_read_operator, d_PathReader_end_behind_operand, d_PathReader_expect_behind_operand, d_PathReader_expect, d_PathReader_read_operand, d_PathReader_read_literal, d_PathReader_text_of_literal, d_PathReader_read_variable, d_PathReader_is_call, d_PathReader_read_call, d_PathReader_read_behind, d_PathReader_read_slash, d_PathReader_read_rooted, d_PathReader_begins_step, d_PathReader_read_steps, d_PathReader_read_step, d_PathReader_read_axis, d_PathReader_read_test, d_PathReader_read_kind, d_PathReader_check_colon, d_PathReader_read_predicates, d_OperatorRow_init, d_OperatorRow_ends_with, d_OperatorRow_put_minus, d_OperatorRow_put_operand, d_OperatorRow_put_operator, d_OperatorRow_bind, d_OperatorRow_finished, d_common_length, d_shortest_number, d_path_text, d_tokens, d_tree_of, d_canonical, d_abbreviated, d_Lstate, d_Ldraw, d_Lone, d_Lsaid, d_Lwords, d_Lcall, d_Lcall_right, d_law]
def fa : List He.Fa := [.glo "TreeError", .glo "BadValue", .glo "NotPath", .glo "is_operation", .glo "is_blank", .glo "is_sign", .glo "begins_word", .glo "goes_on_in_word", .glo "tokens_in", .glo "end_of_blanks", .glo "token_at", .glo "is_digit", .glo "end_of_name", .glo "end_of_word", .glo "end_of_digits", .glo "end_of_number", .glo "quoted_token", .glo "PathReader", .glo "OperatorRow", .glo "common_length", .glo "shortest_number", .glo "path_text", .glo "binary_text", .glo "bracketed", .glo "needs_brackets", .glo "operand_text", .glo "primary_text", .glo "quoted", .glo "predicates_text", .glo "location_text", .glo "steps_text", .glo "step_text", .glo "test_text", .glo "tokens", .glo "tree_of", .glo "canonical", .glo "abbreviated", .glo "_law_state", .glo "_law_draw", .glo "_law_one", .glo "_law_said", .glo "_law_words", .glo "_law_call", .glo "_law_call_right", .glo "law", .glo "SIGNS", .glo "RANKS", .glo "OPERATOR_WORDS", .glo "OPERATOR_SIGNS", .glo "AXES", .glo "KINDS", .glo "KIND_WORDS", .glo "FUNCTIONS", .glo "ANYTHING_BELOW", .glo "HERE", .glo "ABOVE", .free "isinstance", .free "len", .free "min", .free "max", .free "tuple", .free "range", .free "int", .free "str", .free "abs", .str "DIGITS" "0123456789", .cls "PathReader", .mkr "PathReader", .noat "PathReader" "text", .noat "PathReader" "closed", .noat "PathReader" "tokens", .noat "PathReader" "at", .meth "PathReader" "peek", .meth "PathReader" "peek_behind", .meth "PathReader" "has_sign", .meth "PathReader" "take", .meth "PathReader" "read_path", .meth "PathReader" "read_expression", .meth "PathReader" "read_operator", .meth "PathReader" "end_behind_operand", .meth "PathReader" "expect_behind_operand", .meth "PathReader" "expect", .meth "PathReader" "read_operand", .meth "PathReader" "read_literal", .meth "PathReader" "text_of_literal", .meth "PathReader" "read_variable", .meth "PathReader" "is_call", .meth "PathReader" "read_call", .meth "PathReader" "read_behind", .meth "PathReader" "read_slash", .meth "PathReader" "read_rooted", .meth "PathReader" "begins_step", .meth "PathReader" "read_steps", .meth "PathReader" "read_step", .meth "PathReader" "read_axis", .meth "PathReader" "read_test", .meth "PathReader" "read_kind", .meth "PathReader" "check_colon", .meth "PathReader" "read_predicates", .cls "OperatorRow", .mkr "OperatorRow", .noat "OperatorRow" "operands", .noat "OperatorRow" "waiting", .meth "OperatorRow" "ends_with", .meth "OperatorRow" "put_minus", .meth "OperatorRow" "put_operand", .meth "OperatorRow" "put_operator", .meth "OperatorRow" "bind", .meth "OperatorRow" "finished", .exm "BadValue" "BadValue" true, .exm "NotPath" "NotPath" true, .exm "BadValue" "TreeError" true, .exm "NotPath" "TreeError" true, .noat "BadValue" "why", .noat "NotPath" "why", .noat "NotPath" "at", .noat "TreeError" "why"]
def signsL : List Str := ["::", "//", "..", "!=", "<=", ">=", "/", ".", "@", "$", "*", "|", "+", "-", "=", "<", ">", "(", ")", "[", "]", ","]
def opWordsL : List Str := ["and", "or", "div", "mod"]
def opSignsL : List Str := ["=", "!=", "<", "<=", ">", ">=", "+", "-", "*", "|"]
def axesL : List Str := ["ancestor", "ancestor-or-self", "attribute", "child", "descendant", "descendant-or-self", "following", "following-sibling", "namespace", "parent", "preceding", "preceding-sibling", "self"]
def ranksKvs : List (Str × He.Dv) := [("or", .int 1), ("and", .int 2), ("=", .int 3), ("!=", .int 3), ("<", .int 4), ("<=", .int 4), (">", .int 4), (">=", .int 4), ("+", .int 5), ("-", .int 5), ("*", .int 6), ("div", .int 6), ("mod", .int 6), ("neg", .int 7), ("union", .int 8)]
def ranksKeys : List Str := ["or", "and", "=", "!=", "<", "<=", ">", ">=", "+", "-", "*", "div", "mod", "neg", "union"]
def kindsKvs : List (Str × He.Dv) := [("node", .str "node"), ("text", .str "text"), ("comment", .str "comment"), ("processing-instruction", .str "instruction")]
def kindsKeys : List Str := ["node", "text", "comment", "processing-instruction"]
def funKeys : List Str := ["current", "false", "last", "position", "true", "generate-id", "local-name", "name", "normalize-space", "number", "string", "string-length", "boolean", "ceiling", "count", "document", "floor", "id", "not", "round", "sum", "contains", "key", "starts-with", "substring-after", "substring-before", "substring", "translate", "concat"]
def funKvs : List (Str × (Int × Option Int)) := [("current", (0, some 0)), ("false", (0, some 0)), ("last", (0, some 0)), ("position", (0, some 0)), ("true", (0, some 0)), ("generate-id", (0, some 1)), ("local-name", (0, some 1)), ("name", (0, some 1)), ("normalize-space", (0, some 1)), ("number", (0, some 1)), ("string", (0, some 1)), ("string-length", (0, some 1)), ("boolean", (1, some 1)), ("ceiling", (1, some 1)), ("count", (1, some 1)), ("document", (1, some 1)), ("floor", (1, some 1)), ("id", (1, some 1)), ("not", (1, some 1)), ("round", (1, some 1)), ("sum", (1, some 1)), ("contains", (2, some 2)), ("key", (2, some 2)), ("starts-with", (2, some 2)), ("substring-after", (2, some 2)), ("substring-before", (2, some 2)), ("substring", (2, some 3)), ("translate", (3, some 3)), ("concat", (2, none))]
def ts : List He.Tab := [(fun K => He.ga K "RANKS", ranksKeys), (fun K => He.ga K "KINDS", kindsKeys), (fun K => He.ga K "FUNCTIONS", funKeys)]
/-! ### what more the top must have left -/
def oexB (K : PySem.W.Frag) (x : Str) : Bool := (match K.lookup (He.ga K x) with
  | some ⟨.type c, _, .cls cd, sl⟩ => decide (c = "type") && (match cd.mro, sl.toList with
    | .ref C' :: bm, [_, _, _, _, some (.builtin n), _] => decide (C' = He.ga K x) && (decide (n = "ValueError.__new__") && (!cd.hasDel && (cd.hasDict && PySem.HandSPX.refsVE bm)))
    | _, _ => false)
  | _ => false) && (decide (PySem.W.findIn K (.ref (He.ga K x)) "__setattr__" = some (some (.builtin "object.__setattr__"))) && (decide (PySem.W.subIn K (.ref (He.ga K x)) (.type "BaseException") = some true) &&
  (decide (PySem.W.typeIn K (.ref (He.ga K x)) = some (.type "type")) && (PySem.W.keepIn K (.ref (He.ga K x)) && xfB K (He.ga K x)))))
def initB (K : PySem.W.Frag) (x : Str) : Bool := decide (PySem.W.findIn K (.ref (He.ga K x)) "__init__" = some (some (.ref (He.ma K (He.ga K x) "__init__")))) && decide (PySem.W.typeIn K (.ref (He.ma K (He.ga K x) "__init__")) = some (.type "function"))
def baseB (K : PySem.W.Frag) : Bool := (match PySem.W.findCls K (.ref (He.ga K "TreeError")) (.type "type") "__init__" with
  | some (.val (.ref f)) => decide (f = He.ma K (He.ga K "TreeError") "__init__")
  | _ => false) && (PySem.W.readsIn K (He.ga K "TreeError") (.type "type") && decide (PySem.W.specialIn K (.ref (He.ga K "TreeError")) "__getattribute__" = some (some (.builtin "type.__getattribute__"))))
def nbB (K : PySem.W.Frag) : Bool := match List.lookup cStatics K with
  | some o => (match o.data with
    | .dict es _ => es.toList.all (fun e => match e.key with | .str _ _ => true | _ => false) && (nsFind es sharingNotToldKey).isNone
    | _ => false)
  | none => false
/-- a tuple that the head made: its items -/
def tupB (K : PySem.W.Frag) (a : Addr) (vs : List He.Dv) : Bool := match K.lookup a with
  | some ⟨c, _, .seq us _, _⟩ => (match c with | .type n => decide (n = "tuple") | _ => false) && (decide (us.size = vs.length) && (us.toList.zip vs).all fun q => He.relB (q.2.v K) q.1)
  | _ => false
def strsB (K : PySem.W.Frag) (x : Str) (l : List Str) : Bool := tupB K (He.ga K x) (l.map .str)
def optD : Option Int → He.Dv
  | none => .non
  | some i => .int i
def funB (K : PySem.W.Frag) (a : Addr) : Bool := funKvs.all fun q => match PySem.W.nsIn K a q.1 with
  | some (some (.ref u)) => tupB K u [.int q.2.1, optD q.2.2]
  | _ => false
def excB (K : PySem.W.Frag) (D : Addr) : Bool := decide (PySem.W.findIn K (.ref D) "__getattribute__" = some (some (.builtin "BaseException.__getattribute__"))) && (decide (PySem.W.findIn K (.ref D) "__getattr__" = some none) && (decide (PySem.W.subIn K (.ref D) (.type "BaseException") = some true) && (PySem.W.hasDictIn K D &&
  (decide (PySem.W.findIn K (.ref D) "__class__" = some (some (.builtin "object.__class__"))) && (decide (PySem.W.specialIn K (.builtin "object.__class__") "__get__" = some (some (.builtin "getset_descriptor.__get__"))) && (decide (PySem.W.takesIn K (.builtin "object.__class__") = some true) && decide (PySem.W.mroIn K D (.type "object") = some true)))))))
def isB (K : PySem.W.Frag) : Bool := excB K (He.ga K "BadValue") && (excB K (He.ga K "NotPath") && (decide (PySem.W.kitOne K (.ref (He.ga K "BadValue")) (.ref (He.ga K "BadValue")) = some true) && (decide (PySem.W.kitOne K (.ref (He.ga K "NotPath")) (.ref (He.ga K "BadValue")) = some false) && (decide (PySem.W.kitOne K (.ref (He.ga K "NotPath")) (.ref (He.ga K "NotPath")) = some true) && decide (PySem.W.kitOne K (.ref (He.ga K "BadValue")) (.type "str") = some false)))))
def ex (K : PySem.W.Frag) : Bool := oexB K "BadValue" && (oexB K "NotPath" && (initB K "BadValue" && (initB K "NotPath" && (baseB K && (He.valsB K (He.ga K "RANKS") ranksKvs && (He.valsB K (He.ga K "KINDS") kindsKvs && (funB K (He.ga K "FUNCTIONS") && (strsB K "SIGNS" signsL && (strsB K "OPERATOR_WORDS" opWordsL && (strsB K "OPERATOR_SIGNS" opSignsL && (strsB K "AXES" axesL && (nbB K && isB K))))))))))))
end K20
/-! K20Head -/
namespace K20
open PySem PySem.Spec PyProof.Rows L2
abbrev R : PySem.W.OpenRow := PySem.W.OpenLaw.row PySem.Challenge.rw_pathloom_k20_what_is_no_text_and_no_call
/-! ### the Hook: what the head is asked for, the statics' names among what is looked at -/
abbrev AlM : Type := He.AlT × Bool
def asM (g : Addr → Option Obj) (n : Nat) : List Addr := cStatics :: He.asD g n
def obsM (n : Nat) (g : Addr → Option Obj) : AlM := (He.obsT fa fn ts (He.frG g (asM g n)), ex (He.frG g (asM g n)))
def hk : PySem.W.Hook where
  α := AlM
  obs := fun s => obsM 4 s.heap.get?
  val := fun w => (He.valT fn ts w, true)
  says := fun w h => ∃ K : PySem.W.Frag, K.In h ∧ He.SaysT fa fn ts w K ∧ ex K = true
  of := fun _ _ e => ⟨_, He.frG_in, congrArg (fun z : AlM => z.1) e, congrArg (fun z : AlM => z.2) e⟩
  keeps := fun _ _ _ ⟨K, hK, c⟩ k => ⟨K, PySem.W.Frag.In.keeps hK k, c⟩
def ob (s : PySem.W.SharedT) : AlM := obsM 4 (HandSHeadRun.getT s)
theorem ob_eq (s : PySem.W.SharedT) : ob s = hk.obs s.abs := by
  have e : HandSHeadRun.getT s = s.abs.heap.get? := funext (HandSHeadRun.getT_eq s)
  show obsM 4 (HandSHeadRun.getT s) = obsM 4 s.abs.heap.get?
  rw [e]
def names1 : List PySem.Str := ["TreeError", "BadValue", "NotPath", "is_operation", "is_blank", "is_sign", "begins_word", "goes_on_in_word", "tokens_in", "end_of_blanks", "token_at", "is_digit", "end_of_name", "end_of_word", "end_of_digits", "end_of_number", "quoted_token", "PathReader", "OperatorRow", "common_length"]
def names2 : List PySem.Str := ["shortest_number", "path_text", "binary_text", "bracketed", "needs_brackets", "operand_text", "primary_text", "quoted", "predicates_text", "location_text", "steps_text", "step_text", "test_text", "tokens", "tree_of", "canonical", "abbreviated", "_law_state", "_law_draw", "_law_one"]
def names3 : List PySem.Str := ["_law_said", "_law_words", "_law_call", "_law_call_right", "SIGNS", "RANKS", "OPERATOR_WORDS", "OPERATOR_SIGNS", "AXES", "KINDS", "KIND_WORDS", "FUNCTIONS", "ANYTHING_BELOW", "HERE", "ABOVE", "DIGITS"]
def names : List PySem.Str := names1 ++ (names2 ++ names3)
theorem hrA (w : World) : HandSHeadRun.RunEq R (PySem.W.view R.prog [64]) hk ob 40000 names (w.withFollow "special-get-raises" false) := by
  intro os
  kernel_rfl
theorem hrB (w : World) : HandSHeadRun.RunEq R (PySem.W.view R.prog [64]) hk ob 40000 names (w.withFollow "special-get-raises" true) := by
  intro os
  kernel_rfl
theorem headRun (w : World) : HandSHeadRun.RunEq R (PySem.W.view R.prog [64]) hk ob 40000 names w :=
  PySem.W.byRow2 "special-get-raises" (P := fun w => HandSHeadRun.RunEq R (PySem.W.view R.prog [64]) hk ob 40000 names w) hrA hrB w
end K20
/-! K20Base -/
namespace K20
open PySem PySem.Spec PyProof.Rows L2
/-! ### what the head has left -/
structure Tx (w : World) (K : PySem.W.Frag) (mg : Str → Option Value) : Prop where
  c : He.SaysD fa fn K
  kin : ∃ h : Heap, K.In h ∧ h.Ns mainGlobals mg
  tabR : He.dicW K (He.ga K "RANKS") = some (He.keysIn w.params ranksKeys)
  tabK : He.dicW K (He.ga K "KINDS") = some (He.keysIn w.params kindsKeys)
  tabF : He.dicW K (He.ga K "FUNCTIONS") = some (He.keysIn w.params funKeys)
  more : ex K = true
abbrev FnP (K : PySem.W.Frag) (d : He.DefD) (fd : FuncData) : Prop := FunD K d.name d.qual d.params d.body d.scope (d.dvs K) (d.kws K) (He.fAd K d.at_) fd
section
variable {w : World} {K : PySem.W.Frag} {mg : Str → Option Value}

theorem g_TreeError (T : Tx w K mg) : mg "TreeError" = some (.ref (He.ga K "TreeError")) := by
  obtain ⟨h, X, G⟩ := T.kin
  exact He.glo_ok X G (T.c.fact 0 (f := .glo "TreeError") rfl)
theorem g_BadValue (T : Tx w K mg) : mg "BadValue" = some (.ref (He.ga K "BadValue")) := by
  obtain ⟨h, X, G⟩ := T.kin
  exact He.glo_ok X G (T.c.fact 1 (f := .glo "BadValue") rfl)
theorem g_NotPath (T : Tx w K mg) : mg "NotPath" = some (.ref (He.ga K "NotPath")) := by
  obtain ⟨h, X, G⟩ := T.kin
  exact He.glo_ok X G (T.c.fact 2 (f := .glo "NotPath") rfl)
theorem g_is_operation (T : Tx w K mg) : mg "is_operation" = some (.ref (He.ga K "is_operation")) := by
  obtain ⟨h, X, G⟩ := T.kin
  exact He.glo_ok X G (T.c.fact 3 (f := .glo "is_operation") rfl)
theorem g_is_blank (T : Tx w K mg) : mg "is_blank" = some (.ref (He.ga K "is_blank")) := by
  obtain ⟨h, X, G⟩ := T.kin
  exact He.glo_ok X G (T.c.fact 4 (f := .glo "is_blank") rfl)
theorem g_is_sign (T : Tx w K mg) : mg "is_sign" = some (.ref (He.ga K "is_sign")) := by
  obtain ⟨h, X, G⟩ := T.kin
  exact He.glo_ok X G (T.c.fact 5 (f := .glo "is_sign") rfl)
theorem g_begins_word (T : Tx w K mg) : mg "begins_word" = some (.ref (He.ga K "begins_word")) := by
  obtain ⟨h, X, G⟩ := T.kin
  exact He.glo_ok X G (T.c.fact 6 (f := .glo "begins_word") rfl)
theorem g_goes_on_in_word (T : Tx w K mg) : mg "goes_on_in_word" = some (.ref (He.ga K "goes_on_in_word")) := by
  obtain ⟨h, X, G⟩ := T.kin
  exact He.glo_ok X G (T.c.fact 7 (f := .glo "goes_on_in_word") rfl)
theorem g_tokens_in (T : Tx w K mg) : mg "tokens_in" = some (.ref (He.ga K "tokens_in")) := by
  obtain ⟨h, X, G⟩ := T.kin
  exact He.glo_ok X G (T.c.fact 8 (f := .glo "tokens_in") rfl)
theorem g_end_of_blanks (T : Tx w K mg) : mg "end_of_blanks" = some (.ref (He.ga K "end_of_blanks")) := by
  obtain ⟨h, X, G⟩ := T.kin
  exact He.glo_ok X G (T.c.fact 9 (f := .glo "end_of_blanks") rfl)
theorem g_token_at (T : Tx w K mg) : mg "token_at" = some (.ref (He.ga K "token_at")) := by
  obtain ⟨h, X, G⟩ := T.kin
  exact He.glo_ok X G (T.c.fact 10 (f := .glo "token_at") rfl)
theorem g_is_digit (T : Tx w K mg) : mg "is_digit" = some (.ref (He.ga K "is_digit")) := by
  obtain ⟨h, X, G⟩ := T.kin
  exact He.glo_ok X G (T.c.fact 11 (f := .glo "is_digit") rfl)
theorem g_end_of_name (T : Tx w K mg) : mg "end_of_name" = some (.ref (He.ga K "end_of_name")) := by
  obtain ⟨h, X, G⟩ := T.kin
  exact He.glo_ok X G (T.c.fact 12 (f := .glo "end_of_name") rfl)
theorem g_end_of_word (T : Tx w K mg) : mg "end_of_word" = some (.ref (He.ga K "end_of_word")) := by
  obtain ⟨h, X, G⟩ := T.kin
  exact He.glo_ok X G (T.c.fact 13 (f := .glo "end_of_word") rfl)
theorem g_end_of_digits (T : Tx w K mg) : mg "end_of_digits" = some (.ref (He.ga K "end_of_digits")) := by
  obtain ⟨h, X, G⟩ := T.kin
  exact He.glo_ok X G (T.c.fact 14 (f := .glo "end_of_digits") rfl)
theorem g_end_of_number (T : Tx w K mg) : mg "end_of_number" = some (.ref (He.ga K "end_of_number")) := by
  obtain ⟨h, X, G⟩ := T.kin
  exact He.glo_ok X G (T.c.fact 15 (f := .glo "end_of_number") rfl)
theorem g_quoted_token (T : Tx w K mg) : mg "quoted_token" = some (.ref (He.ga K "quoted_token")) := by
  obtain ⟨h, X, G⟩ := T.kin
  exact He.glo_ok X G (T.c.fact 16 (f := .glo "quoted_token") rfl)
theorem g_PathReader (T : Tx w K mg) : mg "PathReader" = some (.ref (He.ga K "PathReader")) := by
  obtain ⟨h, X, G⟩ := T.kin
  exact He.glo_ok X G (T.c.fact 17 (f := .glo "PathReader") rfl)
theorem g_OperatorRow (T : Tx w K mg) : mg "OperatorRow" = some (.ref (He.ga K "OperatorRow")) := by
  obtain ⟨h, X, G⟩ := T.kin
  exact He.glo_ok X G (T.c.fact 18 (f := .glo "OperatorRow") rfl)
theorem g_common_length (T : Tx w K mg) : mg "common_length" = some (.ref (He.ga K "common_length")) := by
  obtain ⟨h, X, G⟩ := T.kin
  exact He.glo_ok X G (T.c.fact 19 (f := .glo "common_length") rfl)
theorem g_shortest_number (T : Tx w K mg) : mg "shortest_number" = some (.ref (He.ga K "shortest_number")) := by
  obtain ⟨h, X, G⟩ := T.kin
  exact He.glo_ok X G (T.c.fact 20 (f := .glo "shortest_number") rfl)
theorem g_path_text (T : Tx w K mg) : mg "path_text" = some (.ref (He.ga K "path_text")) := by
  obtain ⟨h, X, G⟩ := T.kin
  exact He.glo_ok X G (T.c.fact 21 (f := .glo "path_text") rfl)
theorem g_binary_text (T : Tx w K mg) : mg "binary_text" = some (.ref (He.ga K "binary_text")) := by
  obtain ⟨h, X, G⟩ := T.kin
  exact He.glo_ok X G (T.c.fact 22 (f := .glo "binary_text") rfl)
theorem g_bracketed (T : Tx w K mg) : mg "bracketed" = some (.ref (He.ga K "bracketed")) := by
  obtain ⟨h, X, G⟩ := T.kin
  exact He.glo_ok X G (T.c.fact 23 (f := .glo "bracketed") rfl)
theorem g_needs_brackets (T : Tx w K mg) : mg "needs_brackets" = some (.ref (He.ga K "needs_brackets")) := by
  obtain ⟨h, X, G⟩ := T.kin
  exact He.glo_ok X G (T.c.fact 24 (f := .glo "needs_brackets") rfl)
theorem g_operand_text (T : Tx w K mg) : mg "operand_text" = some (.ref (He.ga K "operand_text")) := by
  obtain ⟨h, X, G⟩ := T.kin
  exact He.glo_ok X G (T.c.fact 25 (f := .glo "operand_text") rfl)
theorem g_primary_text (T : Tx w K mg) : mg "primary_text" = some (.ref (He.ga K "primary_text")) := by
  obtain ⟨h, X, G⟩ := T.kin
  exact He.glo_ok X G (T.c.fact 26 (f := .glo "primary_text") rfl)
theorem g_quoted (T : Tx w K mg) : mg "quoted" = some (.ref (He.ga K "quoted")) := by
  obtain ⟨h, X, G⟩ := T.kin
  exact He.glo_ok X G (T.c.fact 27 (f := .glo "quoted") rfl)
theorem g_predicates_text (T : Tx w K mg) : mg "predicates_text" = some (.ref (He.ga K "predicates_text")) := by
  obtain ⟨h, X, G⟩ := T.kin
  exact He.glo_ok X G (T.c.fact 28 (f := .glo "predicates_text") rfl)
theorem g_location_text (T : Tx w K mg) : mg "location_text" = some (.ref (He.ga K "location_text")) := by
  obtain ⟨h, X, G⟩ := T.kin
  exact He.glo_ok X G (T.c.fact 29 (f := .glo "location_text") rfl)
theorem g_steps_text (T : Tx w K mg) : mg "steps_text" = some (.ref (He.ga K "steps_text")) := by
  obtain ⟨h, X, G⟩ := T.kin
  exact He.glo_ok X G (T.c.fact 30 (f := .glo "steps_text") rfl)
theorem g_step_text (T : Tx w K mg) : mg "step_text" = some (.ref (He.ga K "step_text")) := by
  obtain ⟨h, X, G⟩ := T.kin
  exact He.glo_ok X G (T.c.fact 31 (f := .glo "step_text") rfl)
theorem g_test_text (T : Tx w K mg) : mg "test_text" = some (.ref (He.ga K "test_text")) := by
  obtain ⟨h, X, G⟩ := T.kin
  exact He.glo_ok X G (T.c.fact 32 (f := .glo "test_text") rfl)
theorem g_tokens (T : Tx w K mg) : mg "tokens" = some (.ref (He.ga K "tokens")) := by
  obtain ⟨h, X, G⟩ := T.kin
  exact He.glo_ok X G (T.c.fact 33 (f := .glo "tokens") rfl)
theorem g_tree_of (T : Tx w K mg) : mg "tree_of" = some (.ref (He.ga K "tree_of")) := by
  obtain ⟨h, X, G⟩ := T.kin
  exact He.glo_ok X G (T.c.fact 34 (f := .glo "tree_of") rfl)
theorem g_canonical (T : Tx w K mg) : mg "canonical" = some (.ref (He.ga K "canonical")) := by
  obtain ⟨h, X, G⟩ := T.kin
  exact He.glo_ok X G (T.c.fact 35 (f := .glo "canonical") rfl)
theorem g_abbreviated (T : Tx w K mg) : mg "abbreviated" = some (.ref (He.ga K "abbreviated")) := by
  obtain ⟨h, X, G⟩ := T.kin
  exact He.glo_ok X G (T.c.fact 36 (f := .glo "abbreviated") rfl)
theorem g_Lstate (T : Tx w K mg) : mg "_law_state" = some (.ref (He.ga K "_law_state")) := by
  obtain ⟨h, X, G⟩ := T.kin
  exact He.glo_ok X G (T.c.fact 37 (f := .glo "_law_state") rfl)
theorem g_Ldraw (T : Tx w K mg) : mg "_law_draw" = some (.ref (He.ga K "_law_draw")) := by
  obtain ⟨h, X, G⟩ := T.kin
  exact He.glo_ok X G (T.c.fact 38 (f := .glo "_law_draw") rfl)
theorem g_Lone (T : Tx w K mg) : mg "_law_one" = some (.ref (He.ga K "_law_one")) := by
  obtain ⟨h, X, G⟩ := T.kin
  exact He.glo_ok X G (T.c.fact 39 (f := .glo "_law_one") rfl)
theorem g_Lsaid (T : Tx w K mg) : mg "_law_said" = some (.ref (He.ga K "_law_said")) := by
  obtain ⟨h, X, G⟩ := T.kin
  exact He.glo_ok X G (T.c.fact 40 (f := .glo "_law_said") rfl)
theorem g_Lwords (T : Tx w K mg) : mg "_law_words" = some (.ref (He.ga K "_law_words")) := by
  obtain ⟨h, X, G⟩ := T.kin
  exact He.glo_ok X G (T.c.fact 41 (f := .glo "_law_words") rfl)
theorem g_Lcall (T : Tx w K mg) : mg "_law_call" = some (.ref (He.ga K "_law_call")) := by
  obtain ⟨h, X, G⟩ := T.kin
  exact He.glo_ok X G (T.c.fact 42 (f := .glo "_law_call") rfl)
theorem g_Lcall_right (T : Tx w K mg) : mg "_law_call_right" = some (.ref (He.ga K "_law_call_right")) := by
  obtain ⟨h, X, G⟩ := T.kin
  exact He.glo_ok X G (T.c.fact 43 (f := .glo "_law_call_right") rfl)
theorem g_law (T : Tx w K mg) : mg "law" = some (.ref (He.ga K "law")) := by
  obtain ⟨h, X, G⟩ := T.kin
  exact He.glo_ok X G (T.c.fact 44 (f := .glo "law") rfl)
theorem g_SIGNS (T : Tx w K mg) : mg "SIGNS" = some (.ref (He.ga K "SIGNS")) := by
  obtain ⟨h, X, G⟩ := T.kin
  exact He.glo_ok X G (T.c.fact 45 (f := .glo "SIGNS") rfl)
theorem g_RANKS (T : Tx w K mg) : mg "RANKS" = some (.ref (He.ga K "RANKS")) := by
  obtain ⟨h, X, G⟩ := T.kin
  exact He.glo_ok X G (T.c.fact 46 (f := .glo "RANKS") rfl)
theorem g_OPERATOR_WORDS (T : Tx w K mg) : mg "OPERATOR_WORDS" = some (.ref (He.ga K "OPERATOR_WORDS")) := by
  obtain ⟨h, X, G⟩ := T.kin
  exact He.glo_ok X G (T.c.fact 47 (f := .glo "OPERATOR_WORDS") rfl)
theorem g_OPERATOR_SIGNS (T : Tx w K mg) : mg "OPERATOR_SIGNS" = some (.ref (He.ga K "OPERATOR_SIGNS")) := by
  obtain ⟨h, X, G⟩ := T.kin
  exact He.glo_ok X G (T.c.fact 48 (f := .glo "OPERATOR_SIGNS") rfl)
theorem g_AXES (T : Tx w K mg) : mg "AXES" = some (.ref (He.ga K "AXES")) := by
  obtain ⟨h, X, G⟩ := T.kin
  exact He.glo_ok X G (T.c.fact 49 (f := .glo "AXES") rfl)
theorem g_KINDS (T : Tx w K mg) : mg "KINDS" = some (.ref (He.ga K "KINDS")) := by
  obtain ⟨h, X, G⟩ := T.kin
  exact He.glo_ok X G (T.c.fact 50 (f := .glo "KINDS") rfl)
theorem g_KIND_WORDS (T : Tx w K mg) : mg "KIND_WORDS" = some (.ref (He.ga K "KIND_WORDS")) := by
  obtain ⟨h, X, G⟩ := T.kin
  exact He.glo_ok X G (T.c.fact 51 (f := .glo "KIND_WORDS") rfl)
theorem g_FUNCTIONS (T : Tx w K mg) : mg "FUNCTIONS" = some (.ref (He.ga K "FUNCTIONS")) := by
  obtain ⟨h, X, G⟩ := T.kin
  exact He.glo_ok X G (T.c.fact 52 (f := .glo "FUNCTIONS") rfl)
theorem g_ANYTHING_BELOW (T : Tx w K mg) : mg "ANYTHING_BELOW" = some (.ref (He.ga K "ANYTHING_BELOW")) := by
  obtain ⟨h, X, G⟩ := T.kin
  exact He.glo_ok X G (T.c.fact 53 (f := .glo "ANYTHING_BELOW") rfl)
theorem g_HERE (T : Tx w K mg) : mg "HERE" = some (.ref (He.ga K "HERE")) := by
  obtain ⟨h, X, G⟩ := T.kin
  exact He.glo_ok X G (T.c.fact 54 (f := .glo "HERE") rfl)
theorem g_ABOVE (T : Tx w K mg) : mg "ABOVE" = some (.ref (He.ga K "ABOVE")) := by
  obtain ⟨h, X, G⟩ := T.kin
  exact He.glo_ok X G (T.c.fact 55 (f := .glo "ABOVE") rfl)
theorem n_isinstance (T : Tx w K mg) : mg "isinstance" = none := by
  obtain ⟨h, X, G⟩ := T.kin
  exact He.free_ok X G (T.c.fact 56 (f := .free "isinstance") rfl)
theorem n_len (T : Tx w K mg) : mg "len" = none := by
  obtain ⟨h, X, G⟩ := T.kin
  exact He.free_ok X G (T.c.fact 57 (f := .free "len") rfl)
theorem n_min (T : Tx w K mg) : mg "min" = none := by
  obtain ⟨h, X, G⟩ := T.kin
  exact He.free_ok X G (T.c.fact 58 (f := .free "min") rfl)
theorem n_max (T : Tx w K mg) : mg "max" = none := by
  obtain ⟨h, X, G⟩ := T.kin
  exact He.free_ok X G (T.c.fact 59 (f := .free "max") rfl)
theorem n_tuple (T : Tx w K mg) : mg "tuple" = none := by
  obtain ⟨h, X, G⟩ := T.kin
  exact He.free_ok X G (T.c.fact 60 (f := .free "tuple") rfl)
theorem n_range (T : Tx w K mg) : mg "range" = none := by
  obtain ⟨h, X, G⟩ := T.kin
  exact He.free_ok X G (T.c.fact 61 (f := .free "range") rfl)
theorem n_int (T : Tx w K mg) : mg "int" = none := by
  obtain ⟨h, X, G⟩ := T.kin
  exact He.free_ok X G (T.c.fact 62 (f := .free "int") rfl)
theorem n_str (T : Tx w K mg) : mg "str" = none := by
  obtain ⟨h, X, G⟩ := T.kin
  exact He.free_ok X G (T.c.fact 63 (f := .free "str") rfl)
theorem n_abs (T : Tx w K mg) : mg "abs" = none := by
  obtain ⟨h, X, G⟩ := T.kin
  exact He.free_ok X G (T.c.fact 64 (f := .free "abs") rfl)
theorem c_DIGITS (T : Tx w K mg) : ∃ t, mg "DIGITS" = some (.str "0123456789" t) := by
  obtain ⟨h, X, G⟩ := T.kin
  exact He.str_ok X G (T.c.fact 65 (f := .str "DIGITS" "0123456789") rfl)
theorem cls_PathReader (T : Tx w K mg) : Cls K (He.ga K "PathReader") := He.cls_ok (T.c.fact 66 (f := .cls "PathReader") rfl)
theorem mk_PathReader (T : Tx w K mg) : Mk K (He.ga K "PathReader") (He.fAd K d_PathReader_init.at_) := He.mkr_ok (T.c.fact 67 (f := .mkr "PathReader") rfl)
theorem na_PathReader_text (T : Tx w K mg) : NoAttr K (He.ga K "PathReader") "text" := He.noat_ok (T.c.fact 68 (f := .noat "PathReader" "text") rfl)
theorem na_PathReader_closed (T : Tx w K mg) : NoAttr K (He.ga K "PathReader") "closed" := He.noat_ok (T.c.fact 69 (f := .noat "PathReader" "closed") rfl)
theorem na_PathReader_tokens (T : Tx w K mg) : NoAttr K (He.ga K "PathReader") "tokens" := He.noat_ok (T.c.fact 70 (f := .noat "PathReader" "tokens") rfl)
theorem na_PathReader_at (T : Tx w K mg) : NoAttr K (He.ga K "PathReader") "at" := He.noat_ok (T.c.fact 71 (f := .noat "PathReader" "at") rfl)
theorem m_PathReader_peek (T : Tx w K mg) : Meth K (He.ga K "PathReader") "peek" (He.fAd K d_PathReader_peek.at_) := He.meth_ok (T.c.fact 72 (f := .meth "PathReader" "peek") rfl)
theorem m_PathReader_peek_behind (T : Tx w K mg) : Meth K (He.ga K "PathReader") "peek_behind" (He.fAd K d_PathReader_peek_behind.at_) := He.meth_ok (T.c.fact 73 (f := .meth "PathReader" "peek_behind") rfl)
theorem m_PathReader_has_sign (T : Tx w K mg) : Meth K (He.ga K "PathReader") "has_sign" (He.fAd K d_PathReader_has_sign.at_) := He.meth_ok (T.c.fact 74 (f := .meth "PathReader" "has_sign") rfl)
theorem m_PathReader_take (T : Tx w K mg) : Meth K (He.ga K "PathReader") "take" (He.fAd K d_PathReader_take.at_) := He.meth_ok (T.c.fact 75 (f := .meth "PathReader" "take") rfl)
theorem m_PathReader_read_path (T : Tx w K mg) : Meth K (He.ga K "PathReader") "read_path" (He.fAd K d_PathReader_read_path.at_) := He.meth_ok (T.c.fact 76 (f := .meth "PathReader" "read_path") rfl)
theorem m_PathReader_read_expression (T : Tx w K mg) : Meth K (He.ga K "PathReader") "read_expression" (He.fAd K d_PathReader_read_expression.at_) := He.meth_ok (T.c.fact 77 (f := .meth "PathReader" "read_expression") rfl)
theorem m_PathReader_read_operator (T : Tx w K mg) : Meth K (He.ga K "PathReader") "read_operator" (He.fAd K d_PathReader_read_operator.at_) := He.meth_ok (T.c.fact 78 (f := .meth "PathReader" "read_operator") rfl)
theorem m_PathReader_end_behind_operand (T : Tx w K mg) : Meth K (He.ga K "PathReader") "end_behind_operand" (He.fAd K d_PathReader_end_behind_operand.at_) := He.meth_ok (T.c.fact 79 (f := .meth "PathReader" "end_behind_operand") rfl)
theorem m_PathReader_expect_behind_operand (T : Tx w K mg) : Meth K (He.ga K "PathReader") "expect_behind_operand" (He.fAd K d_PathReader_expect_behind_operand.at_) := He.meth_ok (T.c.fact 80 (f := .meth "PathReader" "expect_behind_operand") rfl)
theorem m_PathReader_expect (T : Tx w K mg) : Meth K (He.ga K "PathReader") "expect" (He.fAd K d_PathReader_expect.at_) := He.meth_ok (T.c.fact 81 (f := .meth "PathReader" "expect") rfl)
theorem m_PathReader_read_operand (T : Tx w K mg) : Meth K (He.ga K "PathReader") "read_operand" (He.fAd K d_PathReader_read_operand.at_) := He.meth_ok (T.c.fact 82 (f := .meth "PathReader" "read_operand") rfl)
theorem m_PathReader_read_literal (T : Tx w K mg) : Meth K (He.ga K "PathReader") "read_literal" (He.fAd K d_PathReader_read_literal.at_) := He.meth_ok (T.c.fact 83 (f := .meth "PathReader" "read_literal") rfl)
theorem m_PathReader_text_of_literal (T : Tx w K mg) : Meth K (He.ga K "PathReader") "text_of_literal" (He.fAd K d_PathReader_text_of_literal.at_) := He.meth_ok (T.c.fact 84 (f := .meth "PathReader" "text_of_literal") rfl)
theorem m_PathReader_read_variable (T : Tx w K mg) : Meth K (He.ga K "PathReader") "read_variable" (He.fAd K d_PathReader_read_variable.at_) := He.meth_ok (T.c.fact 85 (f := .meth "PathReader" "read_variable") rfl)
theorem m_PathReader_is_call (T : Tx w K mg) : Meth K (He.ga K "PathReader") "is_call" (He.fAd K d_PathReader_is_call.at_) := He.meth_ok (T.c.fact 86 (f := .meth "PathReader" "is_call") rfl)
theorem m_PathReader_read_call (T : Tx w K mg) : Meth K (He.ga K "PathReader") "read_call" (He.fAd K d_PathReader_read_call.at_) := He.meth_ok (T.c.fact 87 (f := .meth "PathReader" "read_call") rfl)
theorem m_PathReader_read_behind (T : Tx w K mg) : Meth K (He.ga K "PathReader") "read_behind" (He.fAd K d_PathReader_read_behind.at_) := He.meth_ok (T.c.fact 88 (f := .meth "PathReader" "read_behind") rfl)
theorem m_PathReader_read_slash (T : Tx w K mg) : Meth K (He.ga K "PathReader") "read_slash" (He.fAd K d_PathReader_read_slash.at_) := He.meth_ok (T.c.fact 89 (f := .meth "PathReader" "read_slash") rfl)
theorem m_PathReader_read_rooted (T : Tx w K mg) : Meth K (He.ga K "PathReader") "read_rooted" (He.fAd K d_PathReader_read_rooted.at_) := He.meth_ok (T.c.fact 90 (f := .meth "PathReader" "read_rooted") rfl)
theorem m_PathReader_begins_step (T : Tx w K mg) : Meth K (He.ga K "PathReader") "begins_step" (He.fAd K d_PathReader_begins_step.at_) := He.meth_ok (T.c.fact 91 (f := .meth "PathReader" "begins_step") rfl)
theorem m_PathReader_read_steps (T : Tx w K mg) : Meth K (He.ga K "PathReader") "read_steps" (He.fAd K d_PathReader_read_steps.at_) := He.meth_ok (T.c.fact 92 (f := .meth "PathReader" "read_steps") rfl)
theorem m_PathReader_read_step (T : Tx w K mg) : Meth K (He.ga K "PathReader") "read_step" (He.fAd K d_PathReader_read_step.at_) := He.meth_ok (T.c.fact 93 (f := .meth "PathReader" "read_step") rfl)
theorem m_PathReader_read_axis (T : Tx w K mg) : Meth K (He.ga K "PathReader") "read_axis" (He.fAd K d_PathReader_read_axis.at_) := He.meth_ok (T.c.fact 94 (f := .meth "PathReader" "read_axis") rfl)
theorem m_PathReader_read_test (T : Tx w K mg) : Meth K (He.ga K "PathReader") "read_test" (He.fAd K d_PathReader_read_test.at_) := He.meth_ok (T.c.fact 95 (f := .meth "PathReader" "read_test") rfl)
theorem m_PathReader_read_kind (T : Tx w K mg) : Meth K (He.ga K "PathReader") "read_kind" (He.fAd K d_PathReader_read_kind.at_) := He.meth_ok (T.c.fact 96 (f := .meth "PathReader" "read_kind") rfl)
theorem m_PathReader_check_colon (T : Tx w K mg) : Meth K (He.ga K "PathReader") "check_colon" (He.fAd K d_PathReader_check_colon.at_) := He.meth_ok (T.c.fact 97 (f := .meth "PathReader" "check_colon") rfl)
theorem m_PathReader_read_predicates (T : Tx w K mg) : Meth K (He.ga K "PathReader") "read_predicates" (He.fAd K d_PathReader_read_predicates.at_) := He.meth_ok (T.c.fact 98 (f := .meth "PathReader" "read_predicates") rfl)
theorem cls_OperatorRow (T : Tx w K mg) : Cls K (He.ga K "OperatorRow") := He.cls_ok (T.c.fact 99 (f := .cls "OperatorRow") rfl)
theorem mk_OperatorRow (T : Tx w K mg) : Mk K (He.ga K "OperatorRow") (He.fAd K d_OperatorRow_init.at_) := He.mkr_ok (T.c.fact 100 (f := .mkr "OperatorRow") rfl)
theorem na_OperatorRow_operands (T : Tx w K mg) : NoAttr K (He.ga K "OperatorRow") "operands" := He.noat_ok (T.c.fact 101 (f := .noat "OperatorRow" "operands") rfl)
theorem na_OperatorRow_waiting (T : Tx w K mg) : NoAttr K (He.ga K "OperatorRow") "waiting" := He.noat_ok (T.c.fact 102 (f := .noat "OperatorRow" "waiting") rfl)
theorem m_OperatorRow_ends_with (T : Tx w K mg) : Meth K (He.ga K "OperatorRow") "ends_with" (He.fAd K d_OperatorRow_ends_with.at_) := He.meth_ok (T.c.fact 103 (f := .meth "OperatorRow" "ends_with") rfl)
theorem m_OperatorRow_put_minus (T : Tx w K mg) : Meth K (He.ga K "OperatorRow") "put_minus" (He.fAd K d_OperatorRow_put_minus.at_) := He.meth_ok (T.c.fact 104 (f := .meth "OperatorRow" "put_minus") rfl)
theorem m_OperatorRow_put_operand (T : Tx w K mg) : Meth K (He.ga K "OperatorRow") "put_operand" (He.fAd K d_OperatorRow_put_operand.at_) := He.meth_ok (T.c.fact 105 (f := .meth "OperatorRow" "put_operand") rfl)
theorem m_OperatorRow_put_operator (T : Tx w K mg) : Meth K (He.ga K "OperatorRow") "put_operator" (He.fAd K d_OperatorRow_put_operator.at_) := He.meth_ok (T.c.fact 106 (f := .meth "OperatorRow" "put_operator") rfl)
theorem m_OperatorRow_bind (T : Tx w K mg) : Meth K (He.ga K "OperatorRow") "bind" (He.fAd K d_OperatorRow_bind.at_) := He.meth_ok (T.c.fact 107 (f := .meth "OperatorRow" "bind") rfl)
theorem m_OperatorRow_finished (T : Tx w K mg) : Meth K (He.ga K "OperatorRow") "finished" (He.fAd K d_OperatorRow_finished.at_) := He.meth_ok (T.c.fact 108 (f := .meth "OperatorRow" "finished") rfl)
theorem exm_BadValue_BadValue (T : Tx w K mg) : PySem.W.exmOne K (.ref (He.ga K "BadValue")) (.ref (He.ga K "BadValue")) = some true := He.exm_ok (T.c.fact 109 (f := .exm "BadValue" "BadValue" true) rfl)
theorem exm_NotPath_NotPath (T : Tx w K mg) : PySem.W.exmOne K (.ref (He.ga K "NotPath")) (.ref (He.ga K "NotPath")) = some true := He.exm_ok (T.c.fact 110 (f := .exm "NotPath" "NotPath" true) rfl)
theorem exm_BadValue_TreeError (T : Tx w K mg) : PySem.W.exmOne K (.ref (He.ga K "BadValue")) (.ref (He.ga K "TreeError")) = some true := He.exm_ok (T.c.fact 111 (f := .exm "BadValue" "TreeError" true) rfl)
theorem exm_NotPath_TreeError (T : Tx w K mg) : PySem.W.exmOne K (.ref (He.ga K "NotPath")) (.ref (He.ga K "TreeError")) = some true := He.exm_ok (T.c.fact 112 (f := .exm "NotPath" "TreeError" true) rfl)
theorem na_BadValue_why (T : Tx w K mg) : NoAttr K (He.ga K "BadValue") "why" := He.noat_ok (T.c.fact 113 (f := .noat "BadValue" "why") rfl)
theorem na_NotPath_why (T : Tx w K mg) : NoAttr K (He.ga K "NotPath") "why" := He.noat_ok (T.c.fact 114 (f := .noat "NotPath" "why") rfl)
theorem na_NotPath_at (T : Tx w K mg) : NoAttr K (He.ga K "NotPath") "at" := He.noat_ok (T.c.fact 115 (f := .noat "NotPath" "at") rfl)
theorem na_TreeError_why (T : Tx w K mg) : NoAttr K (He.ga K "TreeError") "why" := He.noat_ok (T.c.fact 116 (f := .noat "TreeError" "why") rfl)
theorem f_TreeError_init (T : Tx w K mg) : ∃ fd, FnP K d_TreeError_init fd := T.c.def_ 0 (d := d_TreeError_init) rfl
abbrev p_TreeError_init : List Str := ["self", "why"]
abbrev N_TreeError_init : List Str := ["self", "why"]
theorem sc_TreeError_init : FnScope N_TreeError_init p_TreeError_init (defScope s_TreeError_init) := ⟨rfl, rfl, rfl, by decide +kernel, rfl, by decide +kernel, by decide +kernel⟩
theorem f_BadValue_init (T : Tx w K mg) : ∃ fd, FnP K d_BadValue_init fd := T.c.def_ 1 (d := d_BadValue_init) rfl
abbrev p_BadValue_init : List Str := ["self", "why"]
abbrev N_BadValue_init : List Str := ["self", "why"]
theorem sc_BadValue_init : FnScope N_BadValue_init p_BadValue_init (defScope s_BadValue_init) := ⟨rfl, rfl, rfl, by decide +kernel, rfl, by decide +kernel, by decide +kernel⟩
theorem f_NotPath_init (T : Tx w K mg) : ∃ fd, FnP K d_NotPath_init fd := T.c.def_ 2 (d := d_NotPath_init) rfl
abbrev p_NotPath_init : List Str := ["self", "at"]
abbrev N_NotPath_init : List Str := ["self", "at"]
theorem sc_NotPath_init : FnScope N_NotPath_init p_NotPath_init (defScope s_NotPath_init) := ⟨rfl, rfl, rfl, by decide +kernel, rfl, by decide +kernel, by decide +kernel⟩
theorem b_NotPath_init {fd : FuncData} (F : FnP K d_NotPath_init fd) : Binds K fd p_NotPath_init [] := FunD.bindsN F fun _ _ _ _ _ _ us hl => match us, hl with | [_, _], _ => rfl
theorem f_is_blank (T : Tx w K mg) : ∃ fd, FnP K d_is_blank fd := T.c.def_ 3 (d := d_is_blank) rfl
abbrev p_is_blank : List Str := ["sign"]
abbrev N_is_blank : List Str := ["sign"]
theorem sc_is_blank : FnScope N_is_blank p_is_blank (defScope s_is_blank) := ⟨rfl, rfl, rfl, by decide +kernel, rfl, by decide +kernel, by decide +kernel⟩
theorem b_is_blank {fd : FuncData} (F : FnP K d_is_blank fd) : Binds K fd p_is_blank [] := FunD.bindsN F fun _ _ _ _ _ _ us hl => match us, hl with | [_], _ => rfl
theorem f_is_sign (T : Tx w K mg) : ∃ fd, FnP K d_is_sign fd := T.c.def_ 4 (d := d_is_sign) rfl
abbrev p_is_sign : List Str := ["character"]
abbrev N_is_sign : List Str := ["character"]
theorem sc_is_sign : FnScope N_is_sign p_is_sign (defScope s_is_sign) := ⟨rfl, rfl, rfl, by decide +kernel, rfl, by decide +kernel, by decide +kernel⟩
theorem b_is_sign {fd : FuncData} (F : FnP K d_is_sign fd) : Binds K fd p_is_sign [] := FunD.bindsN F fun _ _ _ _ _ _ us hl => match us, hl with | [_], _ => rfl
theorem f_begins_word (T : Tx w K mg) : ∃ fd, FnP K d_begins_word fd := T.c.def_ 5 (d := d_begins_word) rfl
abbrev p_begins_word : List Str := ["sign"]
abbrev N_begins_word : List Str := ["sign"]
theorem sc_begins_word : FnScope N_begins_word p_begins_word (defScope s_begins_word) := ⟨rfl, rfl, rfl, by decide +kernel, rfl, by decide +kernel, by decide +kernel⟩
theorem b_begins_word {fd : FuncData} (F : FnP K d_begins_word fd) : Binds K fd p_begins_word [] := FunD.bindsN F fun _ _ _ _ _ _ us hl => match us, hl with | [_], _ => rfl
theorem f_goes_on_in_word (T : Tx w K mg) : ∃ fd, FnP K d_goes_on_in_word fd := T.c.def_ 6 (d := d_goes_on_in_word) rfl
abbrev p_goes_on_in_word : List Str := ["sign"]
abbrev N_goes_on_in_word : List Str := ["sign"]
theorem sc_goes_on_in_word : FnScope N_goes_on_in_word p_goes_on_in_word (defScope s_goes_on_in_word) := ⟨rfl, rfl, rfl, by decide +kernel, rfl, by decide +kernel, by decide +kernel⟩
theorem b_goes_on_in_word {fd : FuncData} (F : FnP K d_goes_on_in_word fd) : Binds K fd p_goes_on_in_word [] := FunD.bindsN F fun _ _ _ _ _ _ us hl => match us, hl with | [_], _ => rfl
theorem f_tokens_in (T : Tx w K mg) : ∃ fd, FnP K d_tokens_in fd := T.c.def_ 7 (d := d_tokens_in) rfl
abbrev p_tokens_in : List Str := ["text"]
abbrev N_tokens_in : List Str := ["text", "found", "at", "token"]
theorem sc_tokens_in : FnScope N_tokens_in p_tokens_in (defScope s_tokens_in) := ⟨rfl, rfl, rfl, by decide +kernel, rfl, by decide +kernel, by decide +kernel⟩
theorem b_tokens_in {fd : FuncData} (F : FnP K d_tokens_in fd) : Binds K fd p_tokens_in [] := FunD.bindsN F fun _ _ _ _ _ _ us hl => match us, hl with | [_], _ => rfl
theorem f_end_of_blanks (T : Tx w K mg) : ∃ fd, FnP K d_end_of_blanks fd := T.c.def_ 8 (d := d_end_of_blanks) rfl
abbrev p_end_of_blanks : List Str := ["text", "at"]
abbrev N_end_of_blanks : List Str := ["text", "at"]
theorem sc_end_of_blanks : FnScope N_end_of_blanks p_end_of_blanks (defScope s_end_of_blanks) := ⟨rfl, rfl, rfl, by decide +kernel, rfl, by decide +kernel, by decide +kernel⟩
theorem b_end_of_blanks {fd : FuncData} (F : FnP K d_end_of_blanks fd) : Binds K fd p_end_of_blanks [] := FunD.bindsN F fun _ _ _ _ _ _ us hl => match us, hl with | [_, _], _ => rfl
theorem f_token_at (T : Tx w K mg) : ∃ fd, FnP K d_token_at fd := T.c.def_ 9 (d := d_token_at) rfl
abbrev p_token_at : List Str := ["text", "at"]
abbrev N_token_at : List Str := ["text", "at", "sign", "word"]
theorem sc_token_at : FnScope N_token_at p_token_at (defScope s_token_at) := ⟨rfl, rfl, rfl, by decide +kernel, rfl, by decide +kernel, by decide +kernel⟩
theorem b_token_at {fd : FuncData} (F : FnP K d_token_at fd) : Binds K fd p_token_at [] := FunD.bindsN F fun _ _ _ _ _ _ us hl => match us, hl with | [_, _], _ => rfl
theorem f_is_digit (T : Tx w K mg) : ∃ fd, FnP K d_is_digit fd := T.c.def_ 10 (d := d_is_digit) rfl
abbrev p_is_digit : List Str := ["sign"]
abbrev N_is_digit : List Str := ["sign"]
theorem sc_is_digit : FnScope N_is_digit p_is_digit (defScope s_is_digit) := ⟨rfl, rfl, rfl, by decide +kernel, rfl, by decide +kernel, by decide +kernel⟩
theorem b_is_digit {fd : FuncData} (F : FnP K d_is_digit fd) : Binds K fd p_is_digit [] := FunD.bindsN F fun _ _ _ _ _ _ us hl => match us, hl with | [_], _ => rfl
theorem f_end_of_name (T : Tx w K mg) : ∃ fd, FnP K d_end_of_name fd := T.c.def_ 11 (d := d_end_of_name) rfl
abbrev p_end_of_name : List Str := ["text", "at"]
abbrev N_end_of_name : List Str := ["text", "at", "end"]
theorem sc_end_of_name : FnScope N_end_of_name p_end_of_name (defScope s_end_of_name) := ⟨rfl, rfl, rfl, by decide +kernel, rfl, by decide +kernel, by decide +kernel⟩
theorem b_end_of_name {fd : FuncData} (F : FnP K d_end_of_name fd) : Binds K fd p_end_of_name [] := FunD.bindsN F fun _ _ _ _ _ _ us hl => match us, hl with | [_, _], _ => rfl
theorem f_end_of_word (T : Tx w K mg) : ∃ fd, FnP K d_end_of_word fd := T.c.def_ 12 (d := d_end_of_word) rfl
abbrev p_end_of_word : List Str := ["text", "at"]
abbrev N_end_of_word : List Str := ["text", "at"]
theorem sc_end_of_word : FnScope N_end_of_word p_end_of_word (defScope s_end_of_word) := ⟨rfl, rfl, rfl, by decide +kernel, rfl, by decide +kernel, by decide +kernel⟩
theorem b_end_of_word {fd : FuncData} (F : FnP K d_end_of_word fd) : Binds K fd p_end_of_word [] := FunD.bindsN F fun _ _ _ _ _ _ us hl => match us, hl with | [_, _], _ => rfl
theorem f_end_of_digits (T : Tx w K mg) : ∃ fd, FnP K d_end_of_digits fd := T.c.def_ 13 (d := d_end_of_digits) rfl
abbrev p_end_of_digits : List Str := ["text", "at"]
abbrev N_end_of_digits : List Str := ["text", "at"]
theorem sc_end_of_digits : FnScope N_end_of_digits p_end_of_digits (defScope s_end_of_digits) := ⟨rfl, rfl, rfl, by decide +kernel, rfl, by decide +kernel, by decide +kernel⟩
theorem b_end_of_digits {fd : FuncData} (F : FnP K d_end_of_digits fd) : Binds K fd p_end_of_digits [] := FunD.bindsN F fun _ _ _ _ _ _ us hl => match us, hl with | [_, _], _ => rfl
theorem f_end_of_number (T : Tx w K mg) : ∃ fd, FnP K d_end_of_number fd := T.c.def_ 14 (d := d_end_of_number) rfl
abbrev p_end_of_number : List Str := ["text", "at"]
abbrev N_end_of_number : List Str := ["text", "at", "end"]
theorem sc_end_of_number : FnScope N_end_of_number p_end_of_number (defScope s_end_of_number) := ⟨rfl, rfl, rfl, by decide +kernel, rfl, by decide +kernel, by decide +kernel⟩
theorem b_end_of_number {fd : FuncData} (F : FnP K d_end_of_number fd) : Binds K fd p_end_of_number [] := FunD.bindsN F fun _ _ _ _ _ _ us hl => match us, hl with | [_, _], _ => rfl
theorem f_quoted_token (T : Tx w K mg) : ∃ fd, FnP K d_quoted_token fd := T.c.def_ 15 (d := d_quoted_token) rfl
abbrev p_quoted_token : List Str := ["text", "at"]
abbrev N_quoted_token : List Str := ["text", "at", "end"]
theorem sc_quoted_token : FnScope N_quoted_token p_quoted_token (defScope s_quoted_token) := ⟨rfl, rfl, rfl, by decide +kernel, rfl, by decide +kernel, by decide +kernel⟩
theorem b_quoted_token {fd : FuncData} (F : FnP K d_quoted_token fd) : Binds K fd p_quoted_token [] := FunD.bindsN F fun _ _ _ _ _ _ us hl => match us, hl with | [_, _], _ => rfl
theorem f_PathReader_init (T : Tx w K mg) : ∃ fd, FnP K d_PathReader_init fd := T.c.def_ 16 (d := d_PathReader_init) rfl
abbrev p_PathReader_init : List Str := ["self", "text", "closed"]
abbrev N_PathReader_init : List Str := ["self", "text", "closed"]
theorem sc_PathReader_init : FnScope N_PathReader_init p_PathReader_init (defScope s_PathReader_init) := ⟨rfl, rfl, rfl, by decide +kernel, rfl, by decide +kernel, by decide +kernel⟩
theorem b_PathReader_init {fd : FuncData} (F : FnP K d_PathReader_init fd) : Binds K fd p_PathReader_init [] := FunD.bindsN F fun _ _ _ _ _ _ us hl => match us, hl with | [_, _, _], _ => rfl
theorem f_PathReader_peek (T : Tx w K mg) : ∃ fd, FnP K d_PathReader_peek fd := T.c.def_ 17 (d := d_PathReader_peek) rfl
abbrev p_PathReader_peek : List Str := ["self"]
abbrev N_PathReader_peek : List Str := ["self"]
theorem sc_PathReader_peek : FnScope N_PathReader_peek p_PathReader_peek (defScope s_PathReader_peek) := ⟨rfl, rfl, rfl, by decide +kernel, rfl, by decide +kernel, by decide +kernel⟩
theorem b_PathReader_peek {fd : FuncData} (F : FnP K d_PathReader_peek fd) : Binds K fd p_PathReader_peek [] := FunD.bindsN F fun _ _ _ _ _ _ us hl => match us, hl with | [_], _ => rfl
theorem f_PathReader_peek_behind (T : Tx w K mg) : ∃ fd, FnP K d_PathReader_peek_behind fd := T.c.def_ 18 (d := d_PathReader_peek_behind) rfl
abbrev p_PathReader_peek_behind : List Str := ["self"]
abbrev N_PathReader_peek_behind : List Str := ["self"]
theorem sc_PathReader_peek_behind : FnScope N_PathReader_peek_behind p_PathReader_peek_behind (defScope s_PathReader_peek_behind) := ⟨rfl, rfl, rfl, by decide +kernel, rfl, by decide +kernel, by decide +kernel⟩
theorem b_PathReader_peek_behind {fd : FuncData} (F : FnP K d_PathReader_peek_behind fd) : Binds K fd p_PathReader_peek_behind [] := FunD.bindsN F fun _ _ _ _ _ _ us hl => match us, hl with | [_], _ => rfl
theorem f_PathReader_has_sign (T : Tx w K mg) : ∃ fd, FnP K d_PathReader_has_sign fd := T.c.def_ 19 (d := d_PathReader_has_sign) rfl
abbrev p_PathReader_has_sign : List Str := ["self", "signs"]
abbrev N_PathReader_has_sign : List Str := ["self", "signs", "token"]
theorem sc_PathReader_has_sign : FnScope N_PathReader_has_sign p_PathReader_has_sign (defScope s_PathReader_has_sign) := ⟨rfl, rfl, rfl, by decide +kernel, rfl, by decide +kernel, by decide +kernel⟩
theorem b_PathReader_has_sign {fd : FuncData} (F : FnP K d_PathReader_has_sign fd) : Binds K fd p_PathReader_has_sign [] := FunD.bindsN F fun _ _ _ _ _ _ us hl => match us, hl with | [_, _], _ => rfl
theorem f_PathReader_take (T : Tx w K mg) : ∃ fd, FnP K d_PathReader_take fd := T.c.def_ 20 (d := d_PathReader_take) rfl
abbrev p_PathReader_take : List Str := ["self"]
abbrev N_PathReader_take : List Str := ["self", "token"]
theorem sc_PathReader_take : FnScope N_PathReader_take p_PathReader_take (defScope s_PathReader_take) := ⟨rfl, rfl, rfl, by decide +kernel, rfl, by decide +kernel, by decide +kernel⟩
theorem b_PathReader_take {fd : FuncData} (F : FnP K d_PathReader_take fd) : Binds K fd p_PathReader_take [] := FunD.bindsN F fun _ _ _ _ _ _ us hl => match us, hl with | [_], _ => rfl
theorem f_PathReader_read_path (T : Tx w K mg) : ∃ fd, FnP K d_PathReader_read_path fd := T.c.def_ 21 (d := d_PathReader_read_path) rfl
abbrev p_PathReader_read_path : List Str := ["self"]
abbrev N_PathReader_read_path : List Str := ["self", "tree"]
theorem sc_PathReader_read_path : FnScope N_PathReader_read_path p_PathReader_read_path (defScope s_PathReader_read_path) := ⟨rfl, rfl, rfl, by decide +kernel, rfl, by decide +kernel, by decide +kernel⟩
theorem b_PathReader_read_path {fd : FuncData} (F : FnP K d_PathReader_read_path fd) : Binds K fd p_PathReader_read_path [] := FunD.bindsN F fun _ _ _ _ _ _ us hl => match us, hl with | [_], _ => rfl
theorem f_PathReader_read_expression (T : Tx w K mg) : ∃ fd, FnP K d_PathReader_read_expression fd := T.c.def_ 22 (d := d_PathReader_read_expression) rfl
abbrev p_PathReader_read_expression : List Str := ["self"]
abbrev N_PathReader_read_expression : List Str := ["self", "row", "word"]
theorem sc_PathReader_read_expression : FnScope N_PathReader_read_expression p_PathReader_read_expression (defScope s_PathReader_read_expression) := ⟨rfl, rfl, rfl, by decide +kernel, rfl, by decide +kernel, by decide +kernel⟩
theorem b_PathReader_read_expression {fd : FuncData} (F : FnP K d_PathReader_read_expression fd) : Binds K fd p_PathReader_read_expression [] := FunD.bindsN F fun _ _ _ _ _ _ us hl => match us, hl with | [_], _ => rfl
theorem f_PathReader_read_operator (T : Tx w K mg) : ∃ fd, FnP K d_PathReader_read_operator fd := T.c.def_ 23 (d := d_PathReader_read_operator) rfl
abbrev p_PathReader_read_operator : List Str := ["self"]
abbrev N_PathReader_read_operator : List Str := ["self", "token"]
theorem sc_PathReader_read_operator : FnScope N_PathReader_read_operator p_PathReader_read_operator (defScope s_PathReader_read_operator) := ⟨rfl, rfl, rfl, by decide +kernel, rfl, by decide +kernel, by decide +kernel⟩
theorem b_PathReader_read_operator {fd : FuncData} (F : FnP K d_PathReader_read_operator fd) : Binds K fd p_PathReader_read_operator [] := FunD.bindsN F fun _ _ _ _ _ _ us hl => match us, hl with | [_], _ => rfl
theorem f_PathReader_end_behind_operand (T : Tx w K mg) : ∃ fd, FnP K d_PathReader_end_behind_operand fd := T.c.def_ 24 (d := d_PathReader_end_behind_operand) rfl
abbrev p_PathReader_end_behind_operand : List Str := ["self"]
abbrev N_PathReader_end_behind_operand : List Str := ["self", "token", "word"]
theorem sc_PathReader_end_behind_operand : FnScope N_PathReader_end_behind_operand p_PathReader_end_behind_operand (defScope s_PathReader_end_behind_operand) := ⟨rfl, rfl, rfl, by decide +kernel, rfl, by decide +kernel, by decide +kernel⟩
theorem b_PathReader_end_behind_operand {fd : FuncData} (F : FnP K d_PathReader_end_behind_operand fd) : Binds K fd p_PathReader_end_behind_operand [] := FunD.bindsN F fun _ _ _ _ _ _ us hl => match us, hl with | [_], _ => rfl
theorem f_PathReader_expect_behind_operand (T : Tx w K mg) : ∃ fd, FnP K d_PathReader_expect_behind_operand fd := T.c.def_ 25 (d := d_PathReader_expect_behind_operand) rfl
abbrev p_PathReader_expect_behind_operand : List Str := ["self", "sign"]
abbrev N_PathReader_expect_behind_operand : List Str := ["self", "sign"]
theorem sc_PathReader_expect_behind_operand : FnScope N_PathReader_expect_behind_operand p_PathReader_expect_behind_operand (defScope s_PathReader_expect_behind_operand) := ⟨rfl, rfl, rfl, by decide +kernel, rfl, by decide +kernel, by decide +kernel⟩
theorem b_PathReader_expect_behind_operand {fd : FuncData} (F : FnP K d_PathReader_expect_behind_operand fd) : Binds K fd p_PathReader_expect_behind_operand [] := FunD.bindsN F fun _ _ _ _ _ _ us hl => match us, hl with | [_, _], _ => rfl
theorem f_PathReader_expect (T : Tx w K mg) : ∃ fd, FnP K d_PathReader_expect fd := T.c.def_ 26 (d := d_PathReader_expect) rfl
abbrev p_PathReader_expect : List Str := ["self", "sign"]
abbrev N_PathReader_expect : List Str := ["self", "sign"]
theorem sc_PathReader_expect : FnScope N_PathReader_expect p_PathReader_expect (defScope s_PathReader_expect) := ⟨rfl, rfl, rfl, by decide +kernel, rfl, by decide +kernel, by decide +kernel⟩
theorem b_PathReader_expect {fd : FuncData} (F : FnP K d_PathReader_expect fd) : Binds K fd p_PathReader_expect [] := FunD.bindsN F fun _ _ _ _ _ _ us hl => match us, hl with | [_, _], _ => rfl
theorem f_PathReader_read_operand (T : Tx w K mg) : ∃ fd, FnP K d_PathReader_read_operand fd := T.c.def_ 27 (d := d_PathReader_read_operand) rfl
abbrev p_PathReader_read_operand : List Str := ["self"]
abbrev N_PathReader_read_operand : List Str := ["self", "token", "tree"]
theorem sc_PathReader_read_operand : FnScope N_PathReader_read_operand p_PathReader_read_operand (defScope s_PathReader_read_operand) := ⟨rfl, rfl, rfl, by decide +kernel, rfl, by decide +kernel, by decide +kernel⟩
theorem b_PathReader_read_operand {fd : FuncData} (F : FnP K d_PathReader_read_operand fd) : Binds K fd p_PathReader_read_operand [] := FunD.bindsN F fun _ _ _ _ _ _ us hl => match us, hl with | [_], _ => rfl
theorem f_PathReader_read_literal (T : Tx w K mg) : ∃ fd, FnP K d_PathReader_read_literal fd := T.c.def_ 28 (d := d_PathReader_read_literal) rfl
abbrev p_PathReader_read_literal : List Str := ["self"]
abbrev N_PathReader_read_literal : List Str := ["self", "token"]
theorem sc_PathReader_read_literal : FnScope N_PathReader_read_literal p_PathReader_read_literal (defScope s_PathReader_read_literal) := ⟨rfl, rfl, rfl, by decide +kernel, rfl, by decide +kernel, by decide +kernel⟩
theorem b_PathReader_read_literal {fd : FuncData} (F : FnP K d_PathReader_read_literal fd) : Binds K fd p_PathReader_read_literal [] := FunD.bindsN F fun _ _ _ _ _ _ us hl => match us, hl with | [_], _ => rfl
theorem f_PathReader_text_of_literal (T : Tx w K mg) : ∃ fd, FnP K d_PathReader_text_of_literal fd := T.c.def_ 29 (d := d_PathReader_text_of_literal) rfl
abbrev p_PathReader_text_of_literal : List Str := ["self", "token"]
abbrev N_PathReader_text_of_literal : List Str := ["self", "token"]
theorem sc_PathReader_text_of_literal : FnScope N_PathReader_text_of_literal p_PathReader_text_of_literal (defScope s_PathReader_text_of_literal) := ⟨rfl, rfl, rfl, by decide +kernel, rfl, by decide +kernel, by decide +kernel⟩
theorem b_PathReader_text_of_literal {fd : FuncData} (F : FnP K d_PathReader_text_of_literal fd) : Binds K fd p_PathReader_text_of_literal [] := FunD.bindsN F fun _ _ _ _ _ _ us hl => match us, hl with | [_, _], _ => rfl
theorem f_PathReader_read_variable (T : Tx w K mg) : ∃ fd, FnP K d_PathReader_read_variable fd := T.c.def_ 30 (d := d_PathReader_read_variable) rfl
abbrev p_PathReader_read_variable : List Str := ["self"]
abbrev N_PathReader_read_variable : List Str := ["self", "place", "token"]
theorem sc_PathReader_read_variable : FnScope N_PathReader_read_variable p_PathReader_read_variable (defScope s_PathReader_read_variable) := ⟨rfl, rfl, rfl, by decide +kernel, rfl, by decide +kernel, by decide +kernel⟩
theorem b_PathReader_read_variable {fd : FuncData} (F : FnP K d_PathReader_read_variable fd) : Binds K fd p_PathReader_read_variable [] := FunD.bindsN F fun _ _ _ _ _ _ us hl => match us, hl with | [_], _ => rfl
theorem f_PathReader_is_call (T : Tx w K mg) : ∃ fd, FnP K d_PathReader_is_call fd := T.c.def_ 31 (d := d_PathReader_is_call) rfl
abbrev p_PathReader_is_call : List Str := ["self"]
abbrev N_PathReader_is_call : List Str := ["self", "token"]
theorem sc_PathReader_is_call : FnScope N_PathReader_is_call p_PathReader_is_call (defScope s_PathReader_is_call) := ⟨rfl, rfl, rfl, by decide +kernel, rfl, by decide +kernel, by decide +kernel⟩
theorem b_PathReader_is_call {fd : FuncData} (F : FnP K d_PathReader_is_call fd) : Binds K fd p_PathReader_is_call [] := FunD.bindsN F fun _ _ _ _ _ _ us hl => match us, hl with | [_], _ => rfl
theorem f_PathReader_read_call (T : Tx w K mg) : ∃ fd, FnP K d_PathReader_read_call fd := T.c.def_ 32 (d := d_PathReader_read_call) rfl
abbrev p_PathReader_read_call : List Str := ["self"]
abbrev N_PathReader_read_call : List Str := ["self", "word", "least", "most", "trees"]
theorem sc_PathReader_read_call : FnScope N_PathReader_read_call p_PathReader_read_call (defScope s_PathReader_read_call) := ⟨rfl, rfl, rfl, by decide +kernel, rfl, by decide +kernel, by decide +kernel⟩
theorem b_PathReader_read_call {fd : FuncData} (F : FnP K d_PathReader_read_call fd) : Binds K fd p_PathReader_read_call [] := FunD.bindsN F fun _ _ _ _ _ _ us hl => match us, hl with | [_], _ => rfl
theorem f_PathReader_read_behind (T : Tx w K mg) : ∃ fd, FnP K d_PathReader_read_behind fd := T.c.def_ 33 (d := d_PathReader_read_behind) rfl
abbrev p_PathReader_read_behind : List Str := ["self", "tree"]
abbrev N_PathReader_read_behind : List Str := ["self", "tree", "predicates", "steps"]
theorem sc_PathReader_read_behind : FnScope N_PathReader_read_behind p_PathReader_read_behind (defScope s_PathReader_read_behind) := ⟨rfl, rfl, rfl, by decide +kernel, rfl, by decide +kernel, by decide +kernel⟩
theorem b_PathReader_read_behind {fd : FuncData} (F : FnP K d_PathReader_read_behind fd) : Binds K fd p_PathReader_read_behind [] := FunD.bindsN F fun _ _ _ _ _ _ us hl => match us, hl with | [_, _], _ => rfl
theorem f_PathReader_read_slash (T : Tx w K mg) : ∃ fd, FnP K d_PathReader_read_slash fd := T.c.def_ 34 (d := d_PathReader_read_slash) rfl
abbrev p_PathReader_read_slash : List Str := ["self"]
abbrev N_PathReader_read_slash : List Str := ["self"]
theorem sc_PathReader_read_slash : FnScope N_PathReader_read_slash p_PathReader_read_slash (defScope s_PathReader_read_slash) := ⟨rfl, rfl, rfl, by decide +kernel, rfl, by decide +kernel, by decide +kernel⟩
theorem b_PathReader_read_slash {fd : FuncData} (F : FnP K d_PathReader_read_slash fd) : Binds K fd p_PathReader_read_slash [] := FunD.bindsN F fun _ _ _ _ _ _ us hl => match us, hl with | [_], _ => rfl
theorem f_PathReader_read_rooted (T : Tx w K mg) : ∃ fd, FnP K d_PathReader_read_rooted fd := T.c.def_ 35 (d := d_PathReader_read_rooted) rfl
abbrev p_PathReader_read_rooted : List Str := ["self"]
abbrev N_PathReader_read_rooted : List Str := ["self", "steps"]
theorem sc_PathReader_read_rooted : FnScope N_PathReader_read_rooted p_PathReader_read_rooted (defScope s_PathReader_read_rooted) := ⟨rfl, rfl, rfl, by decide +kernel, rfl, by decide +kernel, by decide +kernel⟩
theorem b_PathReader_read_rooted {fd : FuncData} (F : FnP K d_PathReader_read_rooted fd) : Binds K fd p_PathReader_read_rooted [] := FunD.bindsN F fun _ _ _ _ _ _ us hl => match us, hl with | [_], _ => rfl
theorem f_PathReader_begins_step (T : Tx w K mg) : ∃ fd, FnP K d_PathReader_begins_step fd := T.c.def_ 36 (d := d_PathReader_begins_step) rfl
abbrev p_PathReader_begins_step : List Str := ["self"]
abbrev N_PathReader_begins_step : List Str := ["self", "token"]
theorem sc_PathReader_begins_step : FnScope N_PathReader_begins_step p_PathReader_begins_step (defScope s_PathReader_begins_step) := ⟨rfl, rfl, rfl, by decide +kernel, rfl, by decide +kernel, by decide +kernel⟩
theorem b_PathReader_begins_step {fd : FuncData} (F : FnP K d_PathReader_begins_step fd) : Binds K fd p_PathReader_begins_step [] := FunD.bindsN F fun _ _ _ _ _ _ us hl => match us, hl with | [_], _ => rfl
theorem f_PathReader_read_steps (T : Tx w K mg) : ∃ fd, FnP K d_PathReader_read_steps fd := T.c.def_ 37 (d := d_PathReader_read_steps) rfl
abbrev p_PathReader_read_steps : List Str := ["self", "steps"]
abbrev N_PathReader_read_steps : List Str := ["self", "steps"]
theorem sc_PathReader_read_steps : FnScope N_PathReader_read_steps p_PathReader_read_steps (defScope s_PathReader_read_steps) := ⟨rfl, rfl, rfl, by decide +kernel, rfl, by decide +kernel, by decide +kernel⟩
theorem b_PathReader_read_steps {fd : FuncData} (F : FnP K d_PathReader_read_steps fd) : Binds K fd p_PathReader_read_steps [] := FunD.bindsN F fun _ _ _ _ _ _ us hl => match us, hl with | [_, _], _ => rfl
theorem f_PathReader_read_step (T : Tx w K mg) : ∃ fd, FnP K d_PathReader_read_step fd := T.c.def_ 38 (d := d_PathReader_read_step) rfl
abbrev p_PathReader_read_step : List Str := ["self"]
abbrev N_PathReader_read_step : List Str := ["self", "token", "axis"]
theorem sc_PathReader_read_step : FnScope N_PathReader_read_step p_PathReader_read_step (defScope s_PathReader_read_step) := ⟨rfl, rfl, rfl, by decide +kernel, rfl, by decide +kernel, by decide +kernel⟩
theorem b_PathReader_read_step {fd : FuncData} (F : FnP K d_PathReader_read_step fd) : Binds K fd p_PathReader_read_step [] := FunD.bindsN F fun _ _ _ _ _ _ us hl => match us, hl with | [_], _ => rfl
theorem f_PathReader_read_axis (T : Tx w K mg) : ∃ fd, FnP K d_PathReader_read_axis fd := T.c.def_ 39 (d := d_PathReader_read_axis) rfl
abbrev p_PathReader_read_axis : List Str := ["self", "axes"]
abbrev N_PathReader_read_axis : List Str := ["self", "axes", "token", "behind"]
theorem sc_PathReader_read_axis : FnScope N_PathReader_read_axis p_PathReader_read_axis (defScope s_PathReader_read_axis) := ⟨rfl, rfl, rfl, by decide +kernel, rfl, by decide +kernel, by decide +kernel⟩
theorem b_PathReader_read_axis {fd : FuncData} (F : FnP K d_PathReader_read_axis fd) : Binds K fd p_PathReader_read_axis [] := FunD.bindsN F fun _ _ _ _ _ _ us hl => match us, hl with | [_, _], _ => rfl
theorem f_PathReader_read_test (T : Tx w K mg) : ∃ fd, FnP K d_PathReader_read_test fd := T.c.def_ 40 (d := d_PathReader_read_test) rfl
abbrev p_PathReader_read_test : List Str := ["self"]
abbrev N_PathReader_read_test : List Str := ["self", "token"]
theorem sc_PathReader_read_test : FnScope N_PathReader_read_test p_PathReader_read_test (defScope s_PathReader_read_test) := ⟨rfl, rfl, rfl, by decide +kernel, rfl, by decide +kernel, by decide +kernel⟩
theorem b_PathReader_read_test {fd : FuncData} (F : FnP K d_PathReader_read_test fd) : Binds K fd p_PathReader_read_test [] := FunD.bindsN F fun _ _ _ _ _ _ us hl => match us, hl with | [_], _ => rfl
theorem f_PathReader_read_kind (T : Tx w K mg) : ∃ fd, FnP K d_PathReader_read_kind fd := T.c.def_ 41 (d := d_PathReader_read_kind) rfl
abbrev p_PathReader_read_kind : List Str := ["self", "kind"]
abbrev N_PathReader_read_kind : List Str := ["self", "kind", "target"]
theorem sc_PathReader_read_kind : FnScope N_PathReader_read_kind p_PathReader_read_kind (defScope s_PathReader_read_kind) := ⟨rfl, rfl, rfl, by decide +kernel, rfl, by decide +kernel, by decide +kernel⟩
theorem b_PathReader_read_kind {fd : FuncData} (F : FnP K d_PathReader_read_kind fd) : Binds K fd p_PathReader_read_kind [] := FunD.bindsN F fun _ _ _ _ _ _ us hl => match us, hl with | [_, _], _ => rfl
theorem f_PathReader_check_colon (T : Tx w K mg) : ∃ fd, FnP K d_PathReader_check_colon fd := T.c.def_ 42 (d := d_PathReader_check_colon) rfl
abbrev p_PathReader_check_colon : List Str := ["self", "token"]
abbrev N_PathReader_check_colon : List Str := ["self", "token", "end"]
theorem sc_PathReader_check_colon : FnScope N_PathReader_check_colon p_PathReader_check_colon (defScope s_PathReader_check_colon) := ⟨rfl, rfl, rfl, by decide +kernel, rfl, by decide +kernel, by decide +kernel⟩
theorem b_PathReader_check_colon {fd : FuncData} (F : FnP K d_PathReader_check_colon fd) : Binds K fd p_PathReader_check_colon [] := FunD.bindsN F fun _ _ _ _ _ _ us hl => match us, hl with | [_, _], _ => rfl
theorem f_PathReader_read_predicates (T : Tx w K mg) : ∃ fd, FnP K d_PathReader_read_predicates fd := T.c.def_ 43 (d := d_PathReader_read_predicates) rfl
abbrev p_PathReader_read_predicates : List Str := ["self"]
abbrev N_PathReader_read_predicates : List Str := ["self", "found"]
theorem sc_PathReader_read_predicates : FnScope N_PathReader_read_predicates p_PathReader_read_predicates (defScope s_PathReader_read_predicates) := ⟨rfl, rfl, rfl, by decide +kernel, rfl, by decide +kernel, by decide +kernel⟩
theorem b_PathReader_read_predicates {fd : FuncData} (F : FnP K d_PathReader_read_predicates fd) : Binds K fd p_PathReader_read_predicates [] := FunD.bindsN F fun _ _ _ _ _ _ us hl => match us, hl with | [_], _ => rfl
theorem f_OperatorRow_init (T : Tx w K mg) : ∃ fd, FnP K d_OperatorRow_init fd := T.c.def_ 44 (d := d_OperatorRow_init) rfl
abbrev p_OperatorRow_init : List Str := ["self"]
abbrev N_OperatorRow_init : List Str := ["self"]
theorem sc_OperatorRow_init : FnScope N_OperatorRow_init p_OperatorRow_init (defScope s_OperatorRow_init) := ⟨rfl, rfl, rfl, by decide +kernel, rfl, by decide +kernel, by decide +kernel⟩
theorem b_OperatorRow_init {fd : FuncData} (F : FnP K d_OperatorRow_init fd) : Binds K fd p_OperatorRow_init [] := FunD.bindsN F fun _ _ _ _ _ _ us hl => match us, hl with | [_], _ => rfl
theorem f_OperatorRow_ends_with (T : Tx w K mg) : ∃ fd, FnP K d_OperatorRow_ends_with fd := T.c.def_ 45 (d := d_OperatorRow_ends_with) rfl
abbrev p_OperatorRow_ends_with : List Str := ["self", "word"]
abbrev N_OperatorRow_ends_with : List Str := ["self", "word"]
theorem sc_OperatorRow_ends_with : FnScope N_OperatorRow_ends_with p_OperatorRow_ends_with (defScope s_OperatorRow_ends_with) := ⟨rfl, rfl, rfl, by decide +kernel, rfl, by decide +kernel, by decide +kernel⟩
theorem b_OperatorRow_ends_with {fd : FuncData} (F : FnP K d_OperatorRow_ends_with fd) : Binds K fd p_OperatorRow_ends_with [] := FunD.bindsN F fun _ _ _ _ _ _ us hl => match us, hl with | [_, _], _ => rfl
theorem f_OperatorRow_put_minus (T : Tx w K mg) : ∃ fd, FnP K d_OperatorRow_put_minus fd := T.c.def_ 46 (d := d_OperatorRow_put_minus) rfl
abbrev p_OperatorRow_put_minus : List Str := ["self"]
abbrev N_OperatorRow_put_minus : List Str := ["self"]
theorem sc_OperatorRow_put_minus : FnScope N_OperatorRow_put_minus p_OperatorRow_put_minus (defScope s_OperatorRow_put_minus) := ⟨rfl, rfl, rfl, by decide +kernel, rfl, by decide +kernel, by decide +kernel⟩
theorem b_OperatorRow_put_minus {fd : FuncData} (F : FnP K d_OperatorRow_put_minus fd) : Binds K fd p_OperatorRow_put_minus [] := FunD.bindsN F fun _ _ _ _ _ _ us hl => match us, hl with | [_], _ => rfl
theorem f_OperatorRow_put_operand (T : Tx w K mg) : ∃ fd, FnP K d_OperatorRow_put_operand fd := T.c.def_ 47 (d := d_OperatorRow_put_operand) rfl
abbrev p_OperatorRow_put_operand : List Str := ["self", "tree"]
abbrev N_OperatorRow_put_operand : List Str := ["self", "tree"]
theorem sc_OperatorRow_put_operand : FnScope N_OperatorRow_put_operand p_OperatorRow_put_operand (defScope s_OperatorRow_put_operand) := ⟨rfl, rfl, rfl, by decide +kernel, rfl, by decide +kernel, by decide +kernel⟩
theorem b_OperatorRow_put_operand {fd : FuncData} (F : FnP K d_OperatorRow_put_operand fd) : Binds K fd p_OperatorRow_put_operand [] := FunD.bindsN F fun _ _ _ _ _ _ us hl => match us, hl with | [_, _], _ => rfl
theorem f_OperatorRow_put_operator (T : Tx w K mg) : ∃ fd, FnP K d_OperatorRow_put_operator fd := T.c.def_ 48 (d := d_OperatorRow_put_operator) rfl
abbrev p_OperatorRow_put_operator : List Str := ["self", "word"]
abbrev N_OperatorRow_put_operator : List Str := ["self", "word"]
theorem sc_OperatorRow_put_operator : FnScope N_OperatorRow_put_operator p_OperatorRow_put_operator (defScope s_OperatorRow_put_operator) := ⟨rfl, rfl, rfl, by decide +kernel, rfl, by decide +kernel, by decide +kernel⟩
theorem b_OperatorRow_put_operator {fd : FuncData} (F : FnP K d_OperatorRow_put_operator fd) : Binds K fd p_OperatorRow_put_operator [] := FunD.bindsN F fun _ _ _ _ _ _ us hl => match us, hl with | [_, _], _ => rfl
theorem f_OperatorRow_bind (T : Tx w K mg) : ∃ fd, FnP K d_OperatorRow_bind fd := T.c.def_ 49 (d := d_OperatorRow_bind) rfl
abbrev p_OperatorRow_bind : List Str := ["self", "rank"]
abbrev N_OperatorRow_bind : List Str := ["self", "rank", "word", "right"]
theorem sc_OperatorRow_bind : FnScope N_OperatorRow_bind p_OperatorRow_bind (defScope s_OperatorRow_bind) := ⟨rfl, rfl, rfl, by decide +kernel, rfl, by decide +kernel, by decide +kernel⟩
theorem b_OperatorRow_bind {fd : FuncData} (F : FnP K d_OperatorRow_bind fd) : Binds K fd p_OperatorRow_bind [] := FunD.bindsN F fun _ _ _ _ _ _ us hl => match us, hl with | [_, _], _ => rfl
theorem f_OperatorRow_finished (T : Tx w K mg) : ∃ fd, FnP K d_OperatorRow_finished fd := T.c.def_ 50 (d := d_OperatorRow_finished) rfl
abbrev p_OperatorRow_finished : List Str := ["self"]
abbrev N_OperatorRow_finished : List Str := ["self"]
theorem sc_OperatorRow_finished : FnScope N_OperatorRow_finished p_OperatorRow_finished (defScope s_OperatorRow_finished) := ⟨rfl, rfl, rfl, by decide +kernel, rfl, by decide +kernel, by decide +kernel⟩
theorem b_OperatorRow_finished {fd : FuncData} (F : FnP K d_OperatorRow_finished fd) : Binds K fd p_OperatorRow_finished [] := FunD.bindsN F fun _ _ _ _ _ _ us hl => match us, hl with | [_], _ => rfl
theorem f_common_length (T : Tx w K mg) : ∃ fd, FnP K d_common_length fd := T.c.def_ 51 (d := d_common_length) rfl
abbrev p_common_length : List Str := ["one", "other"]
abbrev N_common_length : List Str := ["one", "other", "many"]
theorem sc_common_length : FnScope N_common_length p_common_length (defScope s_common_length) := ⟨rfl, rfl, rfl, by decide +kernel, rfl, by decide +kernel, by decide +kernel⟩
theorem b_common_length {fd : FuncData} (F : FnP K d_common_length fd) : Binds K fd p_common_length [] := FunD.bindsN F fun _ _ _ _ _ _ us hl => match us, hl with | [_, _], _ => rfl
theorem f_shortest_number (T : Tx w K mg) : ∃ fd, FnP K d_shortest_number fd := T.c.def_ 52 (d := d_shortest_number) rfl
abbrev p_shortest_number : List Str := ["text"]
abbrev N_shortest_number : List Str := ["text", "whole", "_", "fraction"]
theorem sc_shortest_number : FnScope N_shortest_number p_shortest_number (defScope s_shortest_number) := ⟨rfl, rfl, rfl, by decide +kernel, rfl, by decide +kernel, by decide +kernel⟩
theorem b_shortest_number {fd : FuncData} (F : FnP K d_shortest_number fd) : Binds K fd p_shortest_number [] := FunD.bindsN F fun _ _ _ _ _ _ us hl => match us, hl with | [_], _ => rfl
theorem f_path_text (T : Tx w K mg) : ∃ fd, FnP K d_path_text fd := T.c.def_ 53 (d := d_path_text) rfl
abbrev p_path_text : List Str := ["tree", "short"]
abbrev N_path_text : List Str := ["tree", "short", "rows", "text", "row"]
theorem sc_path_text : FnScope N_path_text p_path_text (defScope s_path_text) := ⟨rfl, rfl, rfl, by decide +kernel, rfl, by decide +kernel, by decide +kernel⟩
theorem b_path_text {fd : FuncData} (F : FnP K d_path_text fd) : Binds K fd p_path_text [] := FunD.bindsN F fun _ _ _ _ _ _ us hl => match us, hl with | [_, _], _ => rfl
theorem f_tokens (T : Tx w K mg) : ∃ fd, FnP K d_tokens fd := T.c.def_ 54 (d := d_tokens) rfl
abbrev p_tokens : List Str := ["text"]
abbrev N_tokens : List Str := ["text"]
theorem sc_tokens : FnScope N_tokens p_tokens (defScope s_tokens) := ⟨rfl, rfl, rfl, by decide +kernel, rfl, by decide +kernel, by decide +kernel⟩
theorem b_tokens {fd : FuncData} (F : FnP K d_tokens fd) : Binds K fd p_tokens [] := FunD.bindsN F fun _ _ _ _ _ _ us hl => match us, hl with | [_], _ => rfl
theorem f_tree_of (T : Tx w K mg) : ∃ fd, FnP K d_tree_of fd := T.c.def_ 55 (d := d_tree_of) rfl
abbrev p_tree_of : List Str := ["text"]
abbrev N_tree_of : List Str := ["text"]
theorem sc_tree_of : FnScope N_tree_of p_tree_of (defScope s_tree_of) := ⟨rfl, rfl, rfl, by decide +kernel, rfl, by decide +kernel, by decide +kernel⟩
theorem b_tree_of {fd : FuncData} (F : FnP K d_tree_of fd) : Binds K fd p_tree_of [] := FunD.bindsN F fun _ _ _ _ _ _ us hl => match us, hl with | [_], _ => rfl
theorem f_canonical (T : Tx w K mg) : ∃ fd, FnP K d_canonical fd := T.c.def_ 56 (d := d_canonical) rfl
abbrev p_canonical : List Str := ["text"]
abbrev N_canonical : List Str := ["text"]
theorem sc_canonical : FnScope N_canonical p_canonical (defScope s_canonical) := ⟨rfl, rfl, rfl, by decide +kernel, rfl, by decide +kernel, by decide +kernel⟩
theorem b_canonical {fd : FuncData} (F : FnP K d_canonical fd) : Binds K fd p_canonical [] := FunD.bindsN F fun _ _ _ _ _ _ us hl => match us, hl with | [_], _ => rfl
theorem f_abbreviated (T : Tx w K mg) : ∃ fd, FnP K d_abbreviated fd := T.c.def_ 57 (d := d_abbreviated) rfl
abbrev p_abbreviated : List Str := ["text"]
abbrev N_abbreviated : List Str := ["text"]
theorem sc_abbreviated : FnScope N_abbreviated p_abbreviated (defScope s_abbreviated) := ⟨rfl, rfl, rfl, by decide +kernel, rfl, by decide +kernel, by decide +kernel⟩
theorem b_abbreviated {fd : FuncData} (F : FnP K d_abbreviated fd) : Binds K fd p_abbreviated [] := FunD.bindsN F fun _ _ _ _ _ _ us hl => match us, hl with | [_], _ => rfl
theorem f_Lstate (T : Tx w K mg) : ∃ fd, FnP K d_Lstate fd := T.c.def_ 58 (d := d_Lstate) rfl
abbrev p_Lstate : List Str := ["_law_script", "_law_k"]
abbrev N_Lstate : List Str := ["_law_script", "_law_k", "_law_cell"]
theorem sc_Lstate : FnScope N_Lstate p_Lstate (defScope s_Lstate) := ⟨rfl, rfl, rfl, by decide +kernel, rfl, by decide +kernel, by decide +kernel⟩
theorem b_Lstate {fd : FuncData} (F : FnP K d_Lstate fd) : Binds K fd p_Lstate [] := FunD.bindsN F fun _ _ _ _ _ _ us hl => match us, hl with | [_, _], _ => rfl
theorem f_Ldraw (T : Tx w K mg) : ∃ fd, FnP K d_Ldraw fd := T.c.def_ 59 (d := d_Ldraw) rfl
abbrev p_Ldraw : List Str := ["_law_state_here", "_law_many"]
abbrev N_Ldraw : List Str := ["_law_state_here", "_law_many", "_law_found", "_law_mixed"]
theorem sc_Ldraw : FnScope N_Ldraw p_Ldraw (defScope s_Ldraw) := ⟨rfl, rfl, rfl, by decide +kernel, rfl, by decide +kernel, by decide +kernel⟩
theorem b_Ldraw {fd : FuncData} (F : FnP K d_Ldraw fd) : Binds K fd p_Ldraw [] := FunD.bindsN F fun _ _ _ _ _ _ us hl => match us, hl with | [_, _], _ => rfl
theorem f_Lone (T : Tx w K mg) : ∃ fd, FnP K d_Lone fd := T.c.def_ 60 (d := d_Lone) rfl
abbrev p_Lone : List Str := ["_law_state_here", "_law_some"]
abbrev N_Lone : List Str := ["_law_state_here", "_law_some"]
theorem sc_Lone : FnScope N_Lone p_Lone (defScope s_Lone) := ⟨rfl, rfl, rfl, by decide +kernel, rfl, by decide +kernel, by decide +kernel⟩
theorem b_Lone {fd : FuncData} (F : FnP K d_Lone fd) : Binds K fd p_Lone [] := FunD.bindsN F fun _ _ _ _ _ _ us hl => match us, hl with | [_, _], _ => rfl
theorem f_Lsaid (T : Tx w K mg) : ∃ fd, FnP K d_Lsaid fd := T.c.def_ 61 (d := d_Lsaid) rfl
abbrev p_Lsaid : List Str := ["_law_ask", "_law_thing"]
abbrev N_Lsaid : List Str := ["_law_ask", "_law_thing", "e"]
theorem sc_Lsaid : FnScope N_Lsaid p_Lsaid (defScope s_Lsaid) := ⟨rfl, rfl, rfl, by decide +kernel, rfl, by decide +kernel, by decide +kernel⟩
theorem b_Lsaid {fd : FuncData} (F : FnP K d_Lsaid fd) : Binds K fd p_Lsaid [] := FunD.bindsN F fun _ _ _ _ _ _ us hl => match us, hl with | [_, _], _ => rfl
theorem f_Lwords (T : Tx w K mg) : ∃ fd, FnP K d_Lwords fd := T.c.def_ 62 (d := d_Lwords) rfl
abbrev p_Lwords : List Str := []
abbrev N_Lwords : List Str := ["_law_rows"]
theorem sc_Lwords : FnScope N_Lwords p_Lwords (defScope s_Lwords) := ⟨rfl, rfl, rfl, by decide +kernel, rfl, by decide +kernel, by decide +kernel⟩
theorem b_Lwords {fd : FuncData} (F : FnP K d_Lwords fd) : Binds K fd p_Lwords [] := FunD.bindsN F fun _ _ _ _ _ _ us hl => match us, hl with | [], _ => rfl
theorem f_Lcall (T : Tx w K mg) : ∃ fd, FnP K d_Lcall fd := T.c.def_ 63 (d := d_Lcall) rfl
abbrev p_Lcall : List Str := ["_law_state_here", "_law_word", "_law_many"]
abbrev N_Lcall : List Str := ["_law_state_here", "_law_word", "_law_many", "_law_text", "_law_spots", "_law_k"]
theorem sc_Lcall : FnScope N_Lcall p_Lcall (defScope s_Lcall) := ⟨rfl, rfl, rfl, by decide +kernel, rfl, by decide +kernel, by decide +kernel⟩
theorem b_Lcall {fd : FuncData} (F : FnP K d_Lcall fd) : Binds K fd p_Lcall [] := FunD.bindsN F fun _ _ _ _ _ _ us hl => match us, hl with | [_, _, _], _ => rfl
theorem f_Lcall_right (T : Tx w K mg) : ∃ fd, FnP K d_Lcall_right fd := T.c.def_ 64 (d := d_Lcall_right) rfl
abbrev p_Lcall_right : List Str := ["_law_state_here", "_law_word", "_law_least", "_law_most"]
abbrev N_Lcall_right : List Str := ["_law_state_here", "_law_word", "_law_least", "_law_most", "_law_many", "_law_text", "_law_spots", "_law_said_here", "_law_due"]
theorem sc_Lcall_right : FnScope N_Lcall_right p_Lcall_right (defScope s_Lcall_right) := ⟨rfl, rfl, rfl, by decide +kernel, rfl, by decide +kernel, by decide +kernel⟩
theorem b_Lcall_right {fd : FuncData} (F : FnP K d_Lcall_right fd) : Binds K fd p_Lcall_right [] := FunD.bindsN F fun _ _ _ _ _ _ us hl => match us, hl with | [_, _, _, _], _ => rfl
theorem f_law (T : Tx w K mg) : ∃ fd, FnP K d_law fd := T.c.def_ 65 (d := d_law) rfl
abbrev p_law : List Str := ["_law_script"]
abbrev N_law : List Str := ["_law_script", "_law_asks", "_law_odd", "_law_k", "_law_state_here", "_law_row", "_law_least", "_law_most", "_law_word", "_law_ask"]
theorem sc_law : FnScope N_law p_law (defScope s_law) := ⟨rfl, rfl, rfl, by decide +kernel, rfl, by decide +kernel, by decide +kernel⟩
theorem b_law {fd : FuncData} (F : FnP K d_law fd) : Binds K fd p_law [] := FunD.bindsN F fun _ _ _ _ _ _ us hl => match us, hl with | [_], _ => rfl
end
end K20
/-! K20Exc -/
namespace K20
open PySem PySem.Spec PyProof.Rows L2
/-! ### a def read off a class by name -/
def tCFn (C : Addr) (sp : Sp) (dvs : List V) (E : XK) (ta : TE) (t : TA) : TE := fun σ H Q => ta σ H fun x H1 => x = .ref C ∧ t σ H1 fun vs H2 => sp (vs ++ dvs) H2 Q E
section
variable {X : Cx} {CX : CXT} {k : Nat} {C g : Addr} {fd : FuncData} {ps : List Str} {ds : List Value} {dvs : List V} {mc : Value} {sp : Sp} {E : XK} {o e : Expr} {es : List Expr} {m : Str} {pos apos : Pos} {ta : TE} {t : TA} {pl : Sem Bool}
theorem pe_cfn (he : PE X o ta) (r : ClX.CRead X.K C mc) (c : ClX.CVal X.K C mc m (.ref g) (.ref g)) (hk : PySem.W.keepIn X.K (.ref g) = true) (F : FnOk X.prog X.w X.K X.mg X.base CX k g fd ps sp) (hr : Room k X.A) (hb : Binds X.K fd ps ds) (hd : Vals dvs ds) (hx : Passes CX X E) (ha : PA X (e :: es) t)
    (hst : starEach (e :: es) X.env = (false, eval e X.env) :: starEach es X.env := by rfl) (hpl : (backTo pos (starEach es X.env)).any (·.1) = false := by rfl)
    (ht : eval (.Call (.Attribute o m apos) (e :: es) [] pos) X.env = (do
      let ov ← eval o X.env
      standAt apos.atName
      let (f, first) ← holding [ov] (getMethod ov m pl)
      callWith pos f first (backTo pos (starEach (e :: es) X.env)) (backToKw pos (keywordEach [] X.env))) := by rfl) :
    PE X (.Call (.Attribute o m apos) (e :: es) [] pos) (tCFn C sp dvs E ta t) := by
  refine ⟨fun pins s σ H Q I h => ?_⟩
  refine PySem.W.methodCall_KW (pl := pl) (thn (he.run pins s σ H _ I h) fun u s1 ⟨x, H1, I1, rx, ex, q⟩ => ?_) ht
  subst ex
  obtain rfl : u = Value.ref C := rx
  refine PySem.W.method_cls I1.kIn r.ga (ClX.getcval_ok I1 r c fun s2 I2 => ?_)
  refine PySem.W.callWith_K (h₀ := X.base) I2.ok.mod.kin hk (thn (ha.run pos pins s2 σ H1 _ I2 q) fun us s3 ⟨vs, H2, I3, rv, q2⟩ => ⟨I3.kIn, ?_⟩) hst hpl
  exact run_fn F hr hb hd hx I3 rv q2
end
/-! ### the errors -/
section
variable {P : Program} {w : World} {K : PySem.W.Frag} {mg : Str → Option Value} {base : Heap}
theorem oex_of {x : Str} (h : oexB K x = true) : OexC K (He.ga K x) ∧ XfC K (He.ga K x) := by
  unfold oexB at h
  obtain ⟨h0, h⟩ := He.ba h
  obtain ⟨h1, h⟩ := He.ba h
  obtain ⟨h2, h⟩ := He.ba h
  obtain ⟨h3, h⟩ := He.ba h
  obtain ⟨h4, h5⟩ := He.ba h
  refine ⟨⟨?_, of_decide_eq_true h1, of_decide_eq_true h2, of_decide_eq_true h3, h4⟩, xfB_ok h5⟩
  cases q : K.lookup (He.ga K x) with
  | none =>
    rw [q] at h0
    cases h0
  | some o =>
    obtain ⟨oc, od, dt, osl⟩ := o
    rw [q] at h0
    cases oc with
    | type c =>
      cases dt with
      | cls cd =>
        obtain ⟨e0, h0⟩ := He.ba h0
        obtain ⟨nm, bs, mro, ns, qn, hdc, sn, sub, ab, col, hdel⟩ := cd
        obtain ⟨sl⟩ := osl
        dsimp only at h0
        split at h0
        · rename_i C' bm k0 k1 k2 k3 n k5 hh
          obtain ⟨a1, h0⟩ := He.ba h0
          obtain ⟨a2, h0⟩ := He.ba h0
          obtain ⟨a3, h0⟩ := He.ba h0
          obtain ⟨a4, a5⟩ := He.ba h0
          have e1 : C' = He.ga K x := of_decide_eq_true a1
          have e2 : n = "ValueError.__new__" := of_decide_eq_true a2
          have e3 : hdel = false := by
            cases hdel with
            | false => rfl
            | true => cases a3
          have e4 : hdc = true := a4
          have e5 : c = "type" := of_decide_eq_true e0
          subst e1 e2 e3 e4 e5
          exact ⟨nm, qn, ns, bs, bm, sn, sub, ab, col, od, k0, k1, k2, k3, k5, rfl, a5⟩
        · cases h0
      | _ => cases h0
    | _ => cases dt <;> cases h0
theorem init_of {x : Str} (h : initB K x = true) : PySem.W.findIn K (.ref (He.ga K x)) "__init__" = some (some (.ref (He.ma K (He.ga K x) "__init__"))) ∧ PySem.W.typeIn K (.ref (He.ma K (He.ga K x) "__init__")) = some (.type "function") := by
  obtain ⟨h1, h2⟩ := He.ba h
  exact ⟨of_decide_eq_true h1, of_decide_eq_true h2⟩

theorem base_of (h : baseB K = true) : ClX.CRead K (He.ga K "TreeError") (.type "type") ∧ ClX.CVal K (He.ga K "TreeError") (.type "type") "__init__" (.ref (He.fAd K d_TreeError_init.at_)) (.ref (He.fAd K d_TreeError_init.at_)) := by
  unfold baseB at h
  obtain ⟨h0, h⟩ := He.ba h
  obtain ⟨h1, h2⟩ := He.ba h
  refine ⟨⟨h1, of_decide_eq_true h2⟩, ⟨?_, rfl⟩⟩
  cases q : PySem.W.findCls K (.ref (He.ga K "TreeError")) (.type "type") "__init__" with
  | none =>
    rw [q] at h0
    cases h0
  | some r =>
    rw [q] at h0
    cases r with
    | val v =>
      cases v with
      | ref f =>
        have e : f = He.ma K (He.ga K "TreeError") "__init__" := of_decide_eq_true h0
        rw [e]
        rfl
      | _ => cases h0
    | get g a b c => cases h0
theorem mores (T : Tx w K mg) : oexB K "BadValue" = true ∧ oexB K "NotPath" = true ∧ initB K "BadValue" = true ∧ initB K "NotPath" = true ∧ baseB K = true ∧ He.valsB K (He.ga K "RANKS") ranksKvs = true ∧ He.valsB K (He.ga K "KINDS") kindsKvs = true ∧ funB K (He.ga K "FUNCTIONS") = true ∧ strsB K "SIGNS" signsL = true ∧ strsB K "OPERATOR_WORDS" opWordsL = true ∧ strsB K "OPERATOR_SIGNS" opSignsL = true ∧ strsB K "AXES" axesL = true ∧ nbB K = true ∧ isB K = true := by
  have h := T.more
  unfold ex at h
  simpa only [Bool.and_eq_true] using h
theorem more_of (T : Tx w K mg) : oexB K "BadValue" = true ∧ oexB K "NotPath" = true ∧ initB K "BadValue" = true ∧ initB K "NotPath" = true ∧ baseB K = true ∧ He.valsB K (He.ga K "RANKS") ranksKvs = true := by
  obtain ⟨h1, h2, h3, h4, h5, h6, _⟩ := mores T
  exact ⟨h1, h2, h3, h4, h5, h6⟩
theorem nb_of (T : Tx w K mg) : nbB K = true := by
  obtain ⟨_, _, _, _, _, _, _, _, _, _, _, _, h, _⟩ := mores T
  exact h
theorem vals_of : ∀ {vs : List He.Dv} (us : List Value), ((us.zip vs).all fun q => He.relB (q.2.v K) q.1) = true → us.length = vs.length → Vals (vs.map (He.Dv.v K)) us
  | [], [], _, _ => .nil
  | v :: vs, u :: us, h, e => by
    have h4 : (He.relB (v.v K) u && (us.zip vs).all fun q => He.relB (q.2.v K) q.1) = true := h
    obtain ⟨h5, h6⟩ := He.ba h4
    exact .cons (He.relB_ok h5) (vals_of us h6 (Nat.succ.inj e))
  | [], _ :: _, _, e => by cases e
  | _ :: _, [], _, e => by cases e
/-- a tuple of the head -/
theorem tup_of {a : Addr} {vs : List He.Dv} (h : tupB K a vs = true) (hl : vs.length ≤ sizeLine := by decide) : ∀ H, SqT K H a (vs.map (He.Dv.v K)) := by
  intro H
  unfold tupB at h
  cases q : K.lookup a with
  | none =>
    rw [q] at h
    cases h
  | some o =>
    obtain ⟨oc, od, dt, osl⟩ := o
    rw [q] at h
    cases dt with
    | seq us n =>
      obtain ⟨h1, h⟩ := He.ba h
      obtain ⟨h2, h3⟩ := He.ba h
      cases oc with
      | type c =>
        have ec : c = "tuple" := of_decide_eq_true h1
        subst ec
        have el : us.size = vs.length := of_decide_eq_true h2
        refine .inr ⟨_, us, n, q, rfl, rfl, by rw [el]; exact hl, ?_⟩
        obtain ⟨us⟩ := us
        exact vals_of us h3 el
      | _ => cases h1
    | _ => cases h
theorem strs_of {x : Str} {l : List Str} (h : strsB K x l = true) (hl : l.length ≤ sizeLine := by decide) : ∀ H, SqT K H (He.ga K x) (l.map V.str) := by
  intro H
  have := tup_of h (by rw [List.length_map]; exact hl) H
  rw [List.map_map] at this
  exact this
theorem none_booked (T : Tx w K mg) : ∀ h : Heap, K.In h → NoneBooked h := by
  intro h hK
  have hb := nb_of T
  unfold nbB at hb
  cases e : List.lookup cStatics K with
  | none => rw [e] at hb; cases hb
  | some o =>
    rw [e] at hb
    dsimp only at hb
    cases e2 : o.data with
    | dict es ep =>
      rw [e2] at hb
      dsimp only at hb
      rw [Bool.and_eq_true] at hb
      refine ⟨nsFind es, ⟨o, es, ep, hK _ _ e, e2, fun x hx => ?_, fun _ => rfl⟩, ?_⟩
      · have h1 := List.all_eq_true.mp hb.1 x (Array.mem_toList_iff.mpr hx)
        cases e3 : x.key with
        | str n t => exact ⟨n, t, rfl⟩
        | _ => rw [e3] at h1; cases h1
      · have h2 := hb.2
        cases e4 : nsFind es sharingNotToldKey with
        | none => rfl
        | some v => rw [e4] at h2; cases h2
    | _ => rw [e2] at hb; cases hb
abbrev CN (K : PySem.W.Frag) : Addr := He.ga K "NotPath"
abbrev CB (K : PySem.W.Frag) : Addr := He.ga K "BadValue"
/-- TreeError.__init__ -/
def spTE (K : PySem.W.Frag) : Sp := fun vs H Q _ => ∃ (a C : Addr) (y : V), vs = [.ref a, y] ∧ OexC K C ∧ PySem.W.findIn K (.ref C) "why" = some none ∧ H a = some (exo a C none) ∧
  ∀ dx, H dx = none → dx ≠ a → Q .non (upd (upd H dx (exd dx [("why", y)])) a (exo a C (some dx)))
theorem ok_TE (T : Tx w K mg) : ∃ fd ds, FnOk P w K mg base CX0 1 (He.fAd K d_TreeError_init.at_) fd p_TreeError_init (spTE K) ∧ Binds K fd p_TreeError_init ds ∧ Vals [] ds ∧ PySem.W.keepIn K (.ref (He.fAd K d_TreeError_init.at_)) = true := by
  obtain ⟨fd, F⟩ := f_TreeError_init T
  obtain ⟨ds, vd, bd⟩ := FunD.binds1 (ps := p_TreeError_init) F 2 1 (by intro h; cases h) rfl (fun T kV doc pm an cdv ct us its hl hi => match us, hl, its, hi with | [_, _], _, [_], _ => ⟨_, rfl, rfl⟩)
  refine ⟨fd, ds, ?_, bd, vd, F.kp⟩
  refine F.ok sc_TreeError_init (fun vs H Q E h => ?_) (fun cdv A outer s H vs Q E hr h => ?_)
  · obtain ⟨a, C, y, rfl, _⟩ := h
    rfl
  · obtain ⟨a, C, y, rfl, O, n, ha, k⟩ := h
    refine ⟨_, PSs.nox (pss_one (ps_ost (pv 0) (pv 1))), ?_⟩
    exact ⟨_, rfl, _, rfl, a, C, rfl, O, n, .inl ⟨ha, fun dx hd ne => k dx hd ne⟩⟩
/-- NotPath.__init__ -/
def spND (K : PySem.W.Frag) : Sp := fun vs H Q _ => ∃ (a : Addr) (n : Int), vs = [.ref a, .int n] ∧ n.natAbs.log2 < 1920 ∧ H a = some (exo a (CN K) none) ∧
  ∀ dx y H', H dx = none → dx ≠ a → H' = upd (upd (upd H dx (exd dx [("why", y)])) a (exo a (CN K) (some dx))) dx (exd dx [("at", .int n), ("why", y)]) → Q .non H'
theorem ok_ND (T : Tx w K mg) : ∃ fd, FnOk P w K mg base CX0 2 (He.fAd K d_NotPath_init.at_) fd p_NotPath_init (spND K) ∧ Binds K fd p_NotPath_init [] ∧ PySem.W.keepIn K (.ref (He.fAd K d_NotPath_init.at_)) = true := by
  obtain ⟨fd, F⟩ := f_NotPath_init T
  obtain ⟨mB, mN, iB, iN, bs, _⟩ := more_of T
  obtain ⟨fT, dT, GT, bT, vT, kT⟩ := ok_TE (P := P) (base := base) T
  obtain ⟨rd, cv⟩ := base_of bs
  obtain ⟨O, X⟩ := oex_of mN
  refine ⟨fd, ?_, b_NotPath_init F, F.kp⟩
  refine F.ok sc_NotPath_init (fun vs H Q E h => ?_) (fun cdv A outer s H vs Q E hr h => ?_)
  · obtain ⟨a, n, rfl, _⟩ := h
    rfl
  · obtain ⟨a, n, rfl, hn, ha, k⟩ := h
    refine ⟨_, PSs.nox (pss_cons (ps_expr (pe_cfn (pe_glob (v := .ref (He.ga K "TreeError")) rfl (g_TreeError T) rfl) rd cv kT GT hr bT vT pass0 (pa_cons (pv 0) (pa_cons (pe_joined (.cons pe_str (.cons (pe_fmt (pv 1)) .nil))) pa_nil)))) (pss_one (ps_ost (pv 0) (pv 1)))), ?_⟩
    refine ⟨rfl, _, rfl, _, rfl, ?_, _, rfl, .inr ⟨n, rfl, hn, _, rfl, ?_, ?_⟩⟩
    · decide +kernel
    · have e := int_text_length_le (k := 1920) (by decide) hn
      rw [Str.length_append, show sizeLine = 16777216 from sizeLine_eq]
      have e2 : (Str.empty ++ Str.ofString "no path goes on like this at ").length ≤ 100 := by decide +kernel
      rw [PySem.ofString_length]
      omega
    · refine ⟨a, CN K, _, rfl, O, na_NotPath_why T, ha, fun dx hd ne => ?_⟩
      refine ⟨_, rfl, _, rfl, a, CN K, rfl, O, na_NotPath_at T, .inr ⟨dx, _, upd_same, (upd_ne ne).trans upd_same, (by show 1 ≤ 900; decide), ?_⟩⟩
      exact k dx _ _ hd ne rfl

/-- BadValue.__init__ -/
def spBV (K : PySem.W.Frag) : Sp := fun vs H Q _ => ∃ (a : Addr) (y : V), vs = [.ref a, y] ∧ H a = some (exo a (CB K) none) ∧
  ∀ dx, H dx = none → dx ≠ a → Q .non (upd (upd H dx (exd dx [("why", y)])) a (exo a (CB K) (some dx)))
theorem ok_BV (T : Tx w K mg) : ∃ fd ds, FnOk P w K mg base CX0 2 (He.fAd K d_BadValue_init.at_) fd p_BadValue_init (spBV K) ∧ Binds K fd p_BadValue_init ds ∧ Vals [] ds ∧ PySem.W.keepIn K (.ref (He.fAd K d_BadValue_init.at_)) = true := by
  obtain ⟨fd, F⟩ := f_BadValue_init T
  obtain ⟨mB, mN, iB, iN, bs, _⟩ := more_of T
  obtain ⟨fT, dT, GT, bT, vT, kT⟩ := ok_TE (P := P) (base := base) T
  obtain ⟨rd, cv⟩ := base_of bs
  obtain ⟨O, X⟩ := oex_of mB
  obtain ⟨ds, vd, bd⟩ := FunD.binds1 (ps := p_BadValue_init) F 2 1 (by intro h; cases h) rfl (fun T kV doc pm an cdv ct us its hl hi => match us, hl, its, hi with | [_, _], _, [_], _ => ⟨_, rfl, rfl⟩)
  refine ⟨fd, ds, ?_, bd, vd, F.kp⟩
  refine F.ok sc_BadValue_init (fun vs H Q E h => ?_) (fun cdv A outer s H vs Q E hr h => ?_)
  · obtain ⟨a, n, rfl, _⟩ := h
    rfl
  · obtain ⟨a, y, rfl, ha, k⟩ := h
    refine ⟨_, PSs.nox (pss_one (ps_expr (pe_cfn (pe_glob (v := .ref (He.ga K "TreeError")) rfl (g_TreeError T) rfl) rd cv kT GT hr bT vT pass0 (pa_cons (pv 0) (pa_cons (pv 1) pa_nil))))), ?_⟩
    exact ⟨rfl, _, rfl, _, rfl, a, CB K, y, rfl, O, na_BadValue_why T, ha, fun dx hd ne => k dx hd ne⟩
end
/-! ### raise -/
section
variable {X : Cx} {W : WX} {e : Expr} {te : TE} {p p2 pos : Pos}
theorem back_eq {H1 H2 : Hp} {a d : Addr} {o : HO} (h1 : H1 a = none) (hd : d ≠ a) (h2 : ∀ b, b ≠ a → b ≠ d → H2 b = H1 b) : upd (del H2 a) d o = upd H1 d o := by
  funext b
  by_cases e : b = d
  · rw [e, upd_same, upd_same]
  · rw [upd_ne e, upd_ne e]
    by_cases e2 : b = a
    · rw [e2, del_same, h1]
    · rw [del_ne e2, h2 b e2 e]
/-- NotPath(e) -/
theorem pmk_nd {ta : TA} (T : Tx X.w X.K X.mg) (hr : Room 3 X.A) (ha : PA X (e :: []) ta) (hg : Gl X "NotPath" := by rfl)
    (hs : starEach (e :: []) X.env = (false, eval e X.env) :: starEach [] X.env := by rfl) (hpl : (backTo p2 (starEach [] X.env)).any (·.1) = false := by rfl) :
    PMk X (.Call (.Name "NotPath" p) (e :: []) [] p2) (tMkO (CN X.K) (spND X.K) [] ta) := by
  obtain ⟨mB, mN, iB, iN, bs, _⟩ := more_of T
  obtain ⟨O, _⟩ := oex_of mN
  obtain ⟨i1, i2⟩ := init_of iN
  obtain ⟨fd, G, b, kp⟩ := ok_ND (P := X.prog) (base := X.base) T
  exact pmk_oex O i1 i2 G hr b .nil pass0 hg (g_NotPath T) ha (by decide) hs hpl
theorem nd_ok {K : PySem.W.Frag} {H1 : Hp} {n : Int} {Q : XK} (hn : n.natAbs.log2 < 1920) (h : ∀ d y, H1 d = none → Q (.ref (CN K)) (some d) (upd H1 d (.xd [("at", .int n), ("why", y)]))) :
    ([V.int n] : List V).length ≤ 1000 ∧ ∀ a, H1 a = none → spND K (.ref a :: ([V.int n] ++ [])) (upd H1 a (exo a (CN K) none))
      (fun v H2 => v = .non ∧ ∃ (d : Addr) (fs : List (Str × V)), H2 a = some (exo a (CN K) (some d)) ∧ H2 d = some (exd d fs) ∧ H1 d = none ∧ Q (.ref (CN K)) (some d) (upd (del H2 a) d (.xd fs))) (fun _ _ _ => False) := by
  refine ⟨by show 1 ≤ 1000; decide, fun a ha => ⟨a, n, rfl, hn, upd_same, fun dx y H' hd ne e => ?_⟩⟩
  have hd1 : H1 dx = none := by rw [upd_ne ne] at hd; exact hd
  subst e
  refine ⟨rfl, dx, _, by rw [upd_ne (Ne.symm ne), upd_same], upd_same, hd1, ?_⟩
  rw [back_eq ha ne (fun b hb hb2 => by rw [upd_ne hb2, upd_ne hb, upd_ne hb2, upd_ne hb])]
  exact h dx y hd1
theorem pmk_bv {ta : TA} (T : Tx X.w X.K X.mg) (hr : Room 3 X.A) (ha : PA X (e :: []) ta) (hg : Gl X "BadValue" := by rfl)
    (hs : starEach (e :: []) X.env = (false, eval e X.env) :: starEach [] X.env := by rfl) (hpl : (backTo p2 (starEach [] X.env)).any (·.1) = false := by rfl) :
    PMk X (.Call (.Name "BadValue" p) (e :: []) [] p2) (tMkO (CB X.K) (spBV X.K) [] ta) := by
  obtain ⟨mB, mN, iB, iN, bs, _⟩ := more_of T
  obtain ⟨O, _⟩ := oex_of mB
  obtain ⟨i1, i2⟩ := init_of iB
  obtain ⟨fd, ds, G, b, vd, kp⟩ := ok_BV (P := X.prog) (base := X.base) T
  exact pmk_oex O i1 i2 G hr b vd pass0 hg (g_BadValue T) ha (by decide) hs hpl
theorem bv_ok {K : PySem.W.Frag} {H1 : Hp} {y : V} {Q : XK} (h : ∀ d, H1 d = none → Q (.ref (CB K)) (some d) (upd H1 d (.xd [("why", y)]))) :
    ([y] : List V).length ≤ 1000 ∧ ∀ a, H1 a = none → spBV K (.ref a :: ([y] ++ [])) (upd H1 a (exo a (CB K) none))
      (fun v H2 => v = .non ∧ ∃ (d : Addr) (fs : List (Str × V)), H2 a = some (exo a (CB K) (some d)) ∧ H2 d = some (exd d fs) ∧ H1 d = none ∧ Q (.ref (CB K)) (some d) (upd (del H2 a) d (.xd fs))) (fun _ _ _ => False) := by
  refine ⟨by show 1 ≤ 1000; decide, fun a ha => ⟨a, y, rfl, upd_same, fun dx hd ne => ?_⟩⟩
  have hd1 : H1 dx = none := by rw [upd_ne ne] at hd; exact hd
  refine ⟨rfl, dx, _, upd_same, by rw [upd_ne ne, upd_same], hd1, ?_⟩
  rw [back_eq ha ne (fun b hb hb2 => by rw [upd_ne hb, upd_ne hb2, upd_ne hb])]
  exact h dx hd1
end
end K20
/-! K20Spec -/
/-! What the tokens of a path's text are, on lists of codes. Plain Lean. -/
namespace K20
def isBl (c : Nat) : Bool := c == 32 || c == 9 || c == 10
def isLt (c : Nat) : Bool := (97 ≤ c && c ≤ 122) || (65 ≤ c && c ≤ 90) || c == 95
def isWd (c : Nat) : Bool := isLt c || (48 ≤ c && c ≤ 57) || c == 45 || c == 46
def isSg (c : Nat) : Bool := (32 ≤ c && c ≤ 126) || c == 9 || c == 10
def isDg (c : Nat) : Bool := 48 ≤ c && c ≤ 57
/-- how many signs at the head are such -/
def spN (p : Nat → Bool) : List Nat → Nat
  | [] => 0
  | c :: r => if p c then spN p r + 1 else 0
/-- is the first sign such a one -/
def hP (p : Nat → Bool) : List Nat → Bool
  | [] => false
  | c :: _ => p c
def nmN (l : List Nat) : Nat :=
  if hP (· == 58) (l.drop (spN isWd l)) && hP isLt (l.drop (spN isWd l + 1)) then spN isWd l + 1 + spN isWd (l.drop (spN isWd l + 1)) else spN isWd l
def nuN (l : List Nat) : Nat :=
  if hP (· == 46) (l.drop (spN isDg l)) then spN isDg l + 1 + spN isDg (l.drop (spN isDg l + 1)) else spN isDg l
inductive Ki where
  | nam | num | txt | sgn | opn | brk | fin
deriving DecidableEq
/-- a token: its kind, its length -/
def sgL : List (List Nat) := [[58, 58], [47, 47], [46, 46], [33, 61], [60, 61], [62, 61], [47], [46], [64], [36], [42], [124], [43], [45], [61], [60], [62], [40], [41], [91], [93], [44]]
def sgN (l : List Nat) : Option (List Nat) := sgL.find? fun w => l.take w.length == w
def qtN (l : List Nat) : Nat := spN (fun c => isSg c && c != 39 && c != 34) l
def tkN : List Nat → Ki × Nat
  | [] => (.fin, 0)
  | c :: r =>
    if isLt c then (.nam, nmN (c :: r))
    else if isDg c || (c == 46 && hP isDg r) then (.num, nuN (c :: r))
    else if c == 39 || c == 34 then
      let n := spN (fun d => isSg d && d != c) r
      if hP (· == c) (r.drop n) then (.txt, n + 2) else (.opn, n + 1)
    else match sgN (c :: r) with
      | some w => (.sgn, w.length)
      | none => (.brk, 1)
def Ki.ends : Ki → Bool
  | .fin | .opn | .brk => true
  | _ => false
/-- the tokens behind the place i: fuel, the place, the signs from there -/
def tksN : Nat → Nat → List Nat → List (Ki × List Nat × Nat)
  | 0, _, _ => []
  | f + 1, i, l =>
    let b := spN isBl l
    let t := tkN (l.drop b)
    let wd := (l.drop b).take t.2
    (t.1, wd, i + b) :: if t.1.ends then [] else tksN f (i + b + wd.length) (l.drop (b + wd.length))
theorem spN_le (p : Nat → Bool) : ∀ l : List Nat, spN p l ≤ l.length
  | [] => Nat.le_refl _
  | c :: r => by
    show (if p c = true then spN p r + 1 else 0) ≤ r.length + 1
    have := spN_le p r
    split <;> omega
theorem nmN_pos {c : Nat} {r : List Nat} (h : isLt c = true) : 1 ≤ nmN (c :: r) := by
  have hw : isWd c = true := by
    unfold isWd
    rw [h]
    rfl
  have e : spN isWd (c :: r) = spN isWd r + 1 := by
    show (if isWd c = true then spN isWd r + 1 else 0) = _
    rw [if_pos hw]
  unfold nmN
  split <;> omega
theorem nuN_pos {c : Nat} {r : List Nat} (h : (isDg c || (c == 46 && hP isDg r)) = true) : 1 ≤ nuN (c :: r) := by
  unfold nuN
  split
  · omega
  · rename_i h2
    have e : spN isDg (c :: r) = if isDg c = true then spN isDg r + 1 else 0 := rfl
    cases hd : isDg c with
    | true => rw [e, hd, if_pos rfl]; omega
    | false =>
      rw [hd, Bool.false_or, Bool.and_eq_true] at h
      rw [e, hd, if_neg Bool.false_ne_true] at h2
      exact absurd h.1 h2
theorem sgN_len {l w : List Nat} (h : sgN l = some w) : 1 ≤ w.length := by
  unfold sgN at h
  have hm := List.mem_of_find?_eq_some h
  have : ∀ w ∈ sgL, 1 ≤ w.length := by decide
  exact this w hm
theorem tkN_pos {l : List Nat} (h : (tkN l).1.ends = false) : 1 ≤ (tkN l).2 ∧ l ≠ [] := by
  cases l with
  | nil => cases h
  | cons c r =>
    refine ⟨?_, List.cons_ne_nil c r⟩
    have htk : tkN (c :: r) = if isLt c = true then (.nam, nmN (c :: r)) else if (isDg c || (c == 46 && hP isDg r)) = true then (.num, nuN (c :: r)) else if (c == 39 || c == 34) = true then
          (if hP (· == c) (r.drop (spN (fun d => isSg d && d != c) r)) = true then (.txt, spN (fun d => isSg d && d != c) r + 2) else (.opn, spN (fun d => isSg d && d != c) r + 1))
        else match sgN (c :: r) with
          | some w => (.sgn, w.length)
          | none => (.brk, 1) := rfl
    rw [htk] at h ⊢
    split
    · rename_i h1
      exact nmN_pos h1
    · split
      · rename_i h1
        exact nuN_pos h1
      · split
        · split
          · show 1 ≤ spN _ r + 2
            omega
          · show 1 ≤ spN _ r + 1
            omega
        · cases hs : sgN (c :: r) with
          | some w => exact sgN_len hs
          | none => exact Nat.le_refl _
end K20
/-! K20Str -/
namespace K20
open PySem PySem.Spec PyProof.Rows L2 TL
/-! ### texts by their codes -/
def mkS (l : List Nat) : Str := ⟨l.toArray⟩
theorem tl_mkS (l : List Nat) : tl (mkS l) = l := rfl
theorem mkS_tl (z : Str) : mkS (tl z) = z := mk_tl z
theorem mkS_len (l : List Nat) : (mkS l).length = l.length := by rw [len_tl, tl_mkS]
/-- the next sign, as a text -/
abbrev sg (l : List Nat) : Str := mkS (l.take 1)
theorem mkS_inj {a b : List Nat} (h : mkS a = mkS b) : a = b := by
  have e := congrArg tl h
  exact e
theorem lit {s : String} {l : List Nat} (h : s.toList.map Char.toNat = l := by rfl) : (Str.ofString s) = mkS l := ext_tl (by rw [tl_ofString, h, tl_mkS])
theorem dec_str (a b : Str) : decide (V.str a = V.str b) = decide (tl a = tl b) := by
  by_cases h : a = b
  · subst h
    simp
  · have h1 : ¬ V.str a = V.str b := fun e => h (V.str.inj e)
    have h2 : ¬ tl a = tl b := fun e => h (ext_tl e)
    simp [h1, h2]
theorem eqV_str (a b : Str) : eqV (.str a) (.str b) = decide (tl a = tl b) := by
  show (a == b) = _
  rw [← dec_str]
  by_cases h : a = b
  · subst h
    simp
  · have h1 : ¬ V.str a = V.str b := fun e => h (V.str.inj e)
    simp [h, h1]
def hB (p : Nat → Bool) : List Nat → Bool
  | c :: _ => p c
  | [] => false
theorem cut_nat (z : Str) (i j : Nat) : cutS z (some (i : Int)) (some (j : Int)) = mkS (((tl z).drop i).take (j - i)) := by
  refine ext_tl ?_
  show ((z.cps.toList.drop (HT.sIx z.length 0 (some (i : Int)))).take (HT.sIx z.length z.length (some (j : Int)) - HT.sIx z.length 0 (some (i : Int)))) = ((tl z).drop i).take (j - i)
  rw [HT.sIx_nat, HT.sIx_nat]
  have hl : z.length = (tl z).length := len_tl z
  rw [hl]
  show (((tl z).drop (min i (tl z).length)).take (min j (tl z).length - min i (tl z).length)) = _
  generalize tl z = t
  by_cases h : i ≤ t.length
  · rw [Nat.min_eq_left h]
    by_cases h2 : j ≤ t.length
    · rw [Nat.min_eq_left h2]
    · rw [Nat.min_eq_right (Nat.le_of_not_le h2), List.take_of_length_le (by rw [List.length_drop]; omega), List.take_of_length_le (by rw [List.length_drop]; omega)]
  · have h' := Nat.le_of_not_le h
    rw [Nat.min_eq_right h', List.drop_of_length_le (Nat.le_refl _), List.drop_of_length_le h']
    simp
theorem cut_one (z : Str) (i : Nat) : cutS z (some (i : Int)) (some ((i : Int) + 1)) = sg ((tl z).drop i) := by
  have e : ((i : Int) + 1) = ((i + 1 : Nat) : Int) := by omega
  rw [e, cut_nat, show i + 1 - i = 1 by omega]
theorem dec1 (a c : Nat) : decide ([a] = [c]) = (c == a) := by
  by_cases h : c = a
  · subst h
    simp
  · rw [decide_eq_false (fun e => h (List.cons.inj e).1.symm)]
    exact (beq_eq_false_iff_ne.mpr h).symm
theorem sg_cons (c : Nat) (r : List Nat) : sg (c :: r) = mkS [c] := rfl
theorem sg_nil : sg [] = mkS [] := rfl
/-! ### the signs -/
section
variable {P : Program} {w : World} {K : PySem.W.Frag} {mg : Str → Option Value} {base : Heap}
/-- a def of a text of one sign (or none) that tells a truth, and changes nothing -/
def spSg (p : Nat → Bool) : Sp := fun vs H Q _ => ∃ l : List Nat, vs = [.str (sg l)] ∧ ∀ H', Same H H' → Q (.bl (hB p l)) H'
theorem same_new {H : Hp} {p : Addr} {o : HO} (h : H p = none) : Same H (upd H p o) := fun b o' e => by rw [upd_ne (ne_of_none e h)]; exact e
theorem ok_is_blank (T : Tx w K mg) : ∃ fd, FnOk P w K mg base CX0 1 (He.fAd K d_is_blank.at_) fd p_is_blank (spSg isBl) ∧ Binds K fd p_is_blank [] ∧ PySem.W.keepIn K (.ref (He.fAd K d_is_blank.at_)) = true := by
  obtain ⟨fd, F⟩ := f_is_blank T
  refine ⟨fd, ?_, b_is_blank F, F.kp⟩
  refine F.ok sc_is_blank (fun vs H Q E h => ?_) (fun cdv A outer s H vs Q E hr h => ?_)
  · obtain ⟨l, rfl, _⟩ := h
    rfl
  · obtain ⟨l, rfl, k⟩ := h
    refine ⟨_, PSs.nox (pss_one (ps_ret (pe_cmpR op_in_seq (pv 0) (pe_tup (pa_cons pe_str (pa_cons pe_str (pa_cons pe_str pa_nil)))) (by rfl)))), ?_⟩
    refine ⟨_, rfl, (by show 3 ≤ sizeLine; decide), fun p hp => ⟨p, _, rfl, .inr (SqT.of upd_same), rfl, rfl, ?_⟩⟩
    have e : inV (.str (sg l)) [.str (Str.ofString " "), .str (Str.ofString "\t"), .str (Str.ofString "\n")] = hB isBl l := by
      show (eqV _ _ || (eqV _ _ || (eqV _ _ || false))) = _
      rw [eqV_str, eqV_str, eqV_str, lit (s := " ") (l := [32]), lit (s := "\t") (l := [9]), lit (s := "\n") (l := [10]), tl_mkS, tl_mkS, tl_mkS, tl_mkS]
      cases l with
      | nil => rfl
      | cons c r =>
        show (decide ([32] = [c]) || (decide ([9] = [c]) || (decide ([10] = [c]) || false))) = isBl c
        rw [dec1, dec1, dec1]
        unfold isBl
        cases c == 32 <;> cases c == 9 <;> cases c == 10 <;> rfl
    show Q (.bl (if false = true then !inV _ _ else inV _ _)) _
    rw [if_neg Bool.false_ne_true, e]
    exact k _ (same_new hp)
end
end K20
/-! K20Sig -/
namespace K20
open PySem PySem.Spec PyProof.Rows L2 TL
theorem hB_sg {p : Nat → Bool} {c : Nat} {r : List Nat} : hB p (c :: r) = p c := rfl
theorem lt1 (a b : Nat) : decide ([a] < [b]) = decide (a < b) := by
  by_cases h : a < b
  · rw [decide_eq_true h, decide_eq_true (List.cons_lt_cons_iff.mpr (.inl h))]
  · rw [decide_eq_false h]
    refine decide_eq_false fun e => ?_
    rcases List.cons_lt_cons_iff.mp e with e | ⟨_, e⟩
    · exact h e
    · exact absurd e (by simp)
theorem lt0 (b : Nat) : decide (([] : List Nat) < [b]) = true := decide_eq_true (List.nil_lt_cons _ _)
theorem dec1r (a c : Nat) : decide ([c] = [a]) = (c == a) := by
  by_cases h : c = a
  · subst h
    simp
  · rw [decide_eq_false (fun e => h (List.cons.inj e).1)]
    exact (beq_eq_false_iff_ne.mpr h).symm
def spSgA (p : Nat → Bool) : Sp := fun vs H Q _ => ∃ l : List Nat, vs = [.str (sg l)] ∧ (∀ c r, l = c :: r → c < 128) ∧ ∀ H', Same H H' → Q (.bl (hB p l)) H'
abbrev Ok (P : Program) (w : World) (K : PySem.W.Frag) (mg : Str → Option Value) (base : Heap) (CX : CXT) (k : Nat) (f : Addr) (ps : List Str) (sp : Sp) : Prop :=
  ∃ fd, FnOk P w K mg base CX k f fd ps sp ∧ Binds K fd ps [] ∧ PySem.W.keepIn K (.ref f) = true
section
variable {P : Program} {w : World} {K : PySem.W.Frag} {mg : Str → Option Value} {base : Heap}
theorem ok_is_sign (T : Tx w K mg) : Ok P w K mg base CX0 1 (He.fAd K d_is_sign.at_) p_is_sign (spSg isSg) := by
  obtain ⟨fd, F⟩ := f_is_sign T
  refine ⟨fd, ?_, b_is_sign F, F.kp⟩
  refine F.ok sc_is_sign (fun vs H Q E h => ?_) (fun cdv A outer s H vs Q E hr h => ?_)
  · obtain ⟨l, rfl, _⟩ := h
    rfl
  · obtain ⟨l, rfl, k⟩ := h
    refine ⟨_, PSs.nox (pss_one (ps_ret (pe_or (pe_chain op_le_str op_le_str pe_str (pv 0) pe_str) (pe_one (pe_cmpR op_in_seq (pv 0) (pe_tup (pa_cons pe_str (pa_cons pe_str pa_nil))) (by rfl)))))), ?_⟩
    have tup : ∀ (B : Bool), (B = false → hB isSg l = (inV (.str (sg l)) [.str (Str.ofString "\t"), .str (Str.ofString "\n")])) → (B = true → hB isSg l = true) → ∃ c, V.bl B = .bl c ∧ if c = true then Q (.bl true) H else
        ∃ v, (start N_is_sign [V.str (sg l)])[0]? = some (some v) ∧ (2 ≤ sizeLine) ∧ ∀ p, H p = none → rIn K false v (.ref p) (upd H p (.tup [.str (Str.ofString "\t"), .str (Str.ofString "\n")])) Q := by
      intro B h1 h2
      refine ⟨B, rfl, ?_⟩
      cases B with
      | true =>
        rw [if_pos rfl]
        have e := k H (Same.refl H)
        rw [h2 rfl] at e
        exact e
      | false =>
        rw [if_neg Bool.false_ne_true]
        refine ⟨_, rfl, (by decide), fun p hp => ⟨p, _, rfl, .inr (SqT.of upd_same), rfl, rfl, ?_⟩⟩
        show Q (.bl (if false = true then !inV _ _ else inV _ _)) _
        rw [if_neg Bool.false_ne_true, ← h1 rfl]
        exact k _ (same_new hp)
    have e9 : ∀ c r, l = c :: r → inV (.str (sg l)) [.str (Str.ofString "\t"), .str (Str.ofString "\n")] = (c == 9 || c == 10) := by
      intro c r e
      show (eqV _ _ || (eqV _ _ || false)) = _
      rw [eqV_str, eqV_str, lit (s := "\t") (l := [9]), lit (s := "\n") (l := [10]), tl_mkS, tl_mkS, tl_mkS, e]
      show (decide ([9] = [c]) || (decide ([10] = [c]) || false)) = _
      rw [dec1, dec1, Bool.or_false]
    refine ⟨_, rfl, _, _, rfl, rfl, _, rfl, ?_⟩
    rw [show (Str.ofString " ").cps.toList = [32] by rfl, show (sg l).cps.toList = l.take 1 by rfl]
    cases l with
    | nil =>
      rw [show ([] : List Nat).take 1 = [] by rfl, lt0]
      show if (!true) = true then _ else _
      rw [if_neg (by decide)]
      exact tup false (fun _ => by rfl) (fun z => by cases z)
    | cons c r =>
      rw [show (c :: r).take 1 = [c] by rfl, lt1]
      by_cases h1 : c < 32
      · rw [decide_eq_true h1]
        show if (!true) = true then _ else _
        rw [if_neg (by decide)]
        refine tup false (fun _ => ?_) (fun z => by cases z)
        rw [e9 c r rfl, hB_sg]
        unfold isSg
        have : ¬ 32 ≤ c := by omega
        simp [this]
      · rw [decide_eq_false h1]
        show if (!false) = true then _ else _
        rw [if_pos (by decide)]
        refine ⟨_, _, rfl, rfl, ?_⟩
        rw [show (Str.ofString "~").cps.toList = [126] by rfl, show (sg (c :: r)).cps.toList = [c] by rfl, lt1]
        refine tup _ (fun z => ?_) (fun z => ?_)
        · rw [e9 c r rfl, hB_sg]
          unfold isSg
          have h2 : 126 < c := by
            have z2 : decide (126 < c) = true := by
              cases q : decide (126 < c) with
              | true => rfl
              | false => rw [q] at z; cases z
            exact of_decide_eq_true z2
          have : ¬ c ≤ 126 := by omega
          simp [this]
        · rw [hB_sg]
          unfold isSg
          have h2 : ¬ 126 < c := by
            have z2 : decide (126 < c) = false := by
              cases q : decide (126 < c) with
              | false => rfl
              | true => rw [q] at z; cases z
            exact of_decide_eq_false z2
          have h3 : c ≤ 126 := by omega
          have h4 : 32 ≤ c := by omega
          simp [h3, h4]

theorem lt_alpha : ∀ c, c < 128 → Unicode.isAlpha c = ((97 ≤ c && c ≤ 122) || (65 ≤ c && c ≤ 90)) := by decide +kernel
theorem lt_alnum : ∀ c, c < 128 → Unicode.isAlnum c = ((97 ≤ c && c ≤ 122) || (65 ≤ c && c ≤ 90) || (48 ≤ c && c ≤ 57)) := by decide +kernel
theorem ascii_one {c : Nat} (h : c < 128) : Txt.isascii (sg [c]) = true := by
  show (#[c].all (· < 128)) = true
  simp [h]
theorem alpha_one {c : Nat} : Txt.isalpha (sg [c]) = Unicode.isAlpha c := by
  show ((sg [c]).length > 0 && #[c].all Unicode.isAlpha) = _
  rw [show (sg [c]).length = 1 by rfl]
  simp
theorem alnum_one {c : Nat} : Txt.isalnum (sg [c]) = Unicode.isAlnum c := by
  show ((sg [c]).length > 0 && #[c].all Unicode.isAlnum) = _
  rw [show (sg [c]).length = 1 by rfl]
  simp
theorem ok_begins_word (T : Tx w K mg) : Ok P w K mg base CX0 1 (He.fAd K d_begins_word.at_) p_begins_word (spSgA isLt) := by
  obtain ⟨fd, F⟩ := f_begins_word T
  refine ⟨fd, ?_, b_begins_word F, F.kp⟩
  refine F.ok sc_begins_word (fun vs H Q E h => ?_) (fun cdv A outer s H vs Q E hr h => ?_)
  · obtain ⟨l, rfl, _⟩ := h
    rfl
  · obtain ⟨l, rfl, ha, k⟩ := h
    refine ⟨_, PSs.nox (pss_one (ps_ret (pe_or (pe_cmpR op_eq (pv 0) pe_str (nomark _)) (pe_one (pe_and (pe_m0 PySem.F.slot_str_isascii PySem.F.type_str_isascii mt_isascii (pv 0)) (pe_one (pe_m0 PySem.F.slot_str_isalpha PySem.F.type_str_isalpha mt_isalpha (pv 0)))))))), ?_⟩
    refine ⟨_, rfl, rfl, _, rfl, ?_⟩
    rw [dec_str, lit (s := "_") (l := [95]), tl_mkS, tl_mkS]
    cases l with
    | nil =>
      rw [show decide (([] : List Nat).take 1 = [95]) = false by decide]
      rw [if_neg Bool.false_ne_true]
      refine ⟨_, rfl, ⟨_, rfl⟩, _, rfl, rfl, trivial, _, rfl, ?_⟩
      rw [show Txt.isascii (sg []) = true by decide +kernel, if_pos rfl]
      refine ⟨_, rfl, ⟨_, rfl⟩, _, rfl, rfl, trivial, ?_⟩
      exact k H (Same.refl H)
    | cons c r =>
      have hc := ha c r rfl
      rw [show (c :: r).take 1 = [c] by rfl, dec1r]
      by_cases h1 : c = 95
      · rw [show (c == 95) = true by simp [h1], if_pos rfl]
        have e := k H (Same.refl H)
        rw [hB_sg, h1] at e
        exact e
      · rw [show (c == 95) = false by simp [h1], if_neg Bool.false_ne_true]
        refine ⟨_, rfl, ⟨_, rfl⟩, _, rfl, rfl, trivial, _, rfl, ?_⟩
        rw [sg_cons, show mkS [c] = sg [c] by rfl, ascii_one hc, if_pos rfl]
        refine ⟨_, rfl, ⟨_, rfl⟩, _, rfl, rfl, trivial, ?_⟩
        have e := k H (Same.refl H)
        rw [hB_sg] at e
        rw [alpha_one, lt_alpha c hc]
        unfold isLt at e
        rw [show (c == 95) = false by simp [h1], Bool.or_false] at e
        exact e
theorem ok_goes_on_in_word (T : Tx w K mg) : Ok P w K mg base CX0 1 (He.fAd K d_goes_on_in_word.at_) p_goes_on_in_word (spSgA isWd) := by
  obtain ⟨fd, F⟩ := f_goes_on_in_word T
  refine ⟨fd, ?_, b_goes_on_in_word F, F.kp⟩
  refine F.ok sc_goes_on_in_word (fun vs H Q E h => ?_) (fun cdv A outer s H vs Q E hr h => ?_)
  · obtain ⟨l, rfl, _⟩ := h
    rfl
  · obtain ⟨l, rfl, ha, k⟩ := h
    refine ⟨_, PSs.nox (pss_one (ps_ret (pe_or (pe_cmpR op_in_seq (pv 0) (pe_tup (pa_cons pe_str (pa_cons pe_str (pa_cons pe_str pa_nil)))) (by rfl)) (pe_one (pe_and (pe_m0 PySem.F.slot_str_isascii PySem.F.type_str_isascii mt_isascii (pv 0)) (pe_one (pe_m0 PySem.F.slot_str_isalnum PySem.F.type_str_isalnum mt_isalnum (pv 0)))))))), ?_⟩
    refine ⟨_, rfl, (by decide), fun p hp => ⟨p, _, rfl, .inr (SqT.of upd_same), rfl, rfl, ?_⟩⟩
    have kk := k _ (same_new hp (o := .tup [.str (Str.ofString "_"), .str (Str.ofString "-"), .str (Str.ofString ".")]))
    rw [if_neg Bool.false_ne_true]
    cases l with
    | nil =>
      refine ⟨_, rfl, ?_⟩
      rw [show inV (.str (sg [])) [.str (Str.ofString "_"), .str (Str.ofString "-"), .str (Str.ofString ".")] = false by rfl]
      rw [if_neg Bool.false_ne_true]
      refine ⟨_, rfl, ⟨_, rfl⟩, _, rfl, rfl, trivial, _, rfl, ?_⟩
      rw [show Txt.isascii (sg []) = true by decide +kernel, if_pos rfl]
      refine ⟨_, rfl, ⟨_, rfl⟩, _, rfl, rfl, trivial, ?_⟩
      exact kk
    | cons c r =>
      have hc := ha c r rfl
      have e9 : inV (.str (sg (c :: r))) [.str (Str.ofString "_"), .str (Str.ofString "-"), .str (Str.ofString ".")] = (c == 95 || (c == 45 || c == 46)) := by
        show (eqV _ _ || (eqV _ _ || (eqV _ _ || false))) = _
        rw [eqV_str, eqV_str, eqV_str, lit (s := "_") (l := [95]), lit (s := "-") (l := [45]), lit (s := ".") (l := [46]), tl_mkS, tl_mkS, tl_mkS, tl_mkS]
        show (decide ([95] = [c]) || (decide ([45] = [c]) || (decide ([46] = [c]) || false))) = _
        rw [dec1, dec1, dec1, Bool.or_false]
      refine ⟨_, rfl, ?_⟩
      rw [e9]
      rw [hB_sg] at kk
      cases q : (c == 95 || (c == 45 || c == 46)) with
      | true =>
        rw [if_pos rfl]
        have e : isWd c = true := by
          unfold isWd isLt
          revert q
          cases c == 95 <;> cases c == 45 <;> cases c == 46 <;> simp
        rw [e] at kk
        exact kk
      | false =>
        rw [if_neg Bool.false_ne_true]
        refine ⟨_, rfl, ⟨_, rfl⟩, _, rfl, rfl, trivial, _, rfl, ?_⟩
        rw [sg_cons, show mkS [c] = sg [c] by rfl, ascii_one hc, if_pos rfl]
        refine ⟨_, rfl, ⟨_, rfl⟩, _, rfl, rfl, trivial, ?_⟩
        rw [alnum_one, lt_alnum c hc]
        unfold isWd isLt at kk
        have q1 : (c == 95) = false ∧ (c == 45) = false ∧ (c == 46) = false := by
          revert q
          cases c == 95 <;> cases c == 45 <;> cases c == 46 <;> simp
        rw [q1.1, q1.2.1, q1.2.2, Bool.or_false, Bool.or_false, Bool.or_false] at kk
        exact kk

/-! ### numbers of signs -/
end
end K20
/-! K20Ta -/
namespace K20
open PySem PySem.Spec PyProof.Rows L2 TL
theorem iteT {c : Bool} {p q : Prop} (h : p) (e : c = true := by rfl) : if c = true then p else q := by
  rw [if_pos e]
  exact h
theorem iteF {c : Bool} {p q : Prop} (h : q) (e : c = false := by rfl) : if c = true then p else q := by
  rw [e, if_neg Bool.false_ne_true]
  exact h
/-- the texts that are read -/
structure Gd (z : Str) : Prop where
  sg : ∀ c ∈ tl z, isSg c = true
  len : z.length ≤ 400000
theorem Gd.lt {z : Str} (g : Gd z) {i : Nat} {c : Nat} {r : List Nat} (h : (tl z).drop i = c :: r) : c < 128 := by
  have m : c ∈ tl z := List.mem_of_mem_drop (i := i) (by rw [h]; exact List.mem_cons_self)
  have := g.sg c m
  unfold isSg at this
  simp only [Bool.or_eq_true, Bool.and_eq_true, decide_eq_true_eq, beq_iff_eq] at this
  omega
theorem Gd.log {z : Str} (g : Gd z) {n : Nat} (h : n ≤ z.length) : ((n : Int)).natAbs.log2 < 1920 := by
  have h1 := g.len
  have h2 : n < 2 ^ 20 := by omega
  rw [Int.natAbs_natCast]
  by_cases h0 : n = 0
  · subst h0
    decide
  · have := (Nat.log2_lt h0).mpr h2
    omega
theorem Gd.line {z : Str} (g : Gd z) : z.length ≤ sizeLine := by
  have := g.len
  rw [sizeLine_eq]
  omega
theorem drop_cons {l : List Nat} {i c : Nat} {r : List Nat} (h : l.drop i = c :: r) : i < l.length ∧ l.drop (i + 1) = r := by
  constructor
  · have := congrArg List.length h
    simp only [List.length_drop, List.length_cons] at this
    omega
  · rw [← List.drop_drop, h]
    rfl
theorem drop_add {l : List Nat} {i n : Nat} : l.drop (i + n) = (l.drop i).drop n := by rw [List.drop_drop]
theorem while_x {c : TT} {tb : TS} {D : Ends} {σ : L2.St} {H : Hp} (Pv : Nat → L2.St → Hp → Prop) (Fin : L2.St → Hp → Prop) (h0 : ∃ m, Pv m σ H) (hf : ∀ σ H, Fin σ H → D.nx σ H)
    (hs : (∀ σ H, Fin σ H → D.nx σ H) → ∀ m σ H (R : Bool → Hp → Prop), Pv m σ H → (∀ H1, Fin σ H1 → R false H1) →
      (∀ H1, tb { D with nx := fun σ' H' => ∃ m', m' < m ∧ Pv m' σ' H', ct := fun σ' H' => ∃ m', m' < m ∧ Pv m' σ' H', bk := D.nx } σ H1 → R true H1) → c σ H R) : tWhile c tb D σ H :=
  ⟨Pv, h0, fun m σ H p => hs hf m σ H _ p (fun H1 f => by rw [if_neg Bool.false_ne_true]; exact hf _ _ f) (fun H1 b => by rw [if_pos rfl]; exact ⟨_, fun _ _ z => z, b⟩)⟩
theorem hB_hP (p : Nat → Bool) (l : List Nat) : hB p l = hP p l := by cases l <;> rfl
theorem sg_is (l : List Nat) (c : Nat) : decide (V.str (sg l) = V.str (mkS [c])) = hP (· == c) l := by
  rw [dec_str, tl_mkS, tl_mkS]
  cases l with
  | nil => exact decide_eq_false (fun h => by cases h)
  | cons d r => exact dec1r c d
theorem sg_lit (l : List Nat) {s : String} {c : Nat} (h : s.toList.map Char.toNat = [c] := by rfl) : decide (V.str (sg l) = V.str (Str.ofString s)) = hP (· == c) l := by
  rw [lit h]
  exact sg_is l c
theorem sg_empty (l : List Nat) : decide (V.str (sg l) = V.str (Str.ofString "")) = l.isEmpty := by
  rw [dec_str, lit (s := "") (l := []), tl_mkS, tl_mkS]
  cases l with
  | nil => rfl
  | cons d r => exact decide_eq_false (fun h => by cases h)
theorem mem_eq {l : List Nat} {p : Nat → Bool} (h1 : (List.range 128).all (fun c => decide (c ∈ l) == p c) = true) (h2 : l.all (fun c => decide (c < 128)) = true) (h3 : ∀ c, 128 ≤ c → p c = false) (c : Nat) : decide (c ∈ l) = p c := by
  by_cases h : c < 128
  · have := List.all_eq_true.mp h1 c (List.mem_range.mpr h)
    exact eq_of_beq this
  · rw [h3 c (by omega)]
    refine decide_eq_false fun hc => ?_
    have := List.all_eq_true.mp h2 c hc
    exact h (of_decide_eq_true this)
theorem isDg_hi (c : Nat) (h : 128 ≤ c) : isDg c = false := by
  unfold isDg
  rw [decide_eq_false (p := c ≤ 57) (by omega), Bool.and_false]
def spTo (p : Nat → Bool) : Sp := fun vs H Q _ => ∃ (z : Str) (i : Nat), vs = [.str z, .int i] ∧ Gd z ∧ ∀ H', Same H H' → Q (.int ((i + spN p ((tl z).drop i) : Nat) : Int)) H'
section
variable {P : Program} {w : World} {K : PySem.W.Frag} {mg : Str → Option Value} {base : Heap}
def digS : Str := "0123456789"
theorem glob_dig {X : Cx} {pos : Pos} (T : Tx X.w X.K X.mg) (hg : Gl X "DIGITS") : PE X (.Name "DIGITS" pos) (tC (.str digS)) := by
  obtain ⟨t, e⟩ := c_DIGITS T
  exact pe_glob hg e ⟨t, rfl⟩
theorem ok_is_digit (T : Tx w K mg) : Ok P w K mg base CX0 1 (He.fAd K d_is_digit.at_) p_is_digit (spSg isDg) := by
  obtain ⟨fd, F⟩ := f_is_digit T
  refine ⟨fd, ?_, b_is_digit F, F.kp⟩
  refine F.ok sc_is_digit (fun vs H Q E h => ?_) (fun cdv A outer s H vs Q E hr h => ?_)
  · obtain ⟨l, rfl, _⟩ := h
    rfl
  · obtain ⟨l, rfl, k⟩ := h
    refine ⟨_, PSs.nox (pss_one (ps_ret (pe_and (pe_cmpR op_ne (pv 0) pe_str (nomark _)) (pe_one (pe_cmpR op_in_sign (pv 0) (glob_dig T (by rfl)) (by rfl)))))), ?_⟩
    refine ⟨_, rfl, rfl, _, rfl, ?_⟩
    cases l with
    | nil =>
      refine iteF ?_
      exact k _ (Same.refl _)
    | cons c r =>
      show if (!decide (V.str (sg (c :: r)) = V.str (Str.ofString ""))) = true then _ else _
      rw [sg_empty]
      refine iteT ?_
      refine ⟨_, rfl, c, _, rfl, rfl, ?_⟩
      have em := mem_eq (l := digS.cps.toList) (p := isDg) (by decide +kernel) (by decide +kernel) isDg_hi c
      rw [em]
      exact k _ (Same.refl _)
end
section
variable {P : Program} {w : World} {K : PySem.W.Frag} {mg : Str → Option Value} {base : Heap}
theorem ok_end_of_blanks (T : Tx w K mg) : Ok P w K mg base CX0 2 (He.fAd K d_end_of_blanks.at_) p_end_of_blanks (spTo isBl) := by
  obtain ⟨fd, F⟩ := f_end_of_blanks T
  obtain ⟨fB, GB, bB, kB⟩ := ok_is_blank (P := P) (base := base) T
  refine ⟨fd, ?_, b_end_of_blanks F, F.kp⟩
  refine F.ok sc_end_of_blanks (fun vs H Q E h => ?_) (fun cdv A outer s H vs Q E hr h => ?_)
  · obtain ⟨z, i, rfl, _⟩ := h
    rfl
  · obtain ⟨z, i, rfl, g, k⟩ := h
    have nd := sc_end_of_blanks.nd
    have hlen : z.length = (tl z).length := len_tl z
    refine ⟨_, PSs.nox (pss_cons (ps_while PassesOwn.never (pt_val (pe_call (E := E0) GB (hr.mono (by decide)) rfl (g_is_blank T) kB bB .nil pass0 (pa_cons (pe_slice sl_str (pv 0) (po_some (pv 1)) (po_some (pe_op op_add (pv 1) pe_int))) pa_nil)))
      (pss_one (ps_aug (i := 1) nd rfl (.inl rfl) pe_int ip_add))) (pss_one (ps_ret (pv 1)))), ?_⟩
    refine while_x (fun mm σ H2 => ∃ (j : Nat), mm = z.length - j ∧ σ = [some (V.str z), some (.int (j : Int))] ∧ Same H H2 ∧ i + spN isBl ((tl z).drop i) = j + spN isBl ((tl z).drop j))
      (fun σ H2 => σ = [some (V.str z), some (.int ((i + spN isBl ((tl z).drop i) : Nat) : Int))] ∧ Same H H2) ⟨_, i, rfl, rfl, Same.refl H, rfl⟩ ?_ ?_
    · rintro σ H2 ⟨rfl, s2⟩
      exact ⟨_, rfl, k _ s2⟩
    · rintro - mm σ H2 R ⟨j, rfl, rfl, s2, e⟩ hfin hbody
      refine ⟨_, rfl, _, rfl, _, rfl, _, rfl, _, _, rfl, rfl, _, rfl, z, rfl, g.line, ?_⟩
      rw [cut_one]
      refine ⟨_, rfl, fun H3 s3 => ⟨_, rfl, ?_⟩⟩
      cases hl : (tl z).drop j with
      | nil =>
        refine hfin _ ⟨?_, s2.trans s3⟩
        rw [e, hl]
        rfl
      | cons c r =>
        show R (isBl c) H3
        have hb : spN isBl (c :: r) = if isBl c then spN isBl r + 1 else 0 := rfl
        cases hc : isBl c with
        | false =>
          refine hfin _ ⟨?_, s2.trans s3⟩
          rw [e, hl, hb, hc]
          rfl
        | true =>
          refine hbody _ ?_
          have hdj := drop_cons hl
          refine ⟨_, rfl, _, _, rfl, rfl, ?_⟩
          refine ⟨z.length - (j + 1), by omega, j + 1, rfl, ?_, s2.trans s3, ?_⟩
          · show [some (V.str z), some (.int ((j : Int) + 1))] = _
            rw [show ((j : Int) + 1) = ((j + 1 : Nat) : Int) by omega]
          · rw [e, hl, hb, hc, hdj.2, if_pos rfl]
            omega
end
section
variable {P : Program} {w : World} {K : PySem.W.Frag} {mg : Str → Option Value} {base : Heap}
theorem ok_end_of_word (T : Tx w K mg) : Ok P w K mg base CX0 2 (He.fAd K d_end_of_word.at_) p_end_of_word (spTo isWd) := by
  obtain ⟨fd, F⟩ := f_end_of_word T
  obtain ⟨fB, GB, bB, kB⟩ := ok_goes_on_in_word (P := P) (base := base) T
  refine ⟨fd, ?_, b_end_of_word F, F.kp⟩
  refine F.ok sc_end_of_word (fun vs H Q E h => ?_) (fun cdv A outer s H vs Q E hr h => ?_)
  · obtain ⟨z, i, rfl, _⟩ := h
    rfl
  · obtain ⟨z, i, rfl, g, k⟩ := h
    have nd := sc_end_of_word.nd
    have hlen : z.length = (tl z).length := len_tl z
    refine ⟨_, PSs.nox (pss_cons (ps_while PassesOwn.never (pt_val (pe_call (E := E0) GB (hr.mono (by decide)) rfl (g_goes_on_in_word T) kB bB .nil pass0 (pa_cons (pe_slice sl_str (pv 0) (po_some (pv 1)) (po_some (pe_op op_add (pv 1) pe_int))) pa_nil)))
      (pss_one (ps_aug (i := 1) nd rfl (.inl rfl) pe_int ip_add))) (pss_one (ps_ret (pv 1)))), ?_⟩
    refine while_x (fun mm σ H2 => ∃ (j : Nat), mm = z.length - j ∧ σ = [some (V.str z), some (.int (j : Int))] ∧ Same H H2 ∧ i + spN isWd ((tl z).drop i) = j + spN isWd ((tl z).drop j))
      (fun σ H2 => σ = [some (V.str z), some (.int ((i + spN isWd ((tl z).drop i) : Nat) : Int))] ∧ Same H H2) ⟨_, i, rfl, rfl, Same.refl H, rfl⟩ ?_ ?_
    · rintro σ H2 ⟨rfl, s2⟩
      exact ⟨_, rfl, k _ s2⟩
    · rintro - mm σ H2 R ⟨j, rfl, rfl, s2, e⟩ hfin hbody
      refine ⟨_, rfl, _, rfl, _, rfl, _, rfl, _, _, rfl, rfl, _, rfl, z, rfl, g.line, ?_⟩
      rw [cut_one]
      refine ⟨_, rfl, (fun c r hc => g.lt hc), fun H3 s3 => ⟨_, rfl, ?_⟩⟩
      cases hl : (tl z).drop j with
      | nil =>
        refine hfin _ ⟨?_, s2.trans s3⟩
        rw [e, hl]
        rfl
      | cons c r =>
        show R (isWd c) H3
        have hb : spN isWd (c :: r) = if isWd c then spN isWd r + 1 else 0 := rfl
        cases hc : isWd c with
        | false =>
          refine hfin _ ⟨?_, s2.trans s3⟩
          rw [e, hl, hb, hc]
          rfl
        | true =>
          refine hbody _ ?_
          have hdj := drop_cons hl
          refine ⟨_, rfl, _, _, rfl, rfl, ?_⟩
          refine ⟨z.length - (j + 1), by omega, j + 1, rfl, ?_, s2.trans s3, ?_⟩
          · show [some (V.str z), some (.int ((j : Int) + 1))] = _
            rw [show ((j : Int) + 1) = ((j + 1 : Nat) : Int) by omega]
          · rw [e, hl, hb, hc, hdj.2, if_pos rfl]
            omega
end
section
variable {P : Program} {w : World} {K : PySem.W.Frag} {mg : Str → Option Value} {base : Heap}
theorem ok_end_of_digits (T : Tx w K mg) : Ok P w K mg base CX0 2 (He.fAd K d_end_of_digits.at_) p_end_of_digits (spTo isDg) := by
  obtain ⟨fd, F⟩ := f_end_of_digits T
  obtain ⟨fB, GB, bB, kB⟩ := ok_is_digit (P := P) (base := base) T
  refine ⟨fd, ?_, b_end_of_digits F, F.kp⟩
  refine F.ok sc_end_of_digits (fun vs H Q E h => ?_) (fun cdv A outer s H vs Q E hr h => ?_)
  · obtain ⟨z, i, rfl, _⟩ := h
    rfl
  · obtain ⟨z, i, rfl, g, k⟩ := h
    have nd := sc_end_of_digits.nd
    have hlen : z.length = (tl z).length := len_tl z
    refine ⟨_, PSs.nox (pss_cons (ps_while PassesOwn.never (pt_val (pe_call (E := E0) GB (hr.mono (by decide)) rfl (g_is_digit T) kB bB .nil pass0 (pa_cons (pe_slice sl_str (pv 0) (po_some (pv 1)) (po_some (pe_op op_add (pv 1) pe_int))) pa_nil)))
      (pss_one (ps_aug (i := 1) nd rfl (.inl rfl) pe_int ip_add))) (pss_one (ps_ret (pv 1)))), ?_⟩
    refine while_x (fun mm σ H2 => ∃ (j : Nat), mm = z.length - j ∧ σ = [some (V.str z), some (.int (j : Int))] ∧ Same H H2 ∧ i + spN isDg ((tl z).drop i) = j + spN isDg ((tl z).drop j))
      (fun σ H2 => σ = [some (V.str z), some (.int ((i + spN isDg ((tl z).drop i) : Nat) : Int))] ∧ Same H H2) ⟨_, i, rfl, rfl, Same.refl H, rfl⟩ ?_ ?_
    · rintro σ H2 ⟨rfl, s2⟩
      exact ⟨_, rfl, k _ s2⟩
    · rintro - mm σ H2 R ⟨j, rfl, rfl, s2, e⟩ hfin hbody
      refine ⟨_, rfl, _, rfl, _, rfl, _, rfl, _, _, rfl, rfl, _, rfl, z, rfl, g.line, ?_⟩
      rw [cut_one]
      refine ⟨_, rfl, fun H3 s3 => ⟨_, rfl, ?_⟩⟩
      cases hl : (tl z).drop j with
      | nil =>
        refine hfin _ ⟨?_, s2.trans s3⟩
        rw [e, hl]
        rfl
      | cons c r =>
        show R (isDg c) H3
        have hb : spN isDg (c :: r) = if isDg c then spN isDg r + 1 else 0 := rfl
        cases hc : isDg c with
        | false =>
          refine hfin _ ⟨?_, s2.trans s3⟩
          rw [e, hl, hb, hc]
          rfl
        | true =>
          refine hbody _ ?_
          have hdj := drop_cons hl
          refine ⟨_, rfl, _, _, rfl, rfl, ?_⟩
          refine ⟨z.length - (j + 1), by omega, j + 1, rfl, ?_, s2.trans s3, ?_⟩
          · show [some (V.str z), some (.int ((j : Int) + 1))] = _
            rw [show ((j : Int) + 1) = ((j + 1 : Nat) : Int) by omega]
          · rw [e, hl, hb, hc, hdj.2, if_pos rfl]
            omega
end
end K20
/-! K20Tb -/
namespace K20
open PySem PySem.Spec PyProof.Rows L2 TL
/-- text[at + 1 : at + 2] -/
theorem cut_next (z : Str) (i : Nat) : cutS z (some ((i : Int) + 1)) (some ((i : Int) + 2)) = sg ((tl z).drop (i + 1)) := by
  have h := cut_one z (i + 1)
  rw [show ((i : Int) + 2) = (((i + 1 : Nat) : Int) + 1) by omega, show ((i : Int) + 1) = ((i + 1 : Nat) : Int) by omega]
  exact h
def spF (f : List Nat → Nat) : Sp := fun vs H Q _ => ∃ (z : Str) (i : Nat), vs = [.str z, .int i] ∧ Gd z ∧ ∀ H', Same H H' → Q (.int ((i + f ((tl z).drop i) : Nat) : Int)) H'
section
variable {P : Program} {w : World} {K : PySem.W.Frag} {mg : Str → Option Value} {base : Heap}
theorem ok_end_of_name (T : Tx w K mg) : Ok P w K mg base CX0 3 (He.fAd K d_end_of_name.at_) p_end_of_name (spF nmN) := by
  obtain ⟨fd, F⟩ := f_end_of_name T
  obtain ⟨fB, GB, bB, kB⟩ := ok_begins_word (P := P) (base := base) T
  obtain ⟨fW, GW, bW, kW⟩ := ok_end_of_word (P := P) (base := base) T
  refine ⟨fd, ?_, b_end_of_name F, F.kp⟩
  refine F.ok sc_end_of_name (fun vs H Q E h => ?_) (fun cdv A outer s H vs Q E hr h => ?_)
  · obtain ⟨z, i, rfl, _⟩ := h
    rfl
  · obtain ⟨z, i, rfl, g, k⟩ := h
    have nd := sc_end_of_name.nd
    refine ⟨_, PSs.nox (pss_cons (ps_set (i := 2) nd rfl (.inl rfl) (pe_call (E := E0) GW (hr.mono (by decide)) rfl (g_end_of_word T) kW bW .nil pass0 (pa_cons (pv 0) (pa_cons (pv 1) pa_nil))))
      (pss_cons (ps_if (pw_and (pt_cmpR op_eq (pe_slice sl_str (pv 0) (po_some (pv 2)) (po_some (pe_op op_add (pv 2) pe_int))) pe_str (nomark _)) (pw_and1 (pt_val (pe_call (E := E0) GB (hr.mono (by decide)) (by rfl) (g_begins_word T) kB bB .nil pass0 (pa_cons (pe_slice sl_str (pv 0) (po_some (pe_op op_add (pv 2) pe_int)) (po_some (pe_op op_add (pv 2) pe_int))) pa_nil))))).pt
        (pss_one (ps_set (i := 2) nd rfl (.inl rfl) (pe_call (E := E0) GW (hr.mono (by decide)) rfl (g_end_of_word T) kW bW .nil pass0 (pa_cons (pv 0) (pa_cons (pe_op op_add (pv 2) pe_int) pa_nil))))) pss_nil)
      (pss_one (ps_ret (pv 2))))), ?_⟩
    refine ⟨_, rfl, _, rfl, z, i, rfl, g, fun H1 s1 => ?_⟩
    have hd : ∀ n, (tl z).drop (i + n) = ((tl z).drop i).drop n := fun n => drop_add
    generalize hl : (tl z).drop i = l at *
    have hd1 : (tl z).drop (i + spN isWd l + 1) = l.drop (spN isWd l + 1) := hd (spN isWd l + 1)
    refine ⟨_, rfl, _, rfl, _, rfl, _, rfl, _, _, rfl, rfl, _, rfl, z, rfl, g.line, ?_⟩
    rw [cut_one, hd]
    refine ⟨rfl, _, rfl, ?_⟩
    show if decide (V.str (sg (l.drop (spN isWd l))) = V.str (Str.ofString ":")) = true then _ else _
    rw [sg_lit _ (c := 58)]
    cases h1 : hP (· == 58) (l.drop (spN isWd l)) with
    | false =>
      refine iteF ?_
      refine ⟨_, rfl, ?_⟩
      have e : nmN l = spN isWd l := by
        unfold nmN
        rw [h1]
        rfl
      rw [e] at k
      exact k _ s1
    | true =>
      refine iteT ?_
      refine ⟨_, rfl, _, rfl, _, _, rfl, rfl, _, rfl, _, rfl, _, _, rfl, rfl, _, rfl, z, rfl, g.line, ?_⟩
      rw [show (((i + spN isWd l : Nat) : Int) + 1) = ((i + spN isWd l : Nat) : Int) + 1 from rfl, cut_next, hd1]
      refine ⟨_, rfl, fun c r hc => g.lt (i := i + spN isWd l + 1) (hd1.trans hc), fun H2 s2 => ⟨_, rfl, ?_⟩⟩
      show if hB isLt (l.drop (spN isWd l + 1)) = true then _ else _
      rw [hB_hP]
      have s02 := s1.trans s2
      cases h2 : hP isLt (l.drop (spN isWd l + 1)) with
      | false =>
        refine iteF ?_
        refine ⟨_, rfl, ?_⟩
        have e : nmN l = spN isWd l := by
          unfold nmN
          rw [h1, h2]
          rfl
        rw [e] at k
        exact k _ s02
      | true =>
        refine iteT ?_
        refine ⟨_, rfl, _, rfl, _, _, rfl, rfl, z, i + spN isWd l + 1, rfl, g, fun H3 s3 => ?_⟩
        refine ⟨_, rfl, ?_⟩
        have e : nmN l = spN isWd l + 1 + spN isWd (l.drop (spN isWd l + 1)) := by
          unfold nmN
          rw [h1, h2]
          rfl
        rw [e] at k
        rw [hd1, show i + spN isWd l + 1 + spN isWd (l.drop (spN isWd l + 1)) = i + (spN isWd l + 1 + spN isWd (l.drop (spN isWd l + 1))) by omega]
        exact k _ (s02.trans s3)
end
end K20
/-! K20Tc -/
namespace K20
open PySem PySem.Spec PyProof.Rows L2 TL
def kiS : Ki → Str
  | .nam => "name" | .num => "number" | .txt => "text" | .sgn => "sign" | .opn => "open" | .brk => "broken" | .fin => "end"
def tkV (k : Ki) (wd : List Nat) (i : Nat) : List V := [.str (kiS k), .str (mkS wd), .int (i : Int)]
def rTk (H : Hp) (Q : VK) (k : Ki) (wd : List Nat) (i : Nat) : Prop := ∀ H' t, Same H H' → H' t = some (.tup (tkV k wd i)) → Q (.ref t) H'
section
variable {P : Program} {w : World} {K : PySem.W.Frag} {mg : Str → Option Value} {base : Heap}
theorem ok_end_of_number (T : Tx w K mg) : Ok P w K mg base CX0 3 (He.fAd K d_end_of_number.at_) p_end_of_number (spF nuN) := by
  obtain ⟨fd, F⟩ := f_end_of_number T
  obtain ⟨fW, GW, bW, kW⟩ := ok_end_of_digits (P := P) (base := base) T
  refine ⟨fd, ?_, b_end_of_number F, F.kp⟩
  refine F.ok sc_end_of_number (fun vs H Q E h => ?_) (fun cdv A outer s H vs Q E hr h => ?_)
  · obtain ⟨z, i, rfl, _⟩ := h
    rfl
  · obtain ⟨z, i, rfl, g, k⟩ := h
    have nd := sc_end_of_number.nd
    refine ⟨_, PSs.nox (pss_cons (ps_set (i := 2) nd rfl (.inl rfl) (pe_call (E := E0) GW (hr.mono (by decide)) rfl (g_end_of_digits T) kW bW .nil pass0 (pa_cons (pv 0) (pa_cons (pv 1) pa_nil))))
      (pss_cons (ps_if (pt_cmpR op_eq (pe_slice sl_str (pv 0) (po_some (pv 2)) (po_some (pe_op op_add (pv 2) pe_int))) pe_str (nomark _))
        (pss_one (ps_set (i := 2) nd rfl (.inl rfl) (pe_call (E := E0) GW (hr.mono (by decide)) rfl (g_end_of_digits T) kW bW .nil pass0 (pa_cons (pv 0) (pa_cons (pe_op op_add (pv 2) pe_int) pa_nil))))) pss_nil)
      (pss_one (ps_ret (pv 2))))), ?_⟩
    refine ⟨_, rfl, _, rfl, z, i, rfl, g, fun H1 s1 => ?_⟩
    have hd : ∀ n, (tl z).drop (i + n) = ((tl z).drop i).drop n := fun n => drop_add
    generalize hl : (tl z).drop i = l at *
    have hd1 : (tl z).drop (i + spN isDg l + 1) = l.drop (spN isDg l + 1) := hd (spN isDg l + 1)
    refine ⟨_, rfl, _, rfl, _, rfl, _, rfl, _, _, rfl, rfl, _, rfl, z, rfl, g.line, ?_⟩
    rw [cut_one, hd]
    refine ⟨rfl, _, rfl, ?_⟩
    show if decide (V.str (sg (l.drop (spN isDg l))) = V.str (Str.ofString ".")) = true then _ else _
    rw [sg_lit _ (c := 46)]
    cases h1 : hP (· == 46) (l.drop (spN isDg l)) with
    | false =>
      refine iteF ?_
      refine ⟨_, rfl, ?_⟩
      have e : nuN l = spN isDg l := by
        unfold nuN
        rw [h1]
        rfl
      rw [e] at k
      exact k _ s1
    | true =>
      refine iteT ?_
      refine ⟨_, rfl, _, rfl, _, _, rfl, rfl, z, i + spN isDg l + 1, rfl, g, fun H3 s3 => ?_⟩
      refine ⟨_, rfl, ?_⟩
      have e : nuN l = spN isDg l + 1 + spN isDg (l.drop (spN isDg l + 1)) := by
        unfold nuN
        rw [h1]
        rfl
      rw [e] at k
      rw [hd1, show i + spN isDg l + 1 + spN isDg (l.drop (spN isDg l + 1)) = i + (spN isDg l + 1 + spN isDg (l.drop (spN isDg l + 1))) by omega]
      exact k _ (s1.trans s3)
end
theorem cp_at {z : Str} {i c : Nat} {r : List Nat} (h : (tl z).drop i = c :: r) : atI z.cps.toList (i : Int) = some c := by
  refine atI_nat ?_
  show (tl z)[i]? = some c
  have h1 : ((tl z).drop i)[0]? = some c := by rw [h]; rfl
  rw [List.getElem?_drop, Nat.add_zero] at h1
  exact h1
theorem len_lt (z : Str) (i : Nat) : decide (((i : Nat) : Int) < ((z.length : Nat) : Int)) = !((tl z).drop i).isEmpty := by
  have hlen : z.length = (tl z).length := len_tl z
  cases y : (tl z).drop i with
  | nil =>
    have := congrArg List.length y
    rw [List.length_drop, List.length_nil] at this
    rw [decide_eq_false (by omega)]
    rfl
  | cons c r =>
    have := congrArg List.length y
    rw [List.length_drop, List.length_cons] at this
    rw [decide_eq_true (by omega)]
    rfl
theorem dec_one (c d : Nat) : decide (V.str ⟨#[c]⟩ = V.str ⟨#[d]⟩) = (c == d) := by
  have h := sg_is [c] d
  exact h
def spQt : Sp := fun vs H Q _ => ∃ (z : Str) (i c : Nat) (r : List Nat), vs = [.str z, .int i] ∧ Gd z ∧ (tl z).drop i = c :: r ∧
  rTk H Q (if hP (· == c) (r.drop (spN (fun d => isSg d && d != c) r)) then .txt else .opn)
    ((c :: r).take (if hP (· == c) (r.drop (spN (fun d => isSg d && d != c) r)) then spN (fun d => isSg d && d != c) r + 2 else spN (fun d => isSg d && d != c) r + 1)) i
section
variable {P : Program} {w : World} {K : PySem.W.Frag} {mg : Str → Option Value} {base : Heap}
theorem ok_quoted_token (T : Tx w K mg) : Ok P w K mg base CX0 2 (He.fAd K d_quoted_token.at_) p_quoted_token spQt := by
  obtain ⟨fd, F⟩ := f_quoted_token T
  obtain ⟨fS, GS, bS, kS⟩ := ok_is_sign (P := P) (base := base) T
  refine ⟨fd, ?_, b_quoted_token F, F.kp⟩
  refine F.ok sc_quoted_token (fun vs H Q E h => ?_) (fun cdv A outer s H vs Q E hr h => ?_)
  · obtain ⟨z, i, c, r, rfl, _⟩ := h
    rfl
  · obtain ⟨z, i, c, r, rfl, g, hz, k⟩ := h
    have nd := sc_quoted_token.nd
    have hlen : z.length = (tl z).length := len_tl z
    generalize hp : (fun d => isSg d && d != c) = p at k
    refine ⟨_, PSs.nox (pss_cons (ps_set (i := 2) nd rfl (.inl rfl) (pe_op op_add (pv 1) pe_int))
      (pss_cons (ps_while PassesOwn.never (pw_and (pt_cmpR op_lt (pv 2) (pe_callB call_len (by rfl) (n_len T) PySem.boot_len (pa_cons (pv 0) pa_nil)) (nomark _))
          (pw_and (pt_cmpR op_ne (pe_ix ix_str (pv 0) (pv 2) (fun _ _ => rfl)) (pe_ix ix_str (pv 0) (pv 1) (fun _ _ => rfl)) (nomark _))
            (pw_and1 (pt_val (pe_call (E := E0) GS (hr.mono (by decide)) (by rfl) (g_is_sign T) kS bS .nil pass0 (pa_cons (pe_ix ix_str (pv 0) (pv 2) (fun _ _ => rfl)) pa_nil)))))).pt
        (pss_one (ps_aug (i := 2) nd rfl (.inl rfl) pe_int ip_add)))
      (pss_cons (ps_if (pt_cmpR op_eq (pe_slice sl_str (pv 0) (po_some (pv 2)) (po_some (pe_op op_add (pv 2) pe_int))) (pe_ix ix_str (pv 0) (pv 1) (fun _ _ => rfl)) (nomark _))
        (pss_one (ps_ret (pe_tup (pa_cons pe_str (pa_cons (pe_slice sl_str (pv 0) (po_some (pv 1)) (po_some (pe_op op_add (pv 2) pe_int))) (pa_cons (pv 1) pa_nil)))))) pss_nil)
      (pss_one (ps_ret (pe_tup (pa_cons pe_str (pa_cons (pe_slice sl_str (pv 0) (po_some (pv 1)) (po_some (pv 2))) (pa_cons (pv 1) pa_nil))))))))), ?_⟩
    refine ⟨_, rfl, _, _, rfl, rfl, ?_⟩
    refine while_x (fun mm σ H2 => ∃ (j : Nat), mm = z.length - j ∧ σ = [some (V.str z), some (.int (i : Int)), some (.int (j : Int))] ∧ Same H H2 ∧ i + 1 ≤ j ∧ i + 1 + spN p r = j + spN p ((tl z).drop j))
      (fun σ H2 => σ = [some (V.str z), some (.int (i : Int)), some (.int ((i + 1 + spN p r : Nat) : Int))] ∧ Same H H2) ⟨_, i + 1, rfl, rfl, Same.refl H, Nat.le_refl _, by rw [(drop_cons hz).2]⟩ ?_ ?_
    · rintro σ H2 ⟨rfl, s2⟩
      have hdr : (tl z).drop (i + 1 + spN p r) = r.drop (spN p r) := by rw [drop_add, (drop_cons hz).2]
      refine ⟨_, rfl, _, rfl, _, rfl, _, rfl, _, _, rfl, rfl, _, rfl, z, rfl, g.line, ?_⟩
      rw [cut_one, hdr]
      refine ⟨_, rfl, _, rfl, z, (i : Int), c, rfl, rfl, g.line, cp_at hz, rfl, _, rfl, ?_⟩
      show if decide (V.str (sg (r.drop (spN p r))) = V.str (mkS [c])) = true then _ else _
      rw [sg_is]
      cases h1 : hP (· == c) (r.drop (spN p r)) with
      | true =>
        rw [h1] at k
        refine iteT ?_
        refine ⟨_, rfl, _, rfl, _, rfl, _, rfl, _, _, rfl, rfl, _, rfl, z, rfl, g.line, _, rfl, (by show 3 ≤ sizeLine; decide), fun q hq => ?_⟩
        refine k _ q (s2.trans (same_new hq)) ?_
        have ec := cut_nat z i (i + 1 + spN p r + 1)
        rw [show i + 1 + spN p r + 1 - i = spN p r + 2 by omega, hz] at ec
        rw [upd_same]
        show some (HO.tup [.str (Str.ofString "text"), .str (cutS z (some (i : Int)) (some (((i + 1 + spN p r : Nat) : Int) + 1))), .int (i : Int)]) = _
        rw [show ((i + 1 + spN p r : Nat) : Int) + 1 = ((i + 1 + spN p r + 1 : Nat) : Int) by omega, ec]
        rfl
      | false =>
        rw [h1] at k
        refine iteF ?_
        refine ⟨_, rfl, _, rfl, _, rfl, _, rfl, _, rfl, z, rfl, g.line, _, rfl, (by show 3 ≤ sizeLine; decide), fun q hq => ?_⟩
        refine k _ q (s2.trans (same_new hq)) ?_
        have ec := cut_nat z i (i + 1 + spN p r)
        rw [show i + 1 + spN p r - i = spN p r + 1 by omega, hz] at ec
        rw [upd_same]
        show some (HO.tup [.str (Str.ofString "open"), .str (cutS z (some (i : Int)) (some ((i + 1 + spN p r : Nat) : Int))), .int (i : Int)]) = _
        rw [ec]
        rfl
    · rintro - mm σ H2 R ⟨j, rfl, rfl, s2, hij, e⟩ hfin hbody
      refine ⟨_, rfl, _, rfl, _, _, rfl, ⟨g.line, rfl⟩, _, _, rfl, rfl, _, rfl, ?_⟩
      show if decide (((j : Nat) : Int) < ((z.length : Nat) : Int)) = true then _ else _
      rw [len_lt]
      cases hl : (tl z).drop j with
      | nil =>
        refine iteF ?_
        refine hfin _ ⟨?_, s2⟩
        rw [e, hl]
        rfl
      | cons d t =>
        refine iteT ?_
        refine ⟨_, rfl, _, rfl, z, (j : Int), d, rfl, rfl, g.line, cp_at hl, _, rfl, _, rfl, z, (i : Int), c, rfl, rfl, g.line, cp_at hz, rfl, _, rfl, ?_⟩
        show if (!decide (V.str ⟨#[d]⟩ = V.str ⟨#[c]⟩)) = true then _ else _
        rw [dec_one]
        have hb : spN p (d :: t) = if p d then spN p t + 1 else 0 := rfl
        have hpd : p d = (isSg d && d != c) := by rw [← hp]
        cases hdc : d == c with
        | true =>
          refine iteF ?_
          refine hfin _ ⟨?_, s2⟩
          have : p d = false := by
            rw [hpd]
            simp [bne, hdc]
          rw [e, hl, hb, this]
          rfl
        | false =>
          refine iteT ?_
          have hsd : isSg d = true := g.sg d (List.mem_of_mem_drop (i := j) (by rw [hl]; exact List.mem_cons_self))
          refine ⟨_, rfl, _, rfl, z, (j : Int), d, rfl, rfl, g.line, cp_at hl, [d], rfl, fun H3 s3 => ⟨_, rfl, ?_⟩⟩
          show R (isSg d) H3
          rw [hsd]
          refine hbody _ ?_
          have hdj := drop_cons hl
          have : p d = true := by
            rw [hpd, hsd]
            simp [bne, hdc]
          refine ⟨_, rfl, _, _, rfl, rfl, ?_⟩
          refine ⟨z.length - (j + 1), by omega, j + 1, rfl, ?_, s2.trans s3, by omega, ?_⟩
          · show [some (V.str z), some (.int (i : Int)), some (.int ((j : Int) + 1))] = _
            rw [show ((j : Int) + 1) = ((j + 1 : Nat) : Int) by omega]
          · rw [e, hl, hb, this, hdj.2, if_pos rfl]
            omega
end
end K20
/-! K20Td -/
namespace K20
open PySem PySem.Spec PyProof.Rows L2 TL
theorem st3 (z wd : Str) (i : Nat) (hi : i ≤ z.length) : Txt.startswith3 z wd (i : Int) = (((tl z).drop i).take (tl wd).length == tl wd) := by
  unfold Txt.startswith3
  have e : fromIndex z.length (i : Int) = i := by
    unfold fromIndex
    rw [if_neg (by omega)]
    omega
  rw [e, StrLaws.subAt_eq, len_tl wd]
  have hz := len_tl z
  show (decide (i + (tl wd).length ≤ z.length) && (((tl z).drop i).take (tl wd).length == tl wd)) = _
  cases h : (((tl z).drop i).take (tl wd).length == tl wd) with
  | false => rw [Bool.and_false]
  | true =>
    have h2 := congrArg List.length (eq_of_beq h)
    rw [List.length_take, List.length_drop] at h2
    rw [decide_eq_true (by omega)]
    rfl
theorem signs_tl : signsL.map tl = sgL := by decide +kernel
theorem find_at {α : Type} {p : α → Bool} : ∀ {L : List α} {t : Nat} {x : α}, L[t]? = some x → p x = true → (∀ m y, m < t → L[m]? = some y → p y = false) → L.find? p = some x
  | [], _, _, h, _, _ => by cases h
  | a :: L, 0, x, h, hp, _ => by
    cases h
    rw [List.find?_cons, hp]
  | a :: L, t + 1, x, h, hp, hno => by
    rw [List.find?_cons, hno 0 a (Nat.succ_pos _) rfl]
    exact find_at (L := L) (t := t) h hp fun m y hm hy => hno (m + 1) y (Nat.succ_lt_succ hm) hy
theorem sgN_map (l : List Nat) : sgN l = (signsL.find? fun wd => l.take (tl wd).length == tl wd).map tl := by
  unfold sgN
  rw [← signs_tl, List.find?_map]
  rfl
theorem sgN_some {l : List Nat} {t : Nat} {wd : Str} (hw : signsL[t]? = some wd) (hm : (l.take (tl wd).length == tl wd) = true) (hno : ∀ m wd, m < t → signsL[m]? = some wd → (l.take (tl wd).length == tl wd) = false) : sgN l = some (tl wd) := by
  rw [sgN_map, find_at hw hm hno]
  rfl
theorem sgN_none {l : List Nat} (hno : ∀ (m : Nat) wd, signsL[m]? = some wd → (l.take (tl wd).length == tl wd) = false) : sgN l = none := by
  rw [sgN_map, List.find?_eq_none.mpr]
  · rfl
  · intro wd hwd
    obtain ⟨m, hm⟩ := List.getElem?_of_mem hwd
    rw [hno m wd hm]
    exact Bool.false_ne_true
def spTk : Sp := fun vs H Q _ => ∃ (z : Str) (i : Nat), vs = [.str z, .int i] ∧ Gd z ∧ rTk H Q (tkN ((tl z).drop i)).1 (((tl z).drop i).take (tkN ((tl z).drop i)).2) i
theorem inV2 (c : Nat) : inV (.str (mkS [c])) [.str (Str.ofString "'"), .str (Str.ofString "\"")] = (c == 39 || c == 34) := by
  show (eqV _ _ || (eqV _ _ || false)) = _
  rw [eqV_str, eqV_str, lit (s := "'") (l := [39]), lit (s := "\"") (l := [34]), tl_mkS, tl_mkS, tl_mkS]
  rw [dec1, dec1, Bool.or_false]
section
variable {P : Program} {w : World} {K : PySem.W.Frag} {mg : Str → Option Value} {base : Heap}
theorem ok_token_at (T : Tx w K mg) : Ok P w K mg base CX0 4 (He.fAd K d_token_at.at_) p_token_at spTk := by
  obtain ⟨fd, F⟩ := f_token_at T
  obtain ⟨fB, GB, bB, kB⟩ := ok_begins_word (P := P) (base := base) T
  obtain ⟨fD, GD, bD, kD⟩ := ok_is_digit (P := P) (base := base) T
  obtain ⟨fN, GN, bN, kN⟩ := ok_end_of_name (P := P) (base := base) T
  obtain ⟨fU, GU, bU, kU⟩ := ok_end_of_number (P := P) (base := base) T
  obtain ⟨fQ, GQ, bQ, kQ⟩ := ok_quoted_token (P := P) (base := base) T
  refine ⟨fd, ?_, b_token_at F, F.kp⟩
  refine F.ok sc_token_at (fun vs H Q E h => ?_) (fun cdv A outer s H vs Q E hr h => ?_)
  · obtain ⟨z, i, rfl, _⟩ := h
    rfl
  · obtain ⟨z, i, rfl, g, k⟩ := h
    have nd := sc_token_at.nd
    have hlen : z.length = (tl z).length := len_tl z
    refine ⟨_, PSs.nox (pss_cons (ps_set (i := 2) nd rfl (.inl rfl) (pe_slice sl_str (pv 0) (po_some (pv 1)) (po_some (pe_op op_add (pv 1) pe_int))))
      (pss_cons (ps_if (pt_cmpR op_eq (pv 2) pe_str (nomark _)) (pss_one (ps_ret (pe_tup (pa_cons pe_str (pa_cons pe_str (pa_cons (pv 1) pa_nil)))))) pss_nil)
      (pss_cons (ps_if (pt_val (pe_call (E := E0) GB (hr.mono (by decide)) (by rfl) (g_begins_word T) kB bB .nil pass0 (pa_cons (pv 2) pa_nil)))
        (pss_one (ps_ret (pe_tup (pa_cons pe_str (pa_cons (pe_slice sl_str (pv 0) (po_some (pv 1)) (po_some (pe_call (E := E0) GN (hr.mono (by decide)) (by rfl) (g_end_of_name T) kN bN .nil pass0 (pa_cons (pv 0) (pa_cons (pv 1) pa_nil))))) (pa_cons (pv 1) pa_nil)))))) pss_nil)
      (Evl.pss_cut (ps_if (pw_or (pt_val (pe_call (E := E0) GD (hr.mono (by decide)) (by rfl) (g_is_digit T) kD bD .nil pass0 (pa_cons (pv 2) pa_nil)))
          (pw_or1 (pw_and (pt_cmpR op_eq (pv 2) pe_str (nomark _)) (pw_and1 (pt_val (pe_call (E := E0) GD (hr.mono (by decide)) (by rfl) (g_is_digit T) kD bD .nil pass0
            (pa_cons (pe_slice sl_str (pv 0) (po_some (pe_op op_add (pv 1) pe_int)) (po_some (pe_op op_add (pv 1) pe_int))) pa_nil))))).pt)).pt
        (pss_one (ps_ret (pe_tup (pa_cons pe_str (pa_cons (pe_slice sl_str (pv 0) (po_some (pv 1)) (po_some (pe_call (E := E0) GU (hr.mono (by decide)) (by rfl) (g_end_of_number T) kU bU .nil pass0 (pa_cons (pv 0) (pa_cons (pv 1) pa_nil))))) (pa_cons (pv 1) pa_nil)))))) pss_nil)
      (pss_cons (ps_if (pt_cmpR op_in_seq (pv 2) (pe_tup (pa_cons pe_str (pa_cons pe_str pa_nil))) (by rfl))
        (pss_one (ps_ret (pe_call (E := E0) GQ (hr.mono (by decide)) (by rfl) (g_quoted_token T) kQ bQ .nil pass0 (pa_cons (pv 0) (pa_cons (pv 1) pa_nil))))) pss_nil)
      (pss_cons (ps_for PassesOwn.never rfl (pi_tup (pe_glob (v := .ref (He.ga K "SIGNS")) (by rfl) (g_SIGNS T) rfl)) (pg_name (i := 3) nd rfl (.inl rfl))
        (pss_one (ps_if (pt_val (pe_bm PySem.F.plainAttrs_str PySem.F.slot_str_startswith PySem.F.type_str_startswith mt_startswith3 (pv 0) (pa_cons (pv 3) (pa_cons (pv 1) pa_nil))))
          (pss_one (ps_ret (pe_tup (pa_cons pe_str (pa_cons (pv 3) (pa_cons (pv 1) pa_nil)))))) pss_nil)))
      (pss_one (ps_ret (pe_tup (pa_cons pe_str (pa_cons (pv 2) (pa_cons (pv 1) pa_nil))))))))))))
      , ?_⟩
    have ret : ∀ (H1 : Hp) (kd : Ki) (wd : List Nat), Same H H1 → (tkN ((tl z).drop i)).1 = kd → ((tl z).drop i).take (tkN ((tl z).drop i)).2 = wd → ∀ p, H1 p = none → ∀ ks ws : Str, ks = kiS kd → ws = mkS wd → Q (.ref p) (upd H1 p (.tup [.str ks, .str ws, .int (i : Int)])) := by
      intro H1 kd wd s1 e1 e2 p hp ks ws e3 e4
      subst e3 e4
      rw [e1, e2] at k
      exact k _ p (s1.trans (same_new hp)) upd_same
    refine ⟨_, rfl, _, rfl, _, rfl, _, rfl, _, _, rfl, rfl, _, rfl, z, rfl, g.line, ?_⟩
    rw [cut_one]
    generalize hl : (tl z).drop i = l at *
    refine ⟨_, rfl, rfl, _, rfl, ?_⟩
    show if decide (V.str (sg l) = V.str (Str.ofString "")) = true then _ else _
    rw [sg_empty]
    cases l with
    | nil =>
      refine iteT ?_
      refine ⟨_, rfl, (by show 3 ≤ sizeLine; decide), fun p hp => ret H .fin [] (Same.refl H) rfl rfl p hp _ _ rfl ?_⟩
      exact lit (s := "") (l := [])
    | cons c r =>
      refine iteF ?_
      have htk : tkN (c :: r) = if isLt c = true then (.nam, nmN (c :: r)) else if (isDg c || (c == 46 && hP isDg r)) = true then (.num, nuN (c :: r)) else if (c == 39 || c == 34) = true then
          (if hP (· == c) (r.drop (spN (fun d => isSg d && d != c) r)) = true then (.txt, spN (fun d => isSg d && d != c) r + 2) else (.opn, spN (fun d => isSg d && d != c) r + 1))
        else match sgN (c :: r) with
          | some w => (.sgn, w.length)
          | none => (.brk, 1) := rfl
      have hdj := drop_cons hl
      refine ⟨_, rfl, c :: r, rfl, fun a b hab => g.lt (hl.trans hab), fun H1 s1 => ⟨_, rfl, ?_⟩⟩
      show if isLt c = true then _ else _
      cases hc : isLt c with
      | true =>
        rw [hc, if_pos rfl] at htk
        refine iteT ?_
        refine ⟨_, rfl, _, rfl, _, rfl, _, rfl, _, rfl, z, i, rfl, g, fun H2 s2 => ⟨_, rfl, z, rfl, g.line, _, rfl, (by show 3 ≤ sizeLine; decide), fun p hp => ?_⟩⟩
        refine ret H2 .nam _ (s1.trans s2) (by rw [htk]) rfl p hp _ _ rfl ?_
        rw [htk, hl]
        have ec := cut_nat z i (i + nmN (c :: r))
        rw [Nat.add_sub_cancel_left, hl] at ec
        exact ec
      | false =>
        refine iteF ?_
        rw [hc, if_neg Bool.false_ne_true] at htk
        refine ⟨fun σ H2 => σ = [some (V.str z), some (.int (i : Int)), some (.str (sg (c :: r))), none] ∧ Same H H2 ∧ (isDg c || (c == 46 && hP isDg r)) = false, ?_, ?_⟩
        · refine ⟨_, rfl, c :: r, rfl, fun H2 s2 => ⟨_, rfl, ?_⟩⟩
          have s02 := s1.trans s2
          show if isDg c = true then _ else _
          cases hd : isDg c with
          | true =>
            refine iteT (iteT ?_)
            refine ⟨_, rfl, _, rfl, _, rfl, _, rfl, _, rfl, z, i, rfl, g, fun H5 s5 => ⟨_, rfl, z, rfl, g.line, _, rfl, (by show 3 ≤ sizeLine; decide), fun p hp => ?_⟩⟩
            have ht2 : tkN (c :: r) = (.num, nuN (c :: r)) := by
              rw [htk, if_pos (by rw [hd]; rfl)]
            refine ret H5 .num _ (s02.trans s5) (by rw [ht2]) rfl p hp _ _ rfl ?_
            rw [ht2, hl]
            have ec := cut_nat z i (i + nuN (c :: r))
            rw [Nat.add_sub_cancel_left, hl] at ec
            exact ec
          | false =>
            refine iteF ?_
            rw [hd, Bool.false_or] at htk
            refine ⟨_, rfl, rfl, _, rfl, ?_⟩
            show if decide (V.str (sg (c :: r)) = V.str (Str.ofString ".")) = true then _ else _
            rw [sg_lit _ (c := 46)]
            show if (c == 46) = true then _ else _
            cases h46 : c == 46 with
            | true =>
              refine iteT ?_
              refine ⟨_, rfl, _, rfl, _, _, rfl, rfl, _, rfl, _, rfl, _, _, rfl, rfl, _, rfl, z, rfl, g.line, ?_⟩
              rw [cut_next, hdj.2]
              refine ⟨r, rfl, fun H3 s3 => ⟨_, rfl, ?_⟩⟩
              show if hB isDg r = true then _ else _
              rw [hB_hP]
              have s03 := s02.trans s3
              rw [h46, Bool.true_and] at htk
              cases hr2 : hP isDg r with
              | true =>
                refine iteT ?_
                refine ⟨_, rfl, _, rfl, _, rfl, _, rfl, _, rfl, z, i, rfl, g, fun H5 s5 => ⟨_, rfl, z, rfl, g.line, _, rfl, (by show 3 ≤ sizeLine; decide), fun p hp => ?_⟩⟩
                have ht2 : tkN (c :: r) = (.num, nuN (c :: r)) := by
                  rw [htk, if_pos (hr2)]
                refine ret H5 .num _ (s03.trans s5) (by rw [ht2]) rfl p hp _ _ rfl ?_
                rw [ht2, hl]
                have ec := cut_nat z i (i + nuN (c :: r))
                rw [Nat.add_sub_cancel_left, hl] at ec
                exact ec
              | false =>
                refine iteF ?_
                exact ⟨rfl, s03, rfl⟩
            | false =>
              refine iteF ?_
              exact ⟨rfl, s02, rfl⟩
        rintro σ H2 ⟨rfl, s02, hnd⟩
        rw [hnd, if_neg Bool.false_ne_true] at htk
        refine ⟨_, rfl, (by decide), fun p hp => ⟨p, _, rfl, .inr (SqT.of upd_same), rfl, rfl, ?_⟩⟩
        rw [if_neg Bool.false_ne_true]
        refine ⟨_, rfl, ?_⟩
        show if inV (.str (sg (c :: r))) [.str (Str.ofString "'"), .str (Str.ofString "\"")] = true then _ else _
        rw [show (sg (c :: r)) = mkS [c] from rfl, inV2]
        have s3 := s02.trans (same_new hp (o := .tup [.str (Str.ofString "'"), .str (Str.ofString "\"")]))
        generalize upd H2 p (.tup [.str (Str.ofString "'"), .str (Str.ofString "\"")]) = H3 at s3 ⊢
        cases hq : (c == 39 || c == 34) with
        | true =>
          rw [hq, if_pos rfl] at htk
          refine iteT ?_
          refine ⟨_, rfl, _, rfl, z, i, c, r, rfl, g, hl, fun H4 t s4 ht => k _ t (s3.trans s4) ?_⟩
          rw [ht, htk]
          cases hP (· == c) (r.drop (spN (fun d => isSg d && d != c) r)) <;> rfl
        | false =>
          rw [hq, if_neg Bool.false_ne_true] at htk
          refine iteF ?_
          obtain ⟨_, _, _, _, _, _, _, _, hS, _⟩ := mores T
          have hS2 := strs_of hS (by decide +kernel)
          refine ⟨_, rfl, ⟨_, hS2 _⟩, ?_⟩
          refine for_it (walk_tup (xs := signsL.map V.str)) (fun t σ H4 => Same H3 H4 ∧ (∃ v3 : Option V, σ = [some (V.str z), some (.int (i : Int)), some (.str (sg (c :: r))), v3]) ∧ ∀ m wd, m < t → signsL[m]? = some wd → ((c :: r).take (tl wd).length == tl wd) = false)
            ⟨Same.refl _, ⟨_, rfl⟩, fun m wd hm => absurd hm (Nat.not_lt_zero _)⟩ (fun t σ H4 _ h => hS2 _) ?_ ?_
          · rintro t x σ H4' H4 ht ⟨s4, ⟨v3, rfl⟩, hno⟩ ⟨rfl, hx⟩
            rw [List.getElem?_map] at hx
            cases hw : signsL[t]? with
            | none => rw [hw] at hx; cases hx
            | some wd =>
              rw [hw] at hx
              cases hx
              refine ⟨_, rfl, rfl, _, rfl, _, rfl, z, wd, (i : Int), rfl, rfl, _, rfl, ?_⟩
              rw [st3 z wd i (by omega), hl]
              have s04 := s3.trans s4
              have hwm : wd ∈ signsL := List.mem_of_getElem? hw
              cases hm : ((c :: r).take (tl wd).length == tl wd) with
              | true =>
                refine iteT ?_
                have hf : sgN (c :: r) = some (tl wd) := sgN_some hw hm hno
                rw [hf] at htk
                refine ⟨_, rfl, _, rfl, (by show 3 ≤ sizeLine; decide), fun p hp => ret H4 .sgn (tl wd) s04 (by rw [htk]) ?_ p hp _ _ rfl (mkS_tl wd).symm⟩
                rw [htk]
                exact eq_of_beq hm
              | false =>
                refine iteF ?_
                refine ⟨s4, ⟨_, rfl⟩, fun m wd' hm' hw' => ?_⟩
                by_cases e : m = t
                · subst e
                  rw [hw] at hw'
                  cases hw'
                  exact hm
                · exact hno m wd' (by omega) hw'
          · rintro σ H4 ⟨s4, ⟨v3, rfl⟩, hno⟩
            have hf : sgN (c :: r) = none := sgN_none fun m wd hm => hno m wd (by have := (List.getElem?_eq_some_iff.mp hm).1; rw [List.length_map]; exact this) hm
            rw [hf] at htk
            refine ⟨_, rfl, _, rfl, (by show 3 ≤ sizeLine; decide), fun p hp => ret H4 .brk [c] (s3.trans s4) (by rw [htk]) ?_ p hp _ _ rfl rfl⟩
            rw [htk]
            rfl
end
end K20
/-! K20Te -/
namespace K20
open PySem PySem.Spec PyProof.Rows L2 TL
theorem same_upd0 {H0 H : Hp} {b : Addr} {o : HO} (s : Same H0 H) (h : H0 b = none) : Same H0 (upd H b o) := fun c u e => by
  rw [upd_ne (ne_of_none e h)]
  exact s _ _ e
abbrev Tk : Type := Ki × List Nat × Nat
def TkAt (H : Hp) (v : V) (t : Tk) : Prop := ∃ a, v = .ref a ∧ H a = some (.tup (tkV t.1 t.2.1 t.2.2))
def Toks (H : Hp) : List V → List Tk → Prop
  | [], [] => True
  | v :: vs, t :: ts => TkAt H v t ∧ Toks H vs ts
  | _, _ => False
theorem Toks.keep {H H' : Hp} (k : ∀ a xs, H a = some (.tup xs) → H' a = some (.tup xs)) : ∀ {vs : List V} {ts : List Tk}, Toks H vs ts → Toks H' vs ts
  | [], [], _ => trivial
  | _ :: _, _ :: _, ⟨⟨a, e, h⟩, r⟩ => ⟨⟨a, e, k _ _ h⟩, Toks.keep k r⟩
  | [], _ :: _, h => h.elim
  | _ :: _, [], h => h.elim
theorem Toks.add {H : Hp} : ∀ {vs : List V} {ts : List Tk} {v : V} {t : Tk}, Toks H vs ts → TkAt H v t → Toks H (vs ++ [v]) (ts ++ [t])
  | [], [], _, _, _, h => ⟨h, trivial⟩
  | _ :: _, _ :: _, _, _, ⟨a, r⟩, h => ⟨a, Toks.add r h⟩
  | [], _ :: _, _, _, h, _ => h.elim
  | _ :: _, [], _, _, h, _ => h.elim
theorem Toks.len {H : Hp} : ∀ {vs : List V} {ts : List Tk}, Toks H vs ts → vs.length = ts.length
  | [], [], _ => rfl
  | _ :: _, _ :: _, ⟨_, r⟩ => by
    show _ + 1 = _ + 1
    rw [Toks.len r]
  | [], _ :: _, h => h.elim
  | _ :: _, [], h => h.elim
theorem inV_end (k : Ki) : inV (.str (kiS k)) [.str (Str.ofString "end"), .str (Str.ofString "open"), .str (Str.ofString "broken")] = k.ends := by
  cases k <;> decide +kernel
theorem atI0 (x : V) (xs : List V) : atI (x :: xs) 0 = some x := atI_nat (show (x :: xs)[0]? = some x from rfl)
theorem atI1 (x y : V) (xs : List V) : atI (x :: y :: xs) 1 = some y := atI_nat (show (x :: y :: xs)[1]? = some y from rfl)
def tokL (z : Str) : List Tk := tksN (z.length + 1) 0 (tl z)
def spTs : Sp := fun vs H Q _ => ∃ (z : Str), vs = [.str z] ∧ Gd z ∧ ∀ H' L ts, Same H H' → H L = none → H' L = some (.lst ts) → Toks H' ts (tokL z) → Q (.ref L) H'
section
variable {P : Program} {w : World} {K : PySem.W.Frag} {mg : Str → Option Value} {base : Heap}
theorem ok_tokens_in (T : Tx w K mg) : Ok P w K mg base CX0 5 (He.fAd K d_tokens_in.at_) p_tokens_in spTs := by
  obtain ⟨fd, F⟩ := f_tokens_in T
  obtain ⟨fB, GB, bB, kB⟩ := ok_end_of_blanks (P := P) (base := base) T
  obtain ⟨fT, GT, bT, kT⟩ := ok_token_at (P := P) (base := base) T
  refine ⟨fd, ?_, b_tokens_in F, F.kp⟩
  refine F.ok sc_tokens_in (fun vs H Q E h => ?_) (fun cdv A outer s H vs Q E hr h => ?_)
  · obtain ⟨z, rfl, _⟩ := h
    rfl
  · obtain ⟨z, rfl, g, k⟩ := h
    have nd := sc_tokens_in.nd
    have hlen : z.length = (tl z).length := len_tl z
    refine ⟨_, PSs.nox (pss_cons (ps_set (i := 1) nd rfl (.inl rfl) (pe_lst pa_nil))
      (pss_cons (ps_set (i := 2) nd rfl (.inl rfl) pe_int)
      (pss_one (ps_while PassesOwn.never (pt_val pe_bl)
        (pss_cons (ps_set (i := 2) nd rfl (.inl rfl) (pe_call (E := E0) GB (hr.mono (by decide)) (by rfl) (g_end_of_blanks T) kB bB .nil pass0 (pa_cons (pv 0) (pa_cons (pv 2) pa_nil))))
        (pss_cons (ps_set (i := 3) nd rfl (.inl rfl) (pe_call (E := E0) GT (hr.mono (by decide)) (by rfl) (g_token_at T) kT bT .nil pass0 (pa_cons (pv 0) (pa_cons (pv 2) pa_nil))))
        (pss_cons (ps_expr (pe_bm PySem.F.plainAttrs_list PySem.F.slot_list_append PySem.F.type_list_append mt_append (pv 1) (pa_cons (pv 3) pa_nil)))
        (pss_cons (ps_if (pt_cmpR op_in_seq (pe_ix ix_tup (pv 3) pe_int (fun _ _ => rfl)) (pe_tup (pa_cons pe_str (pa_cons pe_str (pa_cons pe_str pa_nil)))) (by rfl)) (pss_one (ps_ret (pv 1))) pss_nil)
        (pss_one (ps_aug (i := 2) nd rfl (.inl rfl) (pe_callB call_len (by rfl) (n_len T) PySem.boot_len (pa_cons (pe_ix ix_tup (pv 3) pe_int (fun _ _ => rfl)) pa_nil)) ip_add)))))))))), ?_⟩
    refine ⟨by decide, fun L hL => ?_⟩
    have s1 : Same H (upd H L (.lst [])) := same_new hL
    have hL1 : upd H L (.lst []) L = some (.lst []) := upd_same
    generalize upd H L (.lst []) = H1 at s1 hL1 ⊢
    refine while_x (fun mm σ H2 => ∃ (j : Nat) (v3 : Option V) (pre : List Tk) (vs : List V), mm = z.length - j ∧ σ = [some (V.str z), some (.ref L), some (.int (j : Int)), v3] ∧ Same H H2 ∧ H2 L = some (.lst vs) ∧ Toks H2 vs pre ∧ pre.length ≤ j ∧ j ≤ z.length ∧
        ∃ f, z.length + 1 ≤ j + f ∧ tokL z = pre ++ tksN f j ((tl z).drop j))
      (fun σ H2 => False) ⟨_, 0, none, [], [], rfl, rfl, s1, hL1, trivial, Nat.le_refl _, Nat.zero_le _, z.length + 1, by omega, rfl⟩ (fun _ _ h => h.elim) ?_
    rintro - mm σ H2 R ⟨j, v3, pre, vs, rfl, rfl, s2, h2, tk2, hpj, hj, f, hf, e⟩ hfin hbody
    refine ⟨_, rfl, ?_⟩
    refine hbody _ ?_
    obtain ⟨f, rfl⟩ : ∃ f', f = f' + 1 := ⟨f - 1, by omega⟩
    generalize hl : (tl z).drop j = l at *
    have hll : l.length = z.length - j := by rw [← hl, List.length_drop, hlen]
    refine ⟨_, rfl, _, rfl, z, j, rfl, g, fun H3 s3 => ?_⟩
    rw [hl]
    have hb := spN_le isBl l
    have hlb : (tl z).drop (j + spN isBl l) = l.drop (spN isBl l) := by rw [← hl, List.drop_drop]
    refine ⟨_, rfl, _, rfl, z, j + spN isBl l, rfl, g, ?_⟩
    rw [hlb]
    have ets : tksN (f + 1) j l = ((tkN (l.drop (spN isBl l))).1, (l.drop (spN isBl l)).take (tkN (l.drop (spN isBl l))).2, j + spN isBl l) ::
        if (tkN (l.drop (spN isBl l))).1.ends = true then [] else tksN f (j + spN isBl l + ((l.drop (spN isBl l)).take (tkN (l.drop (spN isBl l))).2).length) (l.drop (spN isBl l + ((l.drop (spN isBl l)).take (tkN (l.drop (spN isBl l))).2).length)) := rfl
    have hpos := tkN_pos (l := l.drop (spN isBl l))
    have hld : (l.drop (spN isBl l)).length = l.length - spN isBl l := List.length_drop
    generalize spN isBl l = b at *
    generalize hl2 : l.drop b = l2 at *
    generalize tkN l2 = tk at *
    obtain ⟨kd, n⟩ := tk
    have hwl : (l2.take n).length = min n l2.length := List.length_take
    generalize l2.take n = wd at *
    intro H4 t s4 ht
    have h4 : H4 L = some (.lst vs) := s4 _ _ (s3 _ _ h2)
    have hvl := tk2.len
    have htL : t ≠ L := fun e => by
      subst e
      rw [ht] at h4
      cases h4
    refine ⟨_, rfl, .inl ⟨rfl, _, SqL.of h4⟩, _, rfl, L, vs, .ref t, rfl, rfl, h4, by rw [sizeLine_eq]; have := g.len; omega, ?_⟩
    have s5 : Same H (upd H4 L (.lst (vs ++ [.ref t]))) := same_upd0 ((s2.trans s3).trans s4) hL
    have h5 : upd H4 L (.lst (vs ++ [.ref t])) L = some (.lst (vs ++ [.ref t])) := upd_same
    have ht5 : upd H4 L (.lst (vs ++ [.ref t])) t = some (.tup (tkV kd wd (j + b))) := by rw [upd_ne htL]; exact ht
    have tk5 : Toks (upd H4 L (.lst (vs ++ [.ref t]))) (vs ++ [.ref t]) (pre ++ [(kd, wd, j + b)]) := by
      refine Toks.add (Toks.keep (fun a xs ha => ?_) tk2) ⟨t, rfl, ht5⟩
      have ha4 := s4 _ _ (s3 _ _ ha)
      rw [upd_ne (fun e => by subst e; rw [h4] at ha4; cases ha4)]
      exact ha4
    generalize upd H4 L (.lst (vs ++ [.ref t])) = H5 at s5 h5 ht5 tk5 ⊢
    refine ⟨_, rfl, t, _, 0, _, rfl, rfl, SqT.of ht5, atI0 _ _, (by decide), fun p hp => ⟨p, _, rfl, .inr (SqT.of upd_same), rfl, rfl, ?_⟩⟩
    rw [if_neg Bool.false_ne_true]
    refine ⟨_, rfl, ?_⟩
    rw [inV_end]
    have s6 := same_new hp (o := .tup [.str (Str.ofString "end"), .str (Str.ofString "open"), .str (Str.ofString "broken")])
    generalize upd H5 p (.tup [.str (Str.ofString "end"), .str (Str.ofString "open"), .str (Str.ofString "broken")]) = H6 at s6 ⊢
    have tk6 := Toks.keep (fun a xs ha => s6 _ _ ha) tk5
    cases hk : kd.ends with
    | true =>
      refine iteT ?_
      refine ⟨_, rfl, k H6 L _ (s5.trans s6) hL (s6 _ _ h5) ?_⟩
      rw [e, ets]
      show Toks _ _ (pre ++ (_ :: if kd.ends = true then _ else _))
      rw [if_pos hk]
      exact tk6
    | false =>
      refine iteF ?_
      obtain ⟨hn, hne⟩ := hpos hk
      have hl2p : 1 ≤ l2.length := List.length_pos_iff.mpr hne
      refine ⟨_, rfl, _, rfl, t, _, 1, _, rfl, rfl, SqT.of (s6 _ _ ht5), atI1 _ _ _, _, _, rfl, ⟨?_, rfl⟩, _, _, rfl, rfl, ?_⟩
      · rw [mkS_len, sizeLine_eq]
        have := g.len
        omega
      · have hwp : 1 ≤ wd.length := by
          rw [hwl]
          exact Nat.le_min.mpr ⟨hn, hl2p⟩
        have hwle : wd.length ≤ l2.length := by
          rw [hwl]
          exact Nat.min_le_right _ _
        refine ⟨z.length - (j + b + wd.length), by omega, j + b + wd.length, some (.ref t), pre ++ [(kd, wd, j + b)], vs ++ [.ref t], rfl, ?_, s5.trans s6, s6 _ _ h5, tk6, ?_, by omega, f, by omega, ?_⟩
        · show [some (V.str z), some (V.ref L), some (V.int (((j + b : Nat) : Int) + (((mkS wd).length : Nat) : Int))), some (V.ref t)] = _
          rw [mkS_len, show ((j + b : Nat) : Int) + ((wd.length : Nat) : Int) = ((j + b + wd.length : Nat) : Int) by omega]
        · rw [List.length_append]
          show pre.length + 1 ≤ _
          omega
        · rw [e, ets, List.append_assoc]
          show pre ++ (_ :: if kd.ends = true then _ else _) = pre ++ (_ :: _)
          rw [hk, if_neg Bool.false_ne_true, ← hl, List.drop_drop, ← Nat.add_assoc]
          rfl
end
end K20
/-! K20Ra -/
namespace K20
open PySem PySem.Spec PyProof.Rows L2 TL
/-! ### the reader's state -/
theorem lk_hit {k : Str} {v : V} {r : List (Str × V)} : List.lookup k ((k, v) :: r) = some v := by
  rw [List.lookup_cons, beq_self_eq_true]
theorem lk_skip {k f : Str} {v : V} {r : List (Str × V)} (h : (k == f) = false) : List.lookup k ((f, v) :: r) = List.lookup k r := by
  rw [List.lookup_cons, h]
theorem put_hit {k : Str} {u v : V} {r : List (Str × V)} : putF k v ((k, u) :: r) = (k, v) :: r := by
  show (if k = k then _ else _) = _
  rw [if_pos rfl]
theorem put_skip {k f : Str} {u v : V} {r : List (Str × V)} (h : ¬ f = k) : putF k v ((f, u) :: r) = (f, u) :: putF k v r := by
  show (if f = k then _ else _) = _
  rw [if_neg h]
abbrev CP (K : PySem.W.Frag) : Addr := He.ga K "PathReader"
def prF (z : Str) (L : Addr) (j : Nat) : List (Str × V) := [("text", .str z), ("closed", .bl false), ("tokens", .ref L), ("at", .int (j : Int))]
section
variable {z : Str} {L : Addr} {j : Nat}
theorem pr_text : (prF z L j).lookup ("text" : Str) = some (.str z) := lk_hit
theorem pr_closed : (prF z L j).lookup ("closed" : Str) = some (.bl false) := (lk_skip (by decide +kernel)).trans lk_hit
theorem pr_tokens : (prF z L j).lookup ("tokens" : Str) = some (.ref L) := (lk_skip (by decide +kernel)).trans ((lk_skip (by decide +kernel)).trans lk_hit)
theorem pr_at : (prF z L j).lookup ("at" : Str) = some (.int (j : Int)) := (lk_skip (by decide +kernel)).trans ((lk_skip (by decide +kernel)).trans ((lk_skip (by decide +kernel)).trans lk_hit))
theorem pr_no {m : Str} (h : (["text", "closed", "tokens", "at"] : List Str).all (fun f => !(m == f)) = true) : (prF z L j).lookup m = none := by
  simp only [List.all_cons, List.all_nil, Bool.and_true, Bool.and_eq_true, Bool.not_eq_true'] at h
  obtain ⟨h1, h2, h3, h4⟩ := h
  exact (lk_skip h1).trans ((lk_skip h2).trans ((lk_skip h3).trans ((lk_skip h4).trans rfl)))
theorem pr_put {n : Int} {i : Nat} (h : n = (i : Int)) : putF "at" (.int n) (prF z L j) = prF z L i := by
  subst h
  unfold prF
  rw [put_skip (by decide +kernel), put_skip (by decide +kernel), put_skip (by decide +kernel), put_hit]
end
/-- all but p stands -/
def SameB (p : Addr) (H H' : Hp) : Prop := ∀ b o, b ≠ p → H b = some o → H' b = some o
theorem SameB.refl (p : Addr) (H : Hp) : SameB p H H := fun _ _ _ h => h
theorem SameB.trans {p : Addr} {H H1 H2 : Hp} (a : SameB p H H1) (b : SameB p H1 H2) : SameB p H H2 := fun c o n h => b c o n (a c o n h)
theorem SameB.of {p : Addr} {H H1 : Hp} (a : Same H H1) : SameB p H H1 := fun c o _ h => a c o h
theorem SameB.up {p : Addr} {H : Hp} {o : HO} : SameB p H (upd H p o) := fun c o' n h => by rw [upd_ne n]; exact h
/-- a reader: its addresses, its text, its tokens -/
structure Rd0 where
  r : Addr
  dx : Addr
  L : Addr
  z : Str
  vs : List V
/-- the reader d stands ahead of the tokens l -/
def PR (K : PySem.W.Frag) (H : Hp) (d : Rd0) (l : List Tk) : Prop :=
  ∃ j, Gd d.z ∧ (tokL d.z).drop j = l ∧ H d.r = some (.ins (CP K) d.dx (prF d.z d.L j)) ∧ H d.L = some (.lst d.vs) ∧ Toks H d.vs (tokL d.z)
theorem PR.ne {K : PySem.W.Frag} {H : Hp} {d : Rd0} {l : List Tk} (a : PR K H d l) : H d.r ≠ none := by
  obtain ⟨j, _, _, h, _⟩ := a
  rw [h]
  exact fun e => by cases e
theorem PR.same {K : PySem.W.Frag} {H H' : Hp} {d : Rd0} {l : List Tk} (a : PR K H d l) (s : Same H H') : PR K H' d l := by
  obtain ⟨j, h0, h1, h2, h3, h4⟩ := a
  exact ⟨j, h0, h1, s _ _ h2, s _ _ h3, h4.keep fun a xs h => s _ _ h⟩
/-- behind a step: the reader stands ahead of l, all else stands -/
def MvR (K : PySem.W.Frag) (H H' : Hp) (d : Rd0) (l : List Tk) : Prop := SameB d.r H H' ∧ PR K H' d l
theorem MvR.same {K : PySem.W.Frag} {H H1 : Hp} {d : Rd0} {l : List Tk} (a : PR K H d l) (s : Same H H1) : MvR K H H1 d l := ⟨.of s, a.same s⟩
theorem MvR.trans {K : PySem.W.Frag} {H H1 H2 : Hp} {d : Rd0} {l m : List Tk} (a : MvR K H H1 d l) (b : MvR K H1 H2 d m) : MvR K H H2 d m := ⟨a.1.trans b.1, b.2⟩
theorem MvR.more {K : PySem.W.Frag} {H H1 H2 : Hp} {d : Rd0} {l : List Tk} (a : MvR K H H1 d l) (s : Same H1 H2) : MvR K H H2 d l := ⟨a.1.trans (.of s), a.2.same s⟩
/-- an error with the place n -/
def Fl (H H' : Hp) (p e : Addr) (n : Nat) : Prop := SameB p H H' ∧ H e = none ∧ ∃ y, H' e = some (.xd [("at", .int (n : Int)), ("why", y)])
theorem SameB.free {p d : Addr} {H H' : Hp} (s : SameB p H H') (hp : H p ≠ none) (hp' : H' p ≠ none) (h : H' d = none) : H d = none := by
  by_cases e : d = p
  · subst e
    exact absurd h hp'
  · cases q : H d with
    | none => rfl
    | some o =>
      have := s d o e q
      rw [h] at this
      cases this
theorem MvR.fl {K : PySem.W.Frag} {H H1 H2 : Hp} {d : Rd0} {l m : List Tk} {e : Addr} {n : Nat} (h0 : PR K H d l) (a : MvR K H H1 d m) (b : Fl H1 H2 d.r e n) : Fl H H2 d.r e n :=
  ⟨a.1.trans b.1, a.1.free h0.ne a.2.ne b.2.1, b.2.2⟩
theorem MvR.raise {K : PySem.W.Frag} {H H1 : Hp} {d : Rd0} {l m : List Tk} {e : Addr} {n : Nat} {y : V} (h0 : PR K H d l) (a : MvR K H H1 d m) (h : H1 e = none) : Fl H (upd H1 e (.xd [("at", .int (n : Int)), ("why", y)])) d.r e n :=
  MvR.fl h0 a ⟨.of (same_new h), h, y, upd_same⟩
theorem Toks.at {H : Hp} : ∀ {vs : List V} {ts : List Tk} {j : Nat} {t : Tk} {r : List Tk}, Toks H vs ts → ts.drop j = t :: r → ∃ a, vs[j]? = some (.ref a) ∧ H a = some (.tup (tkV t.1 t.2.1 t.2.2))
  | [], [], j, t, r, _, h => by simp at h
  | v :: vs, u :: ts, 0, t, r, ⟨⟨a, e, h⟩, _⟩, hd => by
    cases hd
    exact ⟨a, by rw [e]; rfl, h⟩
  | v :: vs, u :: ts, j + 1, t, r, ⟨_, k⟩, hd => Toks.at (j := j) k hd
  | [], _ :: _, _, _, _, h, _ => h.elim
  | _ :: _, [], _, _, _, h, _ => h.elim
end K20
/-! K20Rb -/
namespace K20
open PySem PySem.Spec PyProof.Rows L2 TL
section
variable {P : Program} {w : World} {K : PySem.W.Frag} {mg : Str → Option Value} {base : Heap}
def spPk (K : PySem.W.Frag) : Sp := fun vs H Q _ => ∃ (d : Rd0) (t : Tk) (r : List Tk), vs = [.ref d.r] ∧ PR K H d (t :: r) ∧ ∀ a, H a = some (.tup (tkV t.1 t.2.1 t.2.2)) → Q (.ref a) H
theorem ok_peek (T : Tx w K mg) : Ok P w K mg base CX0 1 (He.fAd K d_PathReader_peek.at_) p_PathReader_peek (spPk K) := by
  obtain ⟨fd, F⟩ := f_PathReader_peek T
  refine ⟨fd, ?_, b_PathReader_peek F, F.kp⟩
  refine F.ok sc_PathReader_peek (fun vs H Q E h => ?_) (fun cdv A outer s H vs Q E hr h => ?_)
  · obtain ⟨d, t, r, rfl, _⟩ := h
    rfl
  · obtain ⟨d, t, r, rfl, ⟨j, g, hj, h2, h3, h4⟩, k⟩ := h
    obtain ⟨a, hv, ha⟩ := h4.at hj
    refine ⟨_, PSs.nox (pss_one (ps_ret (pe_ix ix_list (pe_fld (pv 0) rfl) (pe_fld (pv 0) rfl) (fun _ _ => rfl)))), ?_⟩
    refine ⟨_, rfl, d.r, CP K, d.dx, _, _, rfl, h2, cls_PathReader T, na_PathReader_tokens T, pr_tokens, _, rfl, d.r, CP K, d.dx, _, _, rfl, h2, cls_PathReader T, na_PathReader_at T, pr_at, d.L, d.vs, (j : Int), _, rfl, rfl, SqL.of h3, atI_nat hv, ?_⟩
    exact k a ha
def spPb (K : PySem.W.Frag) : Sp := fun vs H Q _ => ∃ (d : Rd0) (t u : Tk) (r : List Tk), vs = [.ref d.r] ∧ PR K H d (t :: u :: r) ∧ ∀ a, H a = some (.tup (tkV u.1 u.2.1 u.2.2)) → Q (.ref a) H
theorem ok_peek_behind (T : Tx w K mg) : Ok P w K mg base CX0 1 (He.fAd K d_PathReader_peek_behind.at_) p_PathReader_peek_behind (spPb K) := by
  obtain ⟨fd, F⟩ := f_PathReader_peek_behind T
  refine ⟨fd, ?_, b_PathReader_peek_behind F, F.kp⟩
  refine F.ok sc_PathReader_peek_behind (fun vs H Q E h => ?_) (fun cdv A outer s H vs Q E hr h => ?_)
  · obtain ⟨d, t, u, r, rfl, _⟩ := h
    rfl
  · obtain ⟨d, t, u, r, rfl, ⟨j, g, hj, h2, h3, h4⟩, k⟩ := h
    have hj2 : (tokL d.z).drop (j + 1) = u :: r := by
      rw [← List.drop_drop, hj]
      rfl
    obtain ⟨a, hv, ha⟩ := h4.at hj2
    refine ⟨_, PSs.nox (pss_one (ps_ret (pe_ix ix_list (pe_fld (pv 0) rfl) (pe_op op_add (pe_fld (pv 0) rfl) pe_int) (fun _ _ => rfl)))), ?_⟩
    refine ⟨_, rfl, d.r, CP K, d.dx, _, _, rfl, h2, cls_PathReader T, na_PathReader_tokens T, pr_tokens, _, rfl, d.r, CP K, d.dx, _, _, rfl, h2, cls_PathReader T, na_PathReader_at T, pr_at, _, _, rfl, rfl, d.L, d.vs, (j : Int) + 1, _, rfl, rfl, SqL.of h3, (by rw [show ((j : Int) + 1) = ((j + 1 : Nat) : Int) by omega]; exact atI_nat hv), ?_⟩
    exact k a ha
def spTa (K : PySem.W.Frag) : Sp := fun vs H Q _ => ∃ (d : Rd0) (t : Tk) (r : List Tk), vs = [.ref d.r] ∧ PR K H d (t :: r) ∧ ∀ H' a, H' a = some (.tup (tkV t.1 t.2.1 t.2.2)) → MvR K H H' d r → Q (.ref a) H'
theorem ok_take (T : Tx w K mg) : Ok P w K mg base CX0 1 (He.fAd K d_PathReader_take.at_) p_PathReader_take (spTa K) := by
  obtain ⟨fd, F⟩ := f_PathReader_take T
  refine ⟨fd, ?_, b_PathReader_take F, F.kp⟩
  refine F.ok sc_PathReader_take (fun vs H Q E h => ?_) (fun cdv A outer s H vs Q E hr h => ?_)
  · obtain ⟨d, t, r, rfl, _⟩ := h
    rfl
  · obtain ⟨d, t, r, rfl, ⟨j, g, hj, h2, h3, h4⟩, k⟩ := h
    obtain ⟨a, hv, ha⟩ := h4.at hj
    have nd := sc_PathReader_take.nd
    refine ⟨_, PSs.nox (pss_cons (ps_set (i := 1) nd rfl (.inl rfl) (pe_ix ix_list (pe_fld (pv 0) rfl) (pe_fld (pv 0) rfl) (fun _ _ => rfl)))
      (pss_cons (ps_fldaug (pv 0) pe_int ip_add) (pss_one (ps_ret (pv 1))))), ?_⟩
    refine ⟨_, rfl, d.r, CP K, d.dx, _, _, rfl, h2, cls_PathReader T, na_PathReader_tokens T, pr_tokens, _, rfl, d.r, CP K, d.dx, _, _, rfl, h2, cls_PathReader T, na_PathReader_at T, pr_at, d.L, d.vs, (j : Int), _, rfl, rfl, SqL.of h3, atI_nat hv, ?_⟩
    refine ⟨_, rfl, d.r, CP K, d.dx, _, _, rfl, h2, cls_PathReader T, na_PathReader_at T, pr_at, _, _, rfl, rfl, d.dx, _, h2, (by show 4 < 1000; decide), ?_⟩
    rw [pr_put (i := j + 1) (by show (j : Int) + 1 = ((j + 1 : Nat) : Int); omega)]
    refine ⟨_, rfl, ?_⟩
    have hne : ∀ b o, H b = some o → (∀ C dx fs, o ≠ .ins C dx fs) → b ≠ d.r := fun b o hb hn e => by
      subst e
      rw [h2] at hb
      cases hb
      exact hn _ _ _ rfl
    refine k _ a ?_ ⟨.up, j + 1, g, ?_, upd_same, ?_, ?_⟩
    · rw [upd_ne (hne _ _ ha (fun _ _ _ => by simp))]
      exact ha
    · rw [← List.drop_drop, hj]
      rfl
    · rw [upd_ne (hne _ _ h3 (fun _ _ _ => by simp))]
      exact h3
    · exact h4.keep fun b xs hb => by
        rw [upd_ne (hne _ _ hb (fun _ _ _ => by simp))]
        exact hb
def hsN (ws : List Str) (t : Tk) : Bool := decide (t.1 = .sgn) && ws.any fun wd => decide (tl wd = t.2.1)
theorem kiS_inj (a b : Ki) : decide (V.str (kiS a) = V.str (kiS b)) = decide (a = b) := by
  rw [dec_str]
  cases a <;> cases b <;> decide +kernel
theorem kiS_lit (a b : Ki) {s : String} (h : Str.ofString s = kiS b := by rfl) : decide (V.str (kiS a) = V.str (Str.ofString s)) = decide (a = b) := by
  rw [h, kiS_inj]
theorem inV_any (x : Str) (ws : List Str) : inV (.str x) (ws.map V.str) = ws.any fun wd => decide (tl wd = tl x) := by
  induction ws with
  | nil => rfl
  | cons a ws ih =>
    show (eqV (.str a) (.str x) || inV (.str x) (ws.map V.str)) = _
    rw [ih, eqV_str]
    rfl
theorem flat_strs (ws : List Str) : (ws.map V.str).all flatV = true := by
  induction ws with
  | nil => rfl
  | cons a ws ih =>
    show (flatV (.str a) && (ws.map V.str).all flatV) = true
    rw [ih]
    rfl
def spHs (K : PySem.W.Frag) : Sp := fun vs H Q _ => ∃ (d : Rd0) (t : Tk) (r : List Tk) (q : Addr) (ws : List Str), vs = [.ref d.r, .ref q] ∧ PR K H d (t :: r) ∧ SqT K H q (ws.map V.str) ∧ Q (.bl (hsN ws t)) H
theorem ok_has_sign (T : Tx w K mg) : Ok P w K mg base CX0 2 (He.fAd K d_PathReader_has_sign.at_) p_PathReader_has_sign (spHs K) := by
  obtain ⟨fd, F⟩ := f_PathReader_has_sign T
  obtain ⟨fP, GP, bP, kP⟩ := ok_peek (P := P) (base := base) T
  refine ⟨fd, ?_, b_PathReader_has_sign F, F.kp⟩
  refine F.ok sc_PathReader_has_sign (fun vs H Q E h => ?_) (fun cdv A outer s H vs Q E hr h => ?_)
  · obtain ⟨d, t, r, q, ws, rfl, _⟩ := h
    rfl
  · obtain ⟨d, t, r, q, ws, rfl, hp, hq, k⟩ := h
    have nd := sc_PathReader_has_sign.nd
    refine ⟨_, PSs.nox (pss_cons (ps_set (i := 2) nd rfl (.inl rfl) (pe_meth0 (E := E0) (pv 0) (cls_PathReader T) (m_PathReader_peek T) GP (hr.mono (by decide)) bP .nil pass0))
      (pss_one (ps_ret (pe_and (pe_cmpR op_eq (pe_ix ix_tup (pv 2) pe_int (fun _ _ => rfl)) pe_str (nomark _)) (pe_one (pe_cmpR op_in_seq (pe_ix ix_tup (pv 2) pe_int (fun _ _ => rfl)) (pv 1) (by rfl))))))), ?_⟩
    have hp' := hp
    obtain ⟨j, g, hj, h2, h3, h4⟩ := hp
    refine ⟨_, rfl, d.r, d.dx, _, rfl, h2, pr_no (by decide +kernel), d, t, r, rfl, hp', fun a ha => ?_⟩
    refine ⟨_, rfl, a, _, 0, _, rfl, rfl, SqT.of ha, atI0 _ _, rfl, _, rfl, ?_⟩
    show if decide (V.str (kiS t.1) = V.str (Str.ofString "sign")) = true then _ else _
    rw [kiS_lit t.1 .sgn]
    unfold hsN at k
    cases hk : decide (t.1 = .sgn) with
    | false =>
      rw [hk] at k
      exact iteF k
    | true =>
      rw [hk, Bool.true_and] at k
      refine iteT ?_
      refine ⟨_, rfl, a, _, 1, _, rfl, rfl, SqT.of ha, atI1 _ _ _, _, rfl, q, _, rfl, .inr hq, rfl, flat_strs ws, ?_⟩
      rw [if_neg Bool.false_ne_true, inV_any]
      exact k
end
end K20
/-! K20Rc -/
namespace K20
open PySem PySem.Spec PyProof.Rows L2 TL
/-! ### what is never run -/
theorem pss_no {X : Cx} {b : List Stmt} : PSs X b (fun _ _ _ => False) := ⟨by intros; contradiction⟩
theorem ps_no {X : Cx} {b : Stmt} : PS X b (fun _ _ _ => False) := ⟨by intros; contradiction⟩
theorem pe_nev {X : Cx} {e : Expr} : PE X e (fun _ _ _ => False) := ⟨by intros; contradiction⟩
theorem pt_nev {X : Cx} {e : Expr} : PT X e (fun _ _ _ => False) := ⟨by intros; contradiction⟩
theorem tks_place : ∀ (f i : Nat) (l : List Nat), ∀ t ∈ tksN f i l, t.2.2 + t.2.1.length ≤ i + l.length
  | 0, _, _, t, h => by cases h
  | f + 1, i, l, t, h => by
    have hb := spN_le isBl l
    have hld : (l.drop (spN isBl l)).length = l.length - spN isBl l := List.length_drop
    have hwl : ((l.drop (spN isBl l)).take (tkN (l.drop (spN isBl l))).2).length ≤ (l.drop (spN isBl l)).length := by
      rw [List.length_take]
      exact Nat.min_le_right _ _
    have h' : t ∈ ((tkN (l.drop (spN isBl l))).1, (l.drop (spN isBl l)).take (tkN (l.drop (spN isBl l))).2, i + spN isBl l) ::
        if (tkN (l.drop (spN isBl l))).1.ends = true then [] else tksN f (i + spN isBl l + ((l.drop (spN isBl l)).take (tkN (l.drop (spN isBl l))).2).length) (l.drop (spN isBl l + ((l.drop (spN isBl l)).take (tkN (l.drop (spN isBl l))).2).length)) := h
    rcases List.mem_cons.mp h' with h1 | h1
    · subst h1
      dsimp only
      omega
    · split at h1
      · cases h1
      · have := tks_place f _ _ t h1
        rw [List.length_drop] at this
        omega
theorem PR.place {K : PySem.W.Frag} {H : Hp} {d : Rd0} {t : Tk} {r : List Tk} (a : PR K H d (t :: r)) : t.2.2 + t.2.1.length ≤ d.z.length ∧ Gd d.z := by
  obtain ⟨j, g, hj, _⟩ := a
  have hm : t ∈ tokL d.z := List.mem_of_mem_drop (i := j) (by rw [hj]; exact List.mem_cons_self)
  have := tks_place _ _ _ t hm
  rw [Nat.zero_add, ← len_tl] at this
  exact ⟨this, g⟩
theorem PR.log {K : PySem.W.Frag} {H : Hp} {d : Rd0} {t : Tk} {r : List Tk} (a : PR K H d (t :: r)) : ((t.2.2 : Int)).natAbs.log2 < 1920 := by
  obtain ⟨h, g⟩ := a.place
  exact g.log (by omega)
theorem PR.rm {K : PySem.W.Frag} {H : Hp} {d : Rd0} {l : List Tk} (a : PR K H d l) : ∃ j, H d.r = some (.ins (CP K) d.dx (prF d.z d.L j)) := by
  obtain ⟨j, _, _, h, _⟩ := a
  exact ⟨j, h⟩
section
variable {P : Program} {w : World} {K : PySem.W.Frag} {mg : Str → Option Value} {base : Heap}
def spEx (K : PySem.W.Frag) : Sp := fun vs H Q E => ∃ (d : Rd0) (t : Tk) (r : List Tk) (s : Str), vs = [.ref d.r, .str s] ∧ PR K H d (t :: r) ∧ (hsN [s] t = true → ∀ H', MvR K H H' d r → Q .non H') ∧ (hsN [s] t = false → ∀ H' e, Fl H H' d.r e t.2.2 → E (.ref (CN K)) (some e) H')
theorem ok_expect (T : Tx w K mg) : Ok P w K mg base (L2.CX P w) 4 (He.fAd K d_PathReader_expect.at_) p_PathReader_expect (spEx K) := by
  obtain ⟨fd, F⟩ := f_PathReader_expect T
  obtain ⟨fP, GP, bP, kP⟩ := ok_peek (P := P) (base := base) T
  obtain ⟨fH, GH, bH, kH⟩ := ok_has_sign (P := P) (base := base) T
  obtain ⟨fT, GT, bT, kT⟩ := ok_take (P := P) (base := base) T
  refine ⟨fd, ?_, b_PathReader_expect F, F.kp⟩
  refine F.ok sc_PathReader_expect (fun vs H Q E h => ?_) (fun cdv A outer s H vs Q E hr h => ?_)
  · obtain ⟨d, t, r, x, rfl, _⟩ := h
    rfl
  · obtain ⟨d, t, r, x, rfl, hp, k1, k0⟩ := h
    refine ⟨_, pss_cons (ps_if (pt_not (pt_val (pe_meth (E := E0) (pv 0) (cls_PathReader T) (m_PathReader_has_sign T) GH (hr.mono (by decide)) bH .nil pass0 (pa_cons (pe_tup (pa_cons (pv 1) pa_nil)) pa_nil))))
        (pss_one (ps_raise rfl (takes_of rfl rfl rfl rfl) (pmk_nd T (hr.mono (by decide)) (pa_cons (pe_ix ix_tup (pe_meth0 (E := E0) (pv 0) (cls_PathReader T) (m_PathReader_peek T) GP (hr.mono (by decide)) bP .nil pass0) pe_int (fun _ _ => rfl)) pa_nil)))) pss_nil)
      (pss_one (ps_expr (pe_meth0 (E := E0) (pv 0) (cls_PathReader T) (m_PathReader_take T) GT (hr.mono (by decide)) bT .nil pass0))), ?_⟩
    obtain ⟨j, h2⟩ := hp.rm
    refine ⟨_, rfl, d.r, d.dx, _, rfl, h2, pr_no (by decide +kernel), _, rfl, (by show 1 ≤ sizeLine; decide), fun q hq => ?_⟩
    have s1 := same_new hq (o := .tup [.str x])
    have hp1 := hp.same s1
    have h21 := s1 _ _ h2
    refine ⟨d, t, r, q, [x], rfl, hp1, SqT.of upd_same, _, rfl, ?_⟩
    cases hk : hsN [x] t with
    | false =>
      refine iteT ?_
      refine ⟨_, rfl, d.r, d.dx, _, rfl, h21, pr_no (by decide +kernel), d, t, r, rfl, hp1, fun a ha => ?_⟩
      refine ⟨a, _, 2, _, rfl, rfl, SqT.of ha, atI_nat rfl, nd_ok hp.log fun e y he => ?_⟩
      exact k0 hk _ e ((MvR.same hp s1).raise hp he)
    | true =>
      refine iteF ?_
      refine ⟨_, rfl, d.r, d.dx, _, rfl, h21, pr_no (by decide +kernel), d, t, r, rfl, hp1, fun H' a ha mv => ?_⟩
      exact k1 hk H' ((MvR.same hp s1).trans mv)
def spEb (K : PySem.W.Frag) : Sp := fun vs H Q _ => ∃ (d : Rd0) (t : Tk) (r : List Tk), vs = [.ref d.r] ∧ PR K H d (t :: r) ∧ t.1 ≠ .nam ∧ t.1 ≠ .brk ∧ Q (.int (t.2.2 : Int)) H
theorem ok_end_behind_operand (T : Tx w K mg) : Ok P w K mg base CX0 2 (He.fAd K d_PathReader_end_behind_operand.at_) p_PathReader_end_behind_operand (spEb K) := by
  obtain ⟨fd, F⟩ := f_PathReader_end_behind_operand T
  obtain ⟨fP, GP, bP, kP⟩ := ok_peek (P := P) (base := base) T
  refine ⟨fd, ?_, b_PathReader_end_behind_operand F, F.kp⟩
  refine F.ok sc_PathReader_end_behind_operand (fun vs H Q E h => ?_) (fun cdv A outer s H vs Q E hr h => ?_)
  · obtain ⟨d, t, r, rfl, _⟩ := h
    rfl
  · obtain ⟨d, t, r, rfl, hp, hn, hb, k⟩ := h
    have nd := sc_PathReader_end_behind_operand.nd
    refine ⟨_, PSs.nox (pss_cons (ps_set (i := 1) nd rfl (.inr rfl) (pe_meth0 (E := E0) (pv 0) (cls_PathReader T) (m_PathReader_peek T) GP (hr.mono (by decide)) bP .nil pass0))
      (pss_cons (ps_if (pt_cmpR op_eq (pe_ix ix_tup (pv 1) pe_int (fun _ _ => rfl)) pe_str (nomark _)) pss_no pss_nil)
      (pss_cons (ps_if (pw_and (pt_cmpR op_eq (pe_ix ix_tup (pv 1) pe_int (fun _ _ => rfl)) pe_str (nomark _)) (pw_and1 pt_nev)).pt pss_no pss_nil)
      (pss_one (ps_ret (pe_ix ix_tup (pv 1) pe_int (fun _ _ => rfl))))))), ?_⟩
    obtain ⟨j, h2⟩ := hp.rm
    refine ⟨_, rfl, d.r, d.dx, _, rfl, h2, pr_no (by decide +kernel), d, t, r, rfl, hp, fun a ha => ?_⟩
    refine ⟨_, rfl, a, _, 0, _, rfl, rfl, SqT.of ha, atI0 _ _, rfl, _, rfl, ?_⟩
    show if decide (V.str (kiS t.1) = V.str (Str.ofString "name")) = true then _ else _
    rw [kiS_lit t.1 .nam, decide_eq_false hn]
    refine iteF ?_
    refine ⟨_, rfl, a, _, 0, _, rfl, rfl, SqT.of ha, atI0 _ _, rfl, _, rfl, ?_⟩
    show if decide (V.str (kiS t.1) = V.str (Str.ofString "broken")) = true then _ else _
    rw [kiS_lit t.1 .brk, decide_eq_false hb]
    refine iteF ?_
    exact ⟨_, rfl, a, _, 2, _, rfl, rfl, SqT.of ha, atI_nat rfl, k⟩
def spXb (K : PySem.W.Frag) : Sp := fun vs H Q E => ∃ (d : Rd0) (t : Tk) (r : List Tk) (s : Str), vs = [.ref d.r, .str s] ∧ PR K H d (t :: r) ∧ (hsN [s] t = true → ∀ H', MvR K H H' d r → Q .non H') ∧ (hsN [s] t = false → t.1 ≠ .nam ∧ t.1 ≠ .brk ∧ ∀ H' e, Fl H H' d.r e t.2.2 → E (.ref (CN K)) (some e) H')
theorem ok_expect_behind_operand (T : Tx w K mg) : Ok P w K mg base (L2.CX P w) 4 (He.fAd K d_PathReader_expect_behind_operand.at_) p_PathReader_expect_behind_operand (spXb K) := by
  obtain ⟨fd, F⟩ := f_PathReader_expect_behind_operand T
  obtain ⟨fP, GP, bP, kP⟩ := ok_end_behind_operand (P := P) (base := base) T
  obtain ⟨fH, GH, bH, kH⟩ := ok_has_sign (P := P) (base := base) T
  obtain ⟨fT, GT, bT, kT⟩ := ok_take (P := P) (base := base) T
  refine ⟨fd, ?_, b_PathReader_expect_behind_operand F, F.kp⟩
  refine F.ok sc_PathReader_expect_behind_operand (fun vs H Q E h => ?_) (fun cdv A outer s H vs Q E hr h => ?_)
  · obtain ⟨d, t, r, x, rfl, _⟩ := h
    rfl
  · obtain ⟨d, t, r, x, rfl, hp, k1, k0⟩ := h
    refine ⟨_, pss_cons (ps_if (pt_not (pt_val (pe_meth (E := E0) (pv 0) (cls_PathReader T) (m_PathReader_has_sign T) GH (hr.mono (by decide)) bH .nil pass0 (pa_cons (pe_tup (pa_cons (pv 1) pa_nil)) pa_nil))))
        (pss_one (ps_raise rfl (takes_of rfl rfl rfl rfl) (pmk_nd T (hr.mono (by decide)) (pa_cons (pe_meth0 (E := E0) (pv 0) (cls_PathReader T) (m_PathReader_end_behind_operand T) GP (hr.mono (by decide)) bP .nil pass0) pa_nil)))) pss_nil)
      (pss_one (ps_expr (pe_meth0 (E := E0) (pv 0) (cls_PathReader T) (m_PathReader_take T) GT (hr.mono (by decide)) bT .nil pass0))), ?_⟩
    obtain ⟨j, h2⟩ := hp.rm
    refine ⟨_, rfl, d.r, d.dx, _, rfl, h2, pr_no (by decide +kernel), _, rfl, (by show 1 ≤ sizeLine; decide), fun q hq => ?_⟩
    have s1 := same_new hq (o := .tup [.str x])
    have hp1 := hp.same s1
    have h21 := s1 _ _ h2
    refine ⟨d, t, r, q, [x], rfl, hp1, SqT.of upd_same, _, rfl, ?_⟩
    cases hk : hsN [x] t with
    | false =>
      obtain ⟨hn, hb, k0⟩ := k0 hk
      refine iteT ?_
      refine ⟨_, rfl, d.r, d.dx, _, rfl, h21, pr_no (by decide +kernel), d, t, r, rfl, hp1, hn, hb, nd_ok hp.log fun e y he => ?_⟩
      exact k0 _ e ((MvR.same hp s1).raise hp he)
    | true =>
      refine iteF ?_
      refine ⟨_, rfl, d.r, d.dx, _, rfl, h21, pr_no (by decide +kernel), d, t, r, rfl, hp1, fun H' a ha mv => ?_⟩
      exact k1 hk H' ((MvR.same hp s1).trans mv)
end
end K20
/-! K20Rd -/
namespace K20
open PySem PySem.Spec PyProof.Rows L2 TL
/-! ### a key that a dict of the head has not -/
theorem kd_find {w : World} {z : Str} : ∀ {l : List DictEntry} {ks : List Str}, l.map He.keyOf = He.keysIn w.params ks → z ∉ ks → l.find? (·.key.isStr z) = none ∧ l.any (·.refKey) = false
  | [], [], _, _ => ⟨rfl, rfl⟩
  | [], _ :: _, h, _ => by cases h
  | _ :: _, [], h, _ => by cases h
  | e :: l, k :: ks, h, hz => by
    have h1 : He.keyOf e = some (k, PyData.keyHash w.params k) := (List.cons.inj h).1
    have h2 : l.map He.keyOf = He.keysIn w.params ks := (List.cons.inj h).2
    obtain ⟨i1, i2⟩ := kd_find h2 (fun hm => hz (List.mem_cons_of_mem _ hm))
    have hk : k ≠ z := fun e => hz (by rw [e]; exact List.mem_cons_self)
    unfold He.keyOf at h1
    cases hkey : e.key with
    | str x t =>
      rw [hkey] at h1
      dsimp only at h1
      have hx : x = k := congrArg Prod.fst (Option.some.inj h1)
      subst hx
      refine ⟨?_, ?_⟩
      · have hf : e.key.isStr z = false := by
          rw [hkey]
          exact decide_eq_false hk
        rw [List.find?_cons, hf]
        exact i1
      · have hf : e.refKey = false := by
          unfold DictEntry.refKey
          rw [hkey]
        rw [List.any_cons, hf, i2]
        rfl
    | _ => rw [hkey] at h1; cases h1
theorem kd_no {K : PySem.W.Frag} {w : World} {a : Addr} {ks : List Str} {z : Str} (h : He.dicW K a = some (He.keysIn w.params ks)) (hz : z ∉ ks) : PySem.W.nsIn K a z = some none := by
  obtain ⟨es, n, D⟩ := He.dicW_ok h
  unfold He.dicW at h
  rw [D.at_] at h
  have h1 : (match decide (("dict" : String) = "dict") && ((#[] : Array (Option Value)).isEmpty && !(a == sysModules)) with
    | true => some (es.toList.map He.keyOf)
    | false => none) = some (He.keysIn w.params ks) := h
  rw [D.low] at h1
  have h2 : es.toList.map He.keyOf = He.keysIn w.params ks := Option.some.inj h1
  obtain ⟨f1, f2⟩ := kd_find h2 hz
  unfold PySem.W.nsIn
  rw [D.at_]
  dsimp only
  rw [f1]
  dsimp only
  rw [f2]
  rfl
end K20
/-! K20Re -/
namespace K20
open PySem PySem.Spec PyProof.Rows L2 TL
def fnLook (wd : List Nat) : Option (Int × Option Int) := (funKvs.find? fun q => decide (tl q.1 = wd)).map (·.2)
def isCallN (t : Tk) : List Tk → Bool
  | [] => false
  | u :: _ => decide (t.1 = .nam) && ((fnLook t.2.1).isSome && (decide (u.1 = .sgn) && decide (u.2.1 = [40])))
theorem fun_keys : funKvs.map (·.1) = funKeys := by decide +kernel
theorem fn_none {wd : List Nat} (h : fnLook wd = none) : mkS wd ∉ funKeys := by
  intro hm
  rw [← fun_keys] at hm
  obtain ⟨q, hq, e⟩ := List.mem_map.mp hm
  unfold fnLook at h
  rw [Option.map_eq_none_iff, List.find?_eq_none] at h
  have := h q hq
  rw [e, tl_mkS, decide_eq_true rfl] at this
  exact this rfl
theorem fn_some {wd : List Nat} {x : Int × Option Int} (h : fnLook wd = some x) : (mkS wd, x) ∈ funKvs := by
  unfold fnLook at h
  cases q : funKvs.find? fun q => decide (tl q.1 = wd) with
  | none => rw [q] at h; cases h
  | some y =>
    rw [q] at h
    have hx : y.2 = x := Option.some.inj h
    have hm := List.mem_of_find?_eq_some q
    have hy := List.find?_some q
    have hy2 : tl y.1 = wd := of_decide_eq_true hy
    have : y = (mkS wd, x) := by
      rw [← hx, ← hy2, mkS_tl]
    rw [← this]
    exact hm
theorem fn_in {w : World} {K : PySem.W.Frag} {mg : Str → Option Value} (T : Tx w K mg) {wd : List Nat} {x : Int × Option Int} (h : fnLook wd = some x) : ∃ u, PySem.W.nsIn K (He.ga K "FUNCTIONS") (mkS wd) = some (some (.ref u)) ∧ tupB K u [.int x.1, optD x.2] = true := by
  obtain ⟨_, _, _, _, _, _, _, hf, _⟩ := mores T
  have h2 := List.all_eq_true.mp hf _ (fn_some h)
  dsimp only at h2
  split at h2
  · rename_i u e
    exact ⟨u, e, h2⟩
  · cases h2
theorem tks_signs : ∀ (f i : Nat) (l : List Nat), ∀ t ∈ tksN f i l, ∀ c ∈ t.2.1, c ∈ l
  | 0, _, _, t, h => by cases h
  | f + 1, i, l, t, h => by
    have h' : t ∈ ((tkN (l.drop (spN isBl l))).1, (l.drop (spN isBl l)).take (tkN (l.drop (spN isBl l))).2, i + spN isBl l) ::
        if (tkN (l.drop (spN isBl l))).1.ends = true then [] else tksN f (i + spN isBl l + ((l.drop (spN isBl l)).take (tkN (l.drop (spN isBl l))).2).length) (l.drop (spN isBl l + ((l.drop (spN isBl l)).take (tkN (l.drop (spN isBl l))).2).length)) := h
    rcases List.mem_cons.mp h' with h1 | h1
    · subst h1
      intro c hc
      exact List.mem_of_mem_drop (List.mem_of_mem_take hc)
    · split at h1
      · cases h1
      · intro c hc
        exact List.mem_of_mem_drop (tks_signs f _ _ t h1 c hc)
theorem PR.strOk {K : PySem.W.Frag} {H : Hp} {d : Rd0} {l : List Tk} (a : PR K H d l) {t : Tk} (ht : t ∈ l) : PyData.strOk (mkS t.2.1) = true := by
  obtain ⟨j, g, hj, _⟩ := a
  have hm : t ∈ tokL d.z := List.mem_of_mem_drop (i := j) (by rw [hj]; exact ht)
  have hs := tks_signs _ _ _ t hm
  unfold PyData.strOk
  rw [Array.all_eq_true']
  intro c hc
  have h2 := g.sg c (hs c (Array.mem_toList_iff.mpr hc))
  unfold isSg at h2
  simp only [Bool.or_eq_true, Bool.and_eq_true, decide_eq_true_eq, beq_iff_eq] at h2
  exact decide_eq_true (by omega)
theorem strOk_ki (k : Ki) : PyData.strOk (kiS k) = true := by cases k <;> decide +kernel
theorem shaped2 {a b : Str} (ha : PyData.strOk a = true) (hb : PyData.strOk b = true) : SeqAt.shaped (.tuple [.str a, .str b]) = true := by
  have h1 : PyData.canLay0 (.tuple [.str a, .str b]) = true := by
    show (PyData.strOk a && (PyData.strOk b && true)) = true
    rw [ha, hb]
    rfl
  unfold SeqAt.shaped
  rw [h1]
  rfl
theorem beq_mk (a b : Str) : (a == b) = decide (tl a = tl b) := by
  have h := dec_str a b
  rw [← h]
  by_cases e : a = b
  · subst e
    rw [decide_eq_true rfl, beq_self_eq_true]
  · rw [decide_eq_false (fun q => e (V.str.inj q))]
    exact beq_eq_false_iff_ne.mpr e
section
variable {P : Program} {w : World} {K : PySem.W.Frag} {mg : Str → Option Value} {base : Heap}
def spIc (K : PySem.W.Frag) : Sp := fun vs H Q _ => ∃ (d : Rd0) (t : Tk) (r : List Tk), vs = [.ref d.r] ∧ PR K H d (t :: r) ∧ (t.1 = .nam → r ≠ []) ∧ ∀ H', Same H H' → Q (.bl (isCallN t r)) H'
theorem ok_is_call (T : Tx w K mg) : Ok P w K mg base CX0 2 (He.fAd K d_PathReader_is_call.at_) p_PathReader_is_call (spIc K) := by
  obtain ⟨fd, F⟩ := f_PathReader_is_call T
  obtain ⟨fP, GP, bP, kP⟩ := ok_peek (P := P) (base := base) T
  obtain ⟨fB, GB, bB, kB⟩ := ok_peek_behind (P := P) (base := base) T
  obtain ⟨es, n, D⟩ := He.dicW_ok T.tabF
  refine ⟨fd, ?_, b_PathReader_is_call F, F.kp⟩
  refine F.ok sc_PathReader_is_call (fun vs H Q E h => ?_) (fun cdv A outer s H vs Q E hr h => ?_)
  · obtain ⟨d, t, r, rfl, _⟩ := h
    rfl
  · obtain ⟨d, t, r, rfl, hp, hne, k⟩ := h
    have nd := sc_PathReader_is_call.nd
    refine ⟨_, PSs.nox (pss_cons (ps_set (i := 1) nd rfl (.inl rfl) (pe_meth0 (E := E0) (pv 0) (cls_PathReader T) (m_PathReader_peek T) GP (hr.mono (by decide)) bP .nil pass0))
      (pss_cons (ps_if (pw_or (pt_cmpR op_ne (pe_ix ix_tup (pv 1) pe_int (fun _ _ => rfl)) pe_str (nomark _))
          (pw_or (pt_cmpR (op_notIn_kd D) (pe_ix ix_tup (pv 1) pe_int (fun _ _ => rfl)) (pe_glob (v := .ref (He.ga K "FUNCTIONS")) (by rfl) (g_FUNCTIONS T) rfl) (by rfl))
            (pw_or1 (pw_and (pt_val (pe_fld (pv 0) rfl)) (pw_and1 pt_nev)).pt))).pt (pss_one (ps_ret pe_bl)) pss_nil)
      (pss_one (ps_ret (pe_cmpR (op_eqD hr.units) (pe_slice sl_tup (pe_meth0 (E := E0) (pv 0) (cls_PathReader T) (m_PathReader_peek_behind T) GB (hr.mono (by decide)) bB .nil pass0) po_none (po_some pe_int)) (pe_tup (pa_cons pe_str (pa_cons pe_str pa_nil))) (nomark _)))))), ?_⟩
    obtain ⟨j, h2⟩ := hp.rm
    refine ⟨_, rfl, d.r, d.dx, _, rfl, h2, pr_no (by decide +kernel), d, t, r, rfl, hp, fun a ha => ?_⟩
    refine ⟨_, rfl, a, _, 0, _, rfl, rfl, SqT.of ha, atI0 _ _, rfl, _, rfl, ?_⟩
    show if (!decide (V.str (kiS t.1) = V.str (Str.ofString "name"))) = true then _ else _
    rw [kiS_lit t.1 .nam]
    cases r with
    | nil =>
      have hn : decide (t.1 = .nam) = false := decide_eq_false fun e => hne e rfl
      rw [hn]
      exact iteT (iteT (k _ (Same.refl _)))
    | cons u r =>
      have hk : isCallN t (u :: r) = (decide (t.1 = .nam) && ((fnLook t.2.1).isSome && (decide (u.1 = .sgn) && decide (u.2.1 = [40])))) := rfl
      rw [hk] at k
      cases hn : decide (t.1 = .nam) with
      | false =>
        rw [hn] at k
        exact iteT (iteT (k _ (Same.refl _)))
      | true =>
        rw [hn, Bool.true_and] at k
        refine iteF ?_
        cases hf : fnLook t.2.1 with
        | none =>
          rw [hf] at k
          refine ⟨_, rfl, a, _, 1, _, rfl, rfl, SqT.of ha, atI1 _ _ _, (mkS t.2.1), none, rfl, rfl, kd_no T.tabF (fn_none hf), _, rfl, ?_⟩
          exact iteT (iteT (k _ (Same.refl _)))
        | some x =>
          rw [hf] at k
          obtain ⟨uu, e1, _⟩ := fn_in T hf
          refine ⟨_, rfl, a, _, 1, _, rfl, rfl, SqT.of ha, atI1 _ _ _, (mkS t.2.1), some (.ref uu), rfl, rfl, e1, _, rfl, ?_⟩
          refine iteF ?_
          refine ⟨_, rfl, d.r, CP K, d.dx, _, _, rfl, h2, cls_PathReader T, na_PathReader_closed T, pr_closed, _, rfl, ?_⟩
          refine iteF (iteF ?_)
          refine ⟨_, rfl, d.r, d.dx, _, rfl, h2, pr_no (by decide +kernel), d, t, u, r, rfl, hp, fun b hb => ?_⟩
          have hcut : cutV (tkV u.1 u.2.1 u.2.2) none (some 2) = [V.str (kiS u.1), V.str (mkS u.2.1)] := rfl
          refine ⟨_, rfl, b, _, rfl, SqT.of hb, (fun h => absurd h.2 (by show ¬ (2 = 3); decide)), fun p hpn => ?_⟩
          rw [hcut]
          have s1 := same_new hpn (o := .tup [V.str (kiS u.1), V.str (mkS u.2.1)])
          have h1 : upd H p (.tup [V.str (kiS u.1), V.str (mkS u.2.1)]) p = some (.tup [V.str (kiS u.1), V.str (mkS u.2.1)]) := upd_same
          generalize upd H p (.tup [V.str (kiS u.1), V.str (mkS u.2.1)]) = H1 at s1 h1 ⊢
          refine ⟨by decide, fun q hq => ?_⟩
          have s2 := same_new hq (o := .tup [V.str (Str.ofString "sign"), V.str (Str.ofString "(")])
          refine ⟨_, _, .tup (SqT.of (s2 _ _ h1)) (.cons (.str _) (.cons (.str _) .nil)), .tup (SqT.of upd_same) (.cons (.str _) (.cons (.str _) .nil)), ?_, ?_, ?_⟩
          · exact shaped2 (strOk_ki _) (hp.strOk (t := u) (by simp))
          · exact shaped2 (by decide +kernel) (by decide +kernel)
          · have e : PyData.eqv (.tuple [.str (kiS u.1), .str (mkS u.2.1)]) (.tuple [.str (Str.ofString "sign"), .str (Str.ofString "(")]) = (decide (u.1 = .sgn) && decide (u.2.1 = [40])) := by
              show ((kiS u.1 == Str.ofString "sign") && ((mkS u.2.1 == Str.ofString "(") && true)) = _
              rw [Bool.and_true, beq_mk, beq_mk, tl_mkS, lit (s := "(") (l := [40]), tl_mkS]
              have e1 : decide (tl (kiS u.1) = tl (Str.ofString "sign")) = decide (u.1 = .sgn) := by
                have h3 := kiS_lit u.1 .sgn (s := "sign")
                rw [dec_str] at h3
                exact h3
              rw [e1]
            rw [e]
            exact k _ (s1.trans s2)
end
end K20
/-! K20Rf -/
namespace K20
open PySem PySem.Spec PyProof.Rows L2 TL
def isOpN (t : Tk) : Bool := (decide (t.1 = .sgn) && opSignsL.any fun wd => decide (tl wd = t.2.1)) || (decide (t.1 = .nam) && opWordsL.any fun wd => decide (tl wd = t.2.1))
section
variable {P : Program} {w : World} {K : PySem.W.Frag} {mg : Str → Option Value} {base : Heap}
def spRo (K : PySem.W.Frag) : Sp := fun vs H Q _ => ∃ (d : Rd0) (t : Tk) (r : List Tk), vs = [.ref d.r] ∧ PR K H d (t :: r) ∧ isOpN t = false ∧ Q .non H
theorem ok_read_operator (T : Tx w K mg) : Ok P w K mg base CX0 2 (He.fAd K d_PathReader_read_operator.at_) p_PathReader_read_operator (spRo K) := by
  obtain ⟨fd, F⟩ := f_PathReader_read_operator T
  obtain ⟨fP, GP, bP, kP⟩ := ok_peek (P := P) (base := base) T
  obtain ⟨_, _, _, _, _, _, _, _, _, hW, hS, _⟩ := mores T
  refine ⟨fd, ?_, b_PathReader_read_operator F, F.kp⟩
  refine F.ok sc_PathReader_read_operator (fun vs H Q E h => ?_) (fun cdv A outer s H vs Q E hr h => ?_)
  · obtain ⟨d, t, r, rfl, _⟩ := h
    rfl
  · obtain ⟨d, t, r, rfl, hp, hop, k⟩ := h
    have nd := sc_PathReader_read_operator.nd
    refine ⟨_, PSs.nox (pss_cons (ps_set (i := 1) nd rfl (.inl rfl) (pe_meth0 (E := E0) (pv 0) (cls_PathReader T) (m_PathReader_peek T) GP (hr.mono (by decide)) bP .nil pass0))
      (pss_cons (ps_if (pw_or (pw_and (pt_cmpR op_eq (pe_ix ix_tup (pv 1) pe_int (fun _ _ => rfl)) pe_str (nomark _)) (pw_and1 (pt_cmpR op_in_seq (pe_ix ix_tup (pv 1) pe_int (fun _ _ => rfl)) (pe_glob (v := .ref (He.ga K "OPERATOR_SIGNS")) (by rfl) (g_OPERATOR_SIGNS T) rfl) (by rfl)))).pt
          (pw_or1 (pw_and (pt_cmpR op_eq (pe_ix ix_tup (pv 1) pe_int (fun _ _ => rfl)) pe_str (nomark _)) (pw_and1 (pt_cmpR op_in_seq (pe_ix ix_tup (pv 1) pe_int (fun _ _ => rfl)) (pe_glob (v := .ref (He.ga K "OPERATOR_WORDS")) (by rfl) (g_OPERATOR_WORDS T) rfl) (by rfl)))).pt)).pt
        pss_no pss_nil)
      (pss_one (ps_ret pe_non)))), ?_⟩
    obtain ⟨j, h2⟩ := hp.rm
    have hS2 := strs_of hS (by decide +kernel)
    have hW2 := strs_of hW (by decide +kernel)
    unfold isOpN at hop
    rw [Bool.or_eq_false_iff] at hop
    obtain ⟨o1, o2⟩ := hop
    refine ⟨_, rfl, d.r, d.dx, _, rfl, h2, pr_no (by decide +kernel), d, t, r, rfl, hp, fun a ha => ?_⟩
    have word : ∀ (R : Prop), R → (fun b => if b = true then False else R) false := fun R h => by
      show if false = true then False else R
      exact iteF h
    refine ⟨_, rfl, a, _, 0, _, rfl, rfl, SqT.of ha, atI0 _ _, rfl, _, rfl, ?_⟩
    show if decide (V.str (kiS t.1) = V.str (Str.ofString "sign")) = true then _ else _
    rw [kiS_lit t.1 .sgn]
    have second : ∃ x, [some (V.ref d.r), some (V.ref a)][1]? = some (some x) ∧ x = .ref a := ⟨_, rfl, rfl⟩
    cases e1 : decide (t.1 = .sgn) with
    | true =>
      have hn : decide (t.1 = .nam) = false := by
        rw [of_decide_eq_true e1]
        rfl
      rw [e1, Bool.true_and] at o1
      refine iteT ?_
      refine ⟨_, rfl, a, _, 1, _, rfl, rfl, SqT.of ha, atI1 _ _ _, _, _, rfl, .inr (hS2 _), rfl, flat_strs _, ?_⟩
      rw [if_neg Bool.false_ne_true, inV_any, tl_mkS, o1]
      refine ⟨_, rfl, iteF ?_⟩
      refine ⟨_, rfl, a, _, 0, _, rfl, rfl, SqT.of ha, atI0 _ _, rfl, _, rfl, ?_⟩
      show if decide (V.str (kiS t.1) = V.str (Str.ofString "name")) = true then _ else _
      rw [kiS_lit t.1 .nam, hn]
      exact iteF (iteF k)
    | false =>
      refine iteF (iteF ?_)
      refine ⟨_, rfl, a, _, 0, _, rfl, rfl, SqT.of ha, atI0 _ _, rfl, _, rfl, ?_⟩
      show if decide (V.str (kiS t.1) = V.str (Str.ofString "name")) = true then _ else _
      rw [kiS_lit t.1 .nam]
      cases e2 : decide (t.1 = .nam) with
      | false => exact iteF (iteF k)
      | true =>
        rw [e2, Bool.true_and] at o2
        refine iteT ?_
        refine ⟨_, rfl, a, _, 1, _, rfl, rfl, SqT.of ha, atI1 _ _ _, _, _, rfl, .inr (hW2 _), rfl, flat_strs _, ?_⟩
        rw [if_neg Bool.false_ne_true, inV_any, tl_mkS, o2]
        exact ⟨_, rfl, iteF k⟩
end
end K20
/-! K20Rg -/
namespace K20
open PySem PySem.Spec PyProof.Rows L2 TL
def stepS : List Str := [".", "..", "@", "*"]
section
variable {P : Program} {w : World} {K : PySem.W.Frag} {mg : Str → Option Value} {base : Heap}
def spBs (K : PySem.W.Frag) : Sp := fun vs H Q _ => ∃ (d : Rd0) (t : Tk) (r : List Tk), vs = [.ref d.r] ∧ PR K H d (t :: r) ∧ t.1 ≠ .num ∧ ∀ H', Same H H' → Q (.bl (decide (t.1 = .nam) || hsN stepS t)) H'
theorem ok_begins_step (T : Tx w K mg) : Ok P w K mg base CX0 3 (He.fAd K d_PathReader_begins_step.at_) p_PathReader_begins_step (spBs K) := by
  obtain ⟨fd, F⟩ := f_PathReader_begins_step T
  obtain ⟨fP, GP, bP, kP⟩ := ok_peek (P := P) (base := base) T
  obtain ⟨fH, GH, bH, kH⟩ := ok_has_sign (P := P) (base := base) T
  refine ⟨fd, ?_, b_PathReader_begins_step F, F.kp⟩
  refine F.ok sc_PathReader_begins_step (fun vs H Q E h => ?_) (fun cdv A outer s H vs Q E hr h => ?_)
  · obtain ⟨d, t, r, rfl, _⟩ := h
    rfl
  · obtain ⟨d, t, r, rfl, hp, hn, k⟩ := h
    have nd := sc_PathReader_begins_step.nd
    refine ⟨_, PSs.nox (pss_cons (ps_set (i := 1) nd rfl (.inl rfl) (pe_meth0 (E := E0) (pv 0) (cls_PathReader T) (m_PathReader_peek T) GP (hr.mono (by decide)) bP .nil pass0))
      (pss_cons (ps_if (pt_cmpR op_eq (pe_ix ix_tup (pv 1) pe_int (fun _ _ => rfl)) pe_str (nomark _)) pss_no pss_nil)
      (pss_one (ps_ret (pe_or (pe_cmpR op_eq (pe_ix ix_tup (pv 1) pe_int (fun _ _ => rfl)) pe_str (nomark _)) (pe_one (pe_meth (E := E0) (pv 0) (cls_PathReader T) (m_PathReader_has_sign T) GH (hr.mono (by decide)) bH .nil pass0 (pa_cons (pe_tup (pa_cons pe_str (pa_cons pe_str (pa_cons pe_str (pa_cons pe_str pa_nil))))) pa_nil)))))))), ?_⟩
    obtain ⟨j, h2⟩ := hp.rm
    refine ⟨_, rfl, d.r, d.dx, _, rfl, h2, pr_no (by decide +kernel), d, t, r, rfl, hp, fun a ha => ?_⟩
    refine ⟨_, rfl, a, _, 0, _, rfl, rfl, SqT.of ha, atI0 _ _, rfl, _, rfl, ?_⟩
    show if decide (V.str (kiS t.1) = V.str (Str.ofString "number")) = true then _ else _
    rw [kiS_lit t.1 .num, decide_eq_false hn]
    refine iteF ?_
    refine ⟨_, rfl, a, _, 0, _, rfl, rfl, SqT.of ha, atI0 _ _, rfl, _, rfl, ?_⟩
    show if decide (V.str (kiS t.1) = V.str (Str.ofString "name")) = true then _ else _
    rw [kiS_lit t.1 .nam]
    cases e : decide (t.1 = .nam) with
    | true =>
      rw [e] at k
      exact iteT (k _ (Same.refl _))
    | false =>
      rw [e, Bool.false_or] at k
      refine iteF ?_
      refine ⟨_, rfl, d.r, d.dx, _, rfl, h2, pr_no (by decide +kernel), by decide, fun q hq => ?_⟩
      have s1 := same_new hq (o := .tup (stepS.map V.str))
      exact ⟨d, t, r, q, stepS, rfl, hp.same s1, SqT.of upd_same, k _ s1⟩
def spCc (K : PySem.W.Frag) : Sp := fun vs H Q _ => ∃ (d : Rd0) (l : List Tk) (a : Addr) (t : Tk), vs = [.ref d.r, .ref a] ∧ PR K H d l ∧ H a = some (.tup (tkV t.1 t.2.1 t.2.2)) ∧ t.2.1.length ≤ 400000 ∧ hP (· == 58) ((tl d.z).drop (t.2.2 + t.2.1.length)) = false ∧ Q .non H
theorem ok_check_colon (T : Tx w K mg) : Ok P w K mg base CX0 1 (He.fAd K d_PathReader_check_colon.at_) p_PathReader_check_colon (spCc K) := by
  obtain ⟨fd, F⟩ := f_PathReader_check_colon T
  refine ⟨fd, ?_, b_PathReader_check_colon F, F.kp⟩
  refine F.ok sc_PathReader_check_colon (fun vs H Q E h => ?_) (fun cdv A outer s H vs Q E hr h => ?_)
  · obtain ⟨d, l, a, t, rfl, _⟩ := h
    rfl
  · obtain ⟨d, l, a, t, rfl, hp, ha, htl, hc, k⟩ := h
    have nd := sc_PathReader_check_colon.nd
    refine ⟨_, PSs.nox (pss_cons (ps_set (i := 2) nd rfl (.inl rfl) (pe_op op_add (pe_ix ix_tup (pv 1) pe_int (fun _ _ => rfl)) (pe_callB call_len (by rfl) (n_len T) PySem.boot_len (pa_cons (pe_ix ix_tup (pv 1) pe_int (fun _ _ => rfl)) pa_nil))))
      (pss_one (ps_if (pw_and (pt_cmpR op_eq (pe_slice sl_str (pe_fld (pv 0) rfl) (po_some (pv 2)) (po_some (pe_op op_add (pv 2) pe_int))) pe_str (nomark _)) (pw_and1 pt_nev)).pt pss_no pss_nil))), ?_⟩
    obtain ⟨j, g, hj, h2, h3, h4⟩ := hp
    refine ⟨_, rfl, a, _, 2, _, rfl, rfl, SqT.of ha, atI_nat rfl, _, rfl, a, _, 1, _, rfl, rfl, SqT.of ha, atI1 _ _ _, _, _, rfl, ⟨by rw [mkS_len, sizeLine_eq]; omega, rfl⟩, _, _, rfl, rfl, ?_⟩
    have e2 : ((t.2.2 : Int) + (((mkS t.2.1).length : Nat) : Int)) = ((t.2.2 + t.2.1.length : Nat) : Int) := by
      rw [mkS_len]
      omega
    refine ⟨_, rfl, d.r, CP K, d.dx, _, _, rfl, h2, cls_PathReader T, na_PathReader_text T, pr_text, _, rfl, _, rfl, _, rfl, _, _, rfl, rfl, _, rfl, d.z, rfl, g.line, rfl, _, rfl, ?_⟩
    show if decide (V.str (cutS d.z (some ((t.2.2 : Int) + (((mkS t.2.1).length : Nat) : Int))) (some ((t.2.2 : Int) + (((mkS t.2.1).length : Nat) : Int) + 1))) = V.str (Str.ofString ":")) = true then _ else _
    rw [e2, cut_one, sg_lit _ (c := 58), hc]
    exact iteF (iteF k)
/-- text_of_literal, of a text -/
def spTl (K : PySem.W.Frag) : Sp := fun vs H Q _ => ∃ (x : V) (a : Addr) (t : Tk), vs = [x, .ref a] ∧ H a = some (.tup (tkV t.1 t.2.1 t.2.2)) ∧ t.1 = .txt ∧ t.2.1.length ≤ 400000 ∧ ∀ y : Str, Q (.str y) H
theorem ok_text_of_literal (T : Tx w K mg) : Ok P w K mg base CX0 1 (He.fAd K d_PathReader_text_of_literal.at_) p_PathReader_text_of_literal (spTl K) := by
  obtain ⟨fd, F⟩ := f_PathReader_text_of_literal T
  refine ⟨fd, ?_, b_PathReader_text_of_literal F, F.kp⟩
  refine F.ok sc_PathReader_text_of_literal (fun vs H Q E h => ?_) (fun cdv A outer s H vs Q E hr h => ?_)
  · obtain ⟨x, a, t, rfl, _⟩ := h
    rfl
  · obtain ⟨x, a, t, rfl, ha, ht, htl, k⟩ := h
    refine ⟨_, PSs.nox (pss_cons (ps_if (pt_cmpR op_eq (pe_ix ix_tup (pv 1) pe_int (fun _ _ => rfl)) pe_str (nomark _)) pss_no pss_nil)
      (pss_cons (ps_if (pt_cmpR op_ne (pe_ix ix_tup (pv 1) pe_int (fun _ _ => rfl)) pe_str (nomark _)) pss_no pss_nil)
      (pss_one (ps_ret (pe_slice sl_str (pe_ix ix_tup (pv 1) pe_int (fun _ _ => rfl)) (po_some pe_int) (po_some (pe_un un_neg pe_int))))))), ?_⟩
    refine ⟨_, rfl, a, _, 0, _, rfl, rfl, SqT.of ha, atI0 _ _, rfl, _, rfl, ?_⟩
    show if decide (V.str (kiS t.1) = V.str (Str.ofString "open")) = true then _ else _
    rw [kiS_lit t.1 .opn, ht]
    refine iteF ?_
    refine ⟨_, rfl, a, _, 0, _, rfl, rfl, SqT.of ha, atI0 _ _, rfl, _, rfl, ?_⟩
    show if (!decide (V.str (kiS t.1) = V.str (Str.ofString "text"))) = true then _ else _
    rw [kiS_lit t.1 .txt, ht]
    refine iteF ?_
    exact ⟨_, rfl, a, _, 1, _, rfl, rfl, SqT.of ha, atI1 _ _ _, _, rfl, _, rfl, _, rfl, mkS t.2.1, rfl, by rw [mkS_len, sizeLine_eq]; omega, k _⟩
end
end K20
/-! K20Rh -/
namespace K20
open PySem PySem.Spec PyProof.Rows L2 TL
section
variable {P : Program} {w : World} {K : PySem.W.Frag} {mg : Str → Option Value} {base : Heap}
def spSn : Sp := fun vs H Q _ => ∃ x : Str, vs = [.str x] ∧ (x = mkS [49] ∨ x = mkS [50]) ∧ ∀ H' y, Same H H' → Q (.str y) H'
theorem ok_shortest_number (T : Tx w K mg) : Ok P w K mg base CX0 1 (He.fAd K d_shortest_number.at_) p_shortest_number spSn := by
  obtain ⟨fd, F⟩ := f_shortest_number T
  refine ⟨fd, ?_, b_shortest_number F, F.kp⟩
  refine F.ok sc_shortest_number (fun vs H Q E h => ?_) (fun cdv A outer s H vs Q E hr h => ?_)
  · obtain ⟨x, rfl, _⟩ := h
    rfl
  · obtain ⟨x, rfl, hx, k⟩ := h
    have nd := sc_shortest_number.nd
    refine ⟨_, PSs.nox (pss_cons (ps_asg (pe_m1 PySem.F.slot_str_partition PySem.F.type_str_partition mt_partition (pv 0) pe_str) (pg_tup (by rfl) (pgs_cons (pg_name (i := 1) nd rfl (.inl rfl)) (pgs_cons (pg_name (i := 2) nd rfl (.inl rfl)) (pgs_cons (pg_name (i := 3) nd rfl (.inl rfl)) pgs_nil)))))
      (pss_cons (ps_set (i := 1) nd rfl (.inl rfl) (pe_m1 PySem.F.slot_str_lstrip PySem.F.type_str_lstrip mt_lstripChars (pv 1) pe_str))
      (pss_cons (ps_set (i := 3) nd rfl (.inl rfl) (pe_m1 PySem.F.slot_str_rstrip PySem.F.type_str_rstrip mt_rstripChars (pv 3) pe_str))
      (pss_one (ps_ret (pe_op op_add_str (pe_ifExp (pt_cmpR op_ne (pv 1) pe_str (nomark _)) (pv 1) pe_str) (pe_ifExp (pt_cmpR op_ne (pv 3) pe_str (nomark _)) (pe_op op_add_str pe_str (pv 3)) pe_str))))))), ?_⟩
    have facts : Txt.partition x (Str.ofString ".") = (x, Str.empty, Str.empty) ∧ x.length ≤ 10 ∧ Txt.lstripChars x (Str.ofString "0") = x ∧ decide (V.str x = V.str (Str.ofString "")) = false := by
      rcases hx with rfl | rfl <;> exact ⟨by decide +kernel, by decide +kernel, by decide +kernel, by decide +kernel⟩
    obtain ⟨f1, f2, f3, f4⟩ := facts
    have f5 : Txt.rstripChars Str.empty (Str.ofString "0") = Str.empty := by decide +kernel
    refine ⟨_, rfl, ⟨_, rfl⟩, x, Str.ofString ".", rfl, rfl, by decide +kernel, by rw [sizeLine_eq]; omega, fun p hp => ?_⟩
    rw [f1]
    have s1 := same_new hp (o := .tup [V.str x, V.str Str.empty, V.str Str.empty])
    refine ⟨p, _, rfl, SqT.of upd_same, rfl, _, _, rfl, _, _, rfl, _, _, rfl, rfl, ?_⟩
    refine ⟨_, rfl, ⟨_, rfl⟩, x, _, rfl, rfl, by rw [sizeLine_eq]; omega, ?_⟩
    rw [f3]
    refine ⟨_, rfl, ⟨_, rfl⟩, Str.empty, _, rfl, rfl, by decide, ?_⟩
    rw [f5]
    refine ⟨_, rfl, rfl, _, rfl, ?_⟩
    show if (!decide (V.str x = V.str (Str.ofString ""))) = true then _ else _
    rw [f4]
    refine iteT ?_
    refine ⟨_, rfl, _, rfl, rfl, _, rfl, ?_⟩
    show if (!decide (V.str Str.empty = V.str (Str.ofString ""))) = true then _ else _
    rw [show decide (V.str Str.empty = V.str (Str.ofString "")) = true by decide +kernel]
    refine iteF ?_
    have h0 : (Str.ofString "").length = 0 := by decide +kernel
    exact ⟨x, Str.ofString "", rfl, rfl, (by rw [sizeLine_eq, h0]; omega), k _ _ s1⟩
/-- read_literal: a number of one digit, or a text -/
def litOk (t : Tk) : Prop := (t.1 = .num ∧ (t.2.1 = [49] ∨ t.2.1 = [50])) ∨ t.1 = .txt
def spVal (K : PySem.W.Frag) (d : Rd0) (r : List Tk) (H : Hp) (Q : VK) : Prop := ∀ H' y, MvR K H H' d r → Q y H'
def spLi (K : PySem.W.Frag) : Sp := fun vs H Q _ => ∃ (d : Rd0) (t : Tk) (r : List Tk), vs = [.ref d.r] ∧ PR K H d (t :: r) ∧ litOk t ∧ spVal K d r H Q
theorem ok_read_literal (T : Tx w K mg) : Ok P w K mg base CX0 2 (He.fAd K d_PathReader_read_literal.at_) p_PathReader_read_literal (spLi K) := by
  obtain ⟨fd, F⟩ := f_PathReader_read_literal T
  obtain ⟨fT, GT, bT, kT⟩ := ok_take (P := P) (base := base) T
  obtain ⟨fS, GS, bS, kS⟩ := ok_shortest_number (P := P) (base := base) T
  obtain ⟨fX, GX, bX, kX⟩ := ok_text_of_literal (P := P) (base := base) T
  refine ⟨fd, ?_, b_PathReader_read_literal F, F.kp⟩
  refine F.ok sc_PathReader_read_literal (fun vs H Q E h => ?_) (fun cdv A outer s H vs Q E hr h => ?_)
  · obtain ⟨d, t, r, rfl, _⟩ := h
    rfl
  · obtain ⟨d, t, r, rfl, hp, hl, k⟩ := h
    have nd := sc_PathReader_read_literal.nd
    refine ⟨_, PSs.nox (pss_cons (ps_set (i := 1) nd rfl (.inl rfl) (pe_meth0 (E := E0) (pv 0) (cls_PathReader T) (m_PathReader_take T) GT (hr.mono (by decide)) bT .nil pass0))
      (pss_cons (ps_if (pt_cmpR op_eq (pe_ix ix_tup (pv 1) pe_int (fun _ _ => rfl)) pe_str (nomark _))
        (pss_one (ps_ret (pe_tup (pa_cons pe_str (pa_cons (pe_call (E := E0) GS (hr.mono (by decide)) (by rfl) (g_shortest_number T) kS bS .nil pass0 (pa_cons (pe_ix ix_tup (pv 1) pe_int (fun _ _ => rfl)) pa_nil)) pa_nil))))) pss_nil)
      (pss_one (ps_ret (pe_tup (pa_cons pe_str (pa_cons (pe_meth (E := E0) (pv 0) (cls_PathReader T) (m_PathReader_text_of_literal T) GX (hr.mono (by decide)) bX .nil pass0 (pa_cons (pv 1) pa_nil)) pa_nil))))))), ?_⟩
    obtain ⟨j, h2⟩ := hp.rm
    obtain ⟨hpl, g⟩ := hp.place
    have htl : t.2.1.length ≤ 400000 := by have := g.len; omega
    refine ⟨_, rfl, d.r, d.dx, _, rfl, h2, pr_no (by decide +kernel), d, t, r, rfl, hp, fun H1 a ha mv => ?_⟩
    obtain ⟨j1, h21⟩ := mv.2.rm
    refine ⟨_, rfl, a, _, 0, _, rfl, rfl, SqT.of ha, atI0 _ _, rfl, _, rfl, ?_⟩
    show if decide (V.str (kiS t.1) = V.str (Str.ofString "number")) = true then _ else _
    rw [kiS_lit t.1 .num]
    rcases hl with ⟨e, hw⟩ | e
    · rw [decide_eq_true e]
      refine iteT ?_
      refine ⟨_, rfl, a, _, 1, _, rfl, rfl, SqT.of ha, atI1 _ _ _, mkS t.2.1, rfl, ?_, fun H2 y s2 => ⟨(by show 2 ≤ sizeLine; decide), fun p hpn => k _ _ ((mv.more s2).more (same_new hpn))⟩⟩
      rcases hw with h | h
      · exact .inl (by rw [h])
      · exact .inr (by rw [h])
    · rw [e]
      refine iteF ?_
      exact ⟨_, rfl, d.r, d.dx, _, rfl, h21, pr_no (by decide +kernel), _, rfl, _, a, t, rfl, ha, e, htl, fun y => ⟨(by show 2 ≤ sizeLine; decide), fun p hpn => k _ _ (mv.more (same_new hpn))⟩⟩
end
end K20
/-! K20Ri -/
namespace K20
open PySem PySem.Spec PyProof.Rows L2 TL
def noCol (z : Str) (t : Tk) : Prop := hP (· == 58) ((tl z).drop (t.2.2 + t.2.1.length)) = false
section
variable {P : Program} {w : World} {K : PySem.W.Frag} {mg : Str → Option Value} {base : Heap}
def spVa (K : PySem.W.Frag) : Sp := fun vs H Q _ => ∃ (d : Rd0) (t u : Tk) (r : List Tk), vs = [.ref d.r] ∧ PR K H d (t :: u :: r) ∧ u.1 = .nam ∧ u.2.2 = t.2.2 + 1 ∧ noCol d.z u ∧ spVal K d r H Q
theorem ok_read_variable (T : Tx w K mg) : Ok P w K mg base CX0 2 (He.fAd K d_PathReader_read_variable.at_) p_PathReader_read_variable (spVa K) := by
  obtain ⟨fd, F⟩ := f_PathReader_read_variable T
  obtain ⟨fT, GT, bT, kT⟩ := ok_take (P := P) (base := base) T
  obtain ⟨fP, GP, bP, kP⟩ := ok_peek (P := P) (base := base) T
  obtain ⟨fC, GC, bC, kC⟩ := ok_check_colon (P := P) (base := base) T
  refine ⟨fd, ?_, b_PathReader_read_variable F, F.kp⟩
  refine F.ok sc_PathReader_read_variable (fun vs H Q E h => ?_) (fun cdv A outer s H vs Q E hr h => ?_)
  · obtain ⟨d, t, u, r, rfl, _⟩ := h
    rfl
  · obtain ⟨d, t, u, r, rfl, hp, hu, hpl, hc, k⟩ := h
    have nd := sc_PathReader_read_variable.nd
    refine ⟨_, PSs.nox (pss_cons (ps_set (i := 1) nd rfl (.inl rfl) (pe_ix ix_tup (pe_meth0 (E := E0) (pv 0) (cls_PathReader T) (m_PathReader_take T) GT (hr.mono (by decide)) bT .nil pass0) pe_int (fun _ _ => rfl)))
      (pss_cons (ps_set (i := 2) nd rfl (.inl rfl) (pe_meth0 (E := E0) (pv 0) (cls_PathReader T) (m_PathReader_peek T) GP (hr.mono (by decide)) bP .nil pass0))
      (pss_cons (ps_if (pw_or (pt_cmpR op_ne (pe_ix ix_tup (pv 2) pe_int (fun _ _ => rfl)) pe_str (nomark _)) (pw_or1 (pt_cmpR op_ne (pe_ix ix_tup (pv 2) pe_int (fun _ _ => rfl)) (pe_op op_add (pv 1) pe_int) (nomark _)))).pt pss_no pss_nil)
      (pss_cons (ps_expr (pe_meth0 (E := E0) (pv 0) (cls_PathReader T) (m_PathReader_take T) GT (hr.mono (by decide)) bT .nil pass0))
      (pss_cons (ps_expr (pe_meth (E := E0) (pv 0) (cls_PathReader T) (m_PathReader_check_colon T) GC (hr.mono (by decide)) bC .nil pass0 (pa_cons (pv 2) pa_nil)))
      (pss_one (ps_ret (pe_tup (pa_cons pe_str (pa_cons (pe_ix ix_tup (pv 2) pe_int (fun _ _ => rfl)) pa_nil)))))))))), ?_⟩
    obtain ⟨j, h2⟩ := hp.rm
    refine ⟨_, rfl, d.r, d.dx, _, rfl, h2, pr_no (by decide +kernel), d, t, u :: r, rfl, hp, fun H1 a ha mv => ⟨a, _, 2, _, rfl, rfl, SqT.of ha, atI_nat rfl, ?_⟩⟩
    obtain ⟨j1, h21⟩ := mv.2.rm
    obtain ⟨hul, g⟩ := mv.2.place
    refine ⟨_, rfl, d.r, d.dx, _, rfl, h21, pr_no (by decide +kernel), d, u, r, rfl, mv.2, fun b hb => ?_⟩
    refine ⟨_, rfl, b, _, 0, _, rfl, rfl, SqT.of hb, atI0 _ _, rfl, _, rfl, ?_⟩
    show if (!decide (V.str (kiS u.1) = V.str (Str.ofString "name"))) = true then _ else _
    rw [kiS_lit u.1 .nam, decide_eq_true hu]
    refine iteF ?_
    refine ⟨_, rfl, b, _, 2, _, rfl, rfl, SqT.of hb, atI_nat rfl, _, rfl, _, _, rfl, rfl, rfl, _, rfl, ?_⟩
    show if (!decide (V.int (u.2.2 : Int) = V.int ((t.2.2 : Int) + 1))) = true then _ else _
    rw [hpl, show ((t.2.2 + 1 : Nat) : Int) = (t.2.2 : Int) + 1 by omega, decide_eq_true rfl]
    refine iteF ?_
    refine ⟨_, rfl, d.r, d.dx, _, rfl, h21, pr_no (by decide +kernel), d, u, r, rfl, mv.2, fun H2 c hcc mv2 => ?_⟩
    obtain ⟨j2, h22⟩ := mv2.2.rm
    have hbr : b ≠ d.r := fun e => by
      subst e
      rw [h21] at hb
      cases hb
    have hb2 := mv2.1 _ _ hbr hb
    refine ⟨_, rfl, d.r, d.dx, _, rfl, h22, pr_no (by decide +kernel), _, rfl, d, r, b, u, rfl, mv2.2, hb2, by have := g.len; omega, hc, ?_⟩
    exact ⟨_, rfl, b, _, 1, _, rfl, rfl, SqT.of hb2, atI1 _ _ _, (by show 2 ≤ sizeLine; decide), fun p hpn => k _ _ ((mv.trans mv2).more (same_new hpn))⟩
def spAx (K : PySem.W.Frag) : Sp := fun vs H Q _ => ∃ (d : Rd0) (t : Tk) (r : List Tk) (q : Addr), vs = [.ref d.r, .ref q] ∧ PR K H d (t :: r) ∧ (∀ H', SqT K H' q (axesL.map V.str)) ∧ hsN ["@"] t = false ∧ (t.1 = .nam → (axesL.any fun wd => decide (tl wd = t.2.1)) = false) ∧ ∀ H', Same H H' → Q (.str (Str.ofString "child")) H'
theorem ok_read_axis (T : Tx w K mg) : Ok P w K mg base CX0 3 (He.fAd K d_PathReader_read_axis.at_) p_PathReader_read_axis (spAx K) := by
  obtain ⟨fd, F⟩ := f_PathReader_read_axis T
  obtain ⟨fP, GP, bP, kP⟩ := ok_peek (P := P) (base := base) T
  obtain ⟨fH, GH, bH, kH⟩ := ok_has_sign (P := P) (base := base) T
  refine ⟨fd, ?_, b_PathReader_read_axis F, F.kp⟩
  refine F.ok sc_PathReader_read_axis (fun vs H Q E h => ?_) (fun cdv A outer s H vs Q E hr h => ?_)
  · obtain ⟨d, t, r, q, rfl, _⟩ := h
    rfl
  · obtain ⟨d, t, r, q, rfl, hp, hq, hat, hax, k⟩ := h
    have nd := sc_PathReader_read_axis.nd
    refine ⟨_, PSs.nox (pss_cons (ps_set (i := 2) nd rfl (.inl rfl) (pe_meth0 (E := E0) (pv 0) (cls_PathReader T) (m_PathReader_peek T) GP (hr.mono (by decide)) bP .nil pass0))
      (pss_cons (ps_if (pt_val (pe_meth (E := E0) (pv 0) (cls_PathReader T) (m_PathReader_has_sign T) GH (hr.mono (by decide)) bH .nil pass0 (pa_cons (pe_tup (pa_cons pe_str pa_nil)) pa_nil))) pss_no pss_nil)
      (pss_cons (ps_if (pw_and (pt_cmpR op_eq (pe_ix ix_tup (pv 2) pe_int (fun _ _ => rfl)) pe_str (nomark _)) (pw_and1 (pt_cmpR op_in_seq (pe_ix ix_tup (pv 2) pe_int (fun _ _ => rfl)) (pv 1) (by rfl)))).pt pss_no pss_nil)
      (pss_one (ps_ret pe_str))))), ?_⟩
    obtain ⟨j, h2⟩ := hp.rm
    refine ⟨_, rfl, d.r, d.dx, _, rfl, h2, pr_no (by decide +kernel), d, t, r, rfl, hp, fun a ha => ?_⟩
    refine ⟨_, rfl, d.r, d.dx, _, rfl, h2, pr_no (by decide +kernel), by decide, fun p hpn => ?_⟩
    have s1 := same_new hpn (o := .tup ([("@" : Str)].map V.str))
    refine ⟨d, t, r, p, ["@"], rfl, hp.same s1, SqT.of upd_same, _, rfl, ?_⟩
    rw [hat]
    refine iteF ?_
    have ha1 := s1 _ _ ha
    refine ⟨_, rfl, a, _, 0, _, rfl, rfl, SqT.of ha1, atI0 _ _, rfl, _, rfl, ?_⟩
    show if decide (V.str (kiS t.1) = V.str (Str.ofString "name")) = true then _ else _
    rw [kiS_lit t.1 .nam]
    cases e : decide (t.1 = .nam) with
    | false => exact iteF (iteF (k _ s1))
    | true =>
      refine iteT ?_
      refine ⟨_, rfl, a, _, 1, _, rfl, rfl, SqT.of ha1, atI1 _ _ _, _, rfl, q, _, rfl, .inr (hq _), rfl, flat_strs _, ?_⟩
      rw [if_neg Bool.false_ne_true, inV_any, tl_mkS, hax (of_decide_eq_true e)]
      exact ⟨_, rfl, iteF (k _ s1)⟩
end
end K20
/-! K20Rj -/
namespace K20
open PySem PySem.Spec PyProof.Rows L2 TL
/-- what a reading of tokens comes to: not told here, what is left, an error's place -/
inductive Rs where
  | dk
  | ok (l : List Tk)
  | no (p : Nat)
def rsC (K : PySem.W.Frag) (d : Rd0) (H : Hp) (Q : VK) (E : XK) : Rs → Prop
  | .dk => False
  | .ok r => spVal K d r H Q
  | .no p => ∀ H' e, Fl H H' d.r e p → E (.ref (CN K)) (some e) H'
theorem spVal.mv {K : PySem.W.Frag} {d : Rd0} {r m : List Tk} {H H1 : Hp} {Q : VK} (h : spVal K d r H Q) (a : MvR K H H1 d m) : spVal K d r H1 Q := fun H' y mv => h H' y (a.trans mv)
theorem rsC.mv {K : PySem.W.Frag} {d : Rd0} {l m : List Tk} {H H1 : Hp} {Q : VK} {E : XK} (h0 : PR K H d l) (a : MvR K H H1 d m) : ∀ {f : Rs}, rsC K d H Q E f → rsC K d H1 Q E f
  | .dk, h => h
  | .ok _, h => spVal.mv h a
  | .no _, h => fun H' e f => h H' e (MvR.fl h0 a f)
def colN (z : Str) (t : Tk) : Bool := hP (· == 58) ((tl z).drop (t.2.2 + t.2.1.length))
def tsN (z : Str) : List Tk → Rs
  | t :: r => if hsN ["*"] t then .ok r else if decide (t.1 = .nam) && !colN z t then
      (match r with
      | u :: _ => if hsN ["("] u then (if decide (mkS t.2.1 ∈ kindsKeys) then .dk else .no u.2.2) else .ok r
      | [] => .dk) else if decide (t.1 = .nam) then .dk else .no t.2.2
  | [] => .dk
section
variable {P : Program} {w : World} {K : PySem.W.Frag} {mg : Str → Option Value} {base : Heap}
def spTt (K : PySem.W.Frag) : Sp := fun vs H Q E => ∃ (d : Rd0) (l : List Tk), vs = [.ref d.r] ∧ PR K H d l ∧ rsC K d H Q E (tsN d.z l)
theorem ok_read_test (T : Tx w K mg) : Ok P w K mg base (L2.CX P w) 4 (He.fAd K d_PathReader_read_test.at_) p_PathReader_read_test (spTt K) := by
  obtain ⟨fd, F⟩ := f_PathReader_read_test T
  obtain ⟨fT, GT, bT, kT⟩ := ok_take (P := P) (base := base) T
  obtain ⟨fP, GP, bP, kP⟩ := ok_peek (P := P) (base := base) T
  obtain ⟨fH, GH, bH, kH⟩ := ok_has_sign (P := P) (base := base) T
  obtain ⟨fC, GC, bC, kC⟩ := ok_check_colon (P := P) (base := base) T
  obtain ⟨es, n, D⟩ := He.dicW_ok T.tabK
  refine ⟨fd, ?_, b_PathReader_read_test F, F.kp⟩
  refine F.ok sc_PathReader_read_test (fun vs H Q E h => ?_) (fun cdv A outer s H vs Q E hr h => ?_)
  · obtain ⟨d, l, rfl, _⟩ := h
    rfl
  · obtain ⟨d, l, rfl, hp, k⟩ := h
    have nd := sc_PathReader_read_test.nd
    refine ⟨_, pss_cons (ps_set (i := 1) nd rfl (.inl rfl) (pe_meth0 (E := E0) (pv 0) (cls_PathReader T) (m_PathReader_peek T) GP (hr.mono (by decide)) bP .nil pass0))
      (pss_cons (ps_if (pt_val (pe_meth (E := E0) (pv 0) (cls_PathReader T) (m_PathReader_has_sign T) GH (hr.mono (by decide)) bH .nil pass0 (pa_cons (pe_tup (pa_cons pe_str pa_nil)) pa_nil)))
        (pss_cons (ps_expr (pe_meth0 (E := E0) (pv 0) (cls_PathReader T) (m_PathReader_take T) GT (hr.mono (by decide)) bT .nil pass0)) (pss_one (ps_ret (pe_tup (pa_cons pe_str pa_nil))))) pss_nil)
      (pss_cons (ps_if (pt_cmpR op_ne (pe_ix ix_tup (pv 1) pe_int (fun _ _ => rfl)) pe_str (nomark _)) (pss_one (ps_raise rfl (takes_of rfl rfl rfl rfl) (pmk_nd T (hr.mono (by decide)) (pa_cons (pe_ix ix_tup (pv 1) pe_int (fun _ _ => rfl)) pa_nil)))) pss_nil)
      (pss_cons (ps_expr (pe_meth0 (E := E0) (pv 0) (cls_PathReader T) (m_PathReader_take T) GT (hr.mono (by decide)) bT .nil pass0))
      (pss_cons (ps_expr (pe_meth (E := E0) (pv 0) (cls_PathReader T) (m_PathReader_check_colon T) GC (hr.mono (by decide)) bC .nil pass0 (pa_cons (pv 1) pa_nil)))
      (pss_cons (ps_if (pt_not (pt_val (pe_meth (E := E0) (pv 0) (cls_PathReader T) (m_PathReader_has_sign T) GH (hr.mono (by decide)) bH .nil pass0 (pa_cons (pe_tup (pa_cons pe_str pa_nil)) pa_nil))))
        (pss_one (ps_ret (pe_tup (pa_cons pe_str (pa_cons (pe_ix ix_tup (pv 1) pe_int (fun _ _ => rfl)) pa_nil))))) pss_nil)
      (pss_cons (ps_if (pt_cmpR (op_notIn_kd D) (pe_ix ix_tup (pv 1) pe_int (fun _ _ => rfl)) (pe_glob (v := .ref (He.ga K "KINDS")) (by rfl) (g_KINDS T) rfl) (by rfl))
        (pss_one (ps_raise rfl (takes_of rfl rfl rfl rfl) (pmk_nd T (hr.mono (by decide)) (pa_cons (pe_ix ix_tup (pe_meth0 (E := E0) (pv 0) (cls_PathReader T) (m_PathReader_peek T) GP (hr.mono (by decide)) bP .nil pass0) pe_int (fun _ _ => rfl)) pa_nil)))) pss_nil)
      pss_no)))))), ?_⟩
    cases l with
    | nil => exact k.elim
    | cons t r =>
    obtain ⟨j, h2⟩ := hp.rm
    refine ⟨_, rfl, d.r, d.dx, _, rfl, h2, pr_no (by decide +kernel), d, t, r, rfl, hp, fun a ha => ?_⟩
    refine ⟨_, rfl, d.r, d.dx, _, rfl, h2, pr_no (by decide +kernel), by decide, fun p hpn => ?_⟩
    have s1 := same_new hpn (o := .tup ([("*" : Str)].map V.str))
    have hp1 := hp.same s1
    refine ⟨d, t, r, p, ["*"], rfl, hp1, SqT.of upd_same, _, rfl, ?_⟩
    have m1 := MvR.same hp s1
    have ha1 := s1 _ _ ha
    have h21 := s1 _ _ h2
    replace k := rsC.mv hp m1 k
    clear hp s1 h2 ha
    unfold tsN at k
    dsimp only at k
    cases hst : hsN ["*"] t with
    | true =>
      rw [hst, if_pos rfl] at k
      refine iteT ?_
      refine ⟨_, rfl, d.r, d.dx, _, rfl, h21, pr_no (by decide +kernel), d, t, r, rfl, hp1, fun H2 b hb mv => ?_⟩
      exact ⟨(by decide), fun p hpn => k _ _ (mv.more (same_new hpn))⟩
    | false =>
      rw [hst, if_neg Bool.false_ne_true] at k
      refine iteF ?_
      cases hc : decide (t.1 = .nam) && !colN d.z t with
      | false =>
        rw [hc, if_neg Bool.false_ne_true] at k
        cases hn : decide (t.1 = .nam) with
        | true =>
          rw [hn, if_pos rfl] at k
          exact k.elim
        | false =>
          rw [hn, if_neg Bool.false_ne_true] at k
          refine ⟨_, rfl, a, _, 0, _, rfl, rfl, SqT.of ha1, atI0 _ _, rfl, _, rfl, ?_⟩
          show if (!decide (V.str (kiS t.1) = V.str (Str.ofString "name"))) = true then _ else _
          rw [kiS_lit t.1 .nam, hn]
          refine iteT ?_
          refine ⟨_, rfl, a, _, 2, _, rfl, rfl, SqT.of ha1, atI_nat rfl, nd_ok hp1.log fun e y he => ?_⟩
          exact k _ e (MvR.raise hp1 ⟨SameB.refl _ _, hp1⟩ he)
      | true =>
        rw [hc, if_pos rfl] at k
        rw [Bool.and_eq_true, Bool.not_eq_true'] at hc
        obtain ⟨hn, hco⟩ := hc
        refine ⟨_, rfl, a, _, 0, _, rfl, rfl, SqT.of ha1, atI0 _ _, rfl, _, rfl, ?_⟩
        show if (!decide (V.str (kiS t.1) = V.str (Str.ofString "name"))) = true then _ else _
        rw [kiS_lit t.1 .nam, hn]
        refine iteF ?_
        cases r with
        | nil => exact k.elim
        | cons u r =>
        dsimp only at k
        have hpl := hp1.place
        refine ⟨_, rfl, d.r, d.dx, _, rfl, h21, pr_no (by decide +kernel), d, t, u :: r, rfl, hp1, fun H2 b hb mv => ?_⟩
        obtain ⟨j2, h22⟩ := mv.2.rm
        have har : a ≠ d.r := fun e => by
          subst e
          rw [h21] at ha1
          cases ha1
        have ha2 := mv.1 _ _ har ha1
        refine ⟨_, rfl, d.r, d.dx, _, rfl, h22, pr_no (by decide +kernel), _, rfl, d, u :: r, a, t, rfl, mv.2, ha2, by have := hpl.2.len; omega, hco, ?_⟩
        refine ⟨_, rfl, d.r, d.dx, _, rfl, h22, pr_no (by decide +kernel), by decide, fun p2 hp2 => ?_⟩
        have s3 := same_new hp2 (o := .tup ([("(" : Str)].map V.str))
        have hp3 := mv.2.same s3
        have ha3 := s3 _ _ ha2
        have h23 := s3 _ _ h22
        refine ⟨d, u, r, p2, ["("], rfl, hp3, SqT.of upd_same, _, rfl, ?_⟩
        have m3 := mv.more s3
        cases hs2 : hsN ["("] u with
        | false =>
          rw [hs2, if_neg Bool.false_ne_true] at k
          refine iteT ?_
          exact ⟨_, rfl, a, _, 1, _, rfl, rfl, SqT.of ha3, atI1 _ _ _, (by show 2 ≤ sizeLine; decide), fun p hpn => k _ _ (m3.more (same_new hpn))⟩
        | true =>
          rw [hs2, if_pos rfl] at k
          refine iteF ?_
          cases hkk : decide (mkS t.2.1 ∈ kindsKeys) with
          | true =>
            rw [hkk, if_pos rfl] at k
            exact k.elim
          | false =>
            rw [hkk, if_neg Bool.false_ne_true] at k
            refine ⟨_, rfl, a, _, 1, _, rfl, rfl, SqT.of ha3, atI1 _ _ _, (mkS t.2.1), none, rfl, rfl, kd_no T.tabK (of_decide_eq_false hkk), _, rfl, ?_⟩
            refine iteT ?_
            refine ⟨_, rfl, d.r, d.dx, _, rfl, h23, pr_no (by decide +kernel), d, u, r, rfl, hp3, fun c hc => ⟨c, _, 2, _, rfl, rfl, SqT.of hc, atI_nat rfl, nd_ok hp3.log fun e y he => ?_⟩⟩
            exact k _ e (m3.raise hp1 he)
end
end K20
/-! K20Rk -/
namespace K20
open PySem PySem.Spec PyProof.Rows L2 TL
/-! ### the row of operators (minus signs alone wait in it) -/
abbrev CO (K : PySem.W.Frag) : Addr := He.ga K "OperatorRow"
def orF (A W : Addr) : List (Str × V) := [("operands", .ref A), ("waiting", .ref W)]
theorem or_operands {A W : Addr} : (orF A W).lookup ("operands" : Str) = some (.ref A) := lk_hit
theorem or_waiting {A W : Addr} : (orF A W).lookup ("waiting" : Str) = some (.ref W) := (lk_skip (by decide +kernel)).trans lk_hit
theorem or_no {A W : Addr} {m : Str} (h : (["operands", "waiting"] : List Str).all (fun f => !(m == f)) = true) : (orF A W).lookup m = none := by
  simp only [List.all_cons, List.all_nil, Bool.and_true, Bool.and_eq_true, Bool.not_eq_true'] at h
  obtain ⟨h1, h2⟩ := h
  exact (lk_skip h1).trans ((lk_skip h2).trans rfl)
def negS : V := .str (Str.ofString "neg")
structure Row where
  o : Addr
  dx : Addr
  A : Addr
  W : Addr
/-- the row q with the operands os and n minus signs -/
structure OR (K : PySem.W.Frag) (H : Hp) (q : Row) (os : List V) (n : Nat) : Prop where
  at_ : H q.o = some (.ins (CO K) q.dx (orF q.A q.W))
  ops : H q.A = some (.lst os)
  wait : H q.W = some (.lst (List.replicate n negS))
  ne : q.A ≠ q.W
theorem OR.same {K : PySem.W.Frag} {H H' : Hp} {q : Row} {os : List V} {n : Nat} (a : OR K H q os n) (s : Same H H') : OR K H' q os n := ⟨s _ _ a.at_, s _ _ a.ops, s _ _ a.wait, a.ne⟩
theorem OR.oW {K : PySem.W.Frag} {H : Hp} {q : Row} {os : List V} {n : Nat} (a : OR K H q os n) : q.o ≠ q.W := fun e => by
  have h := a.wait
  rw [← e, a.at_] at h
  cases h
theorem OR.oA {K : PySem.W.Frag} {H : Hp} {q : Row} {os : List V} {n : Nat} (a : OR K H q os n) : q.o ≠ q.A := fun e => by
  have h := a.ops
  rw [← e, a.at_] at h
  cases h
theorem OR.setW {K : PySem.W.Frag} {H : Hp} {q : Row} {os : List V} {n : Nat} (a : OR K H q os n) (m : Nat) : OR K (upd H q.W (.lst (List.replicate m negS))) q os m :=
  ⟨by rw [upd_ne a.oW]; exact a.at_, by rw [upd_ne a.ne]; exact a.ops, upd_same, a.ne⟩
theorem OR.setA {K : PySem.W.Frag} {H : Hp} {q : Row} {os : List V} {n : Nat} (a : OR K H q os n) (os' : List V) : OR K (upd H q.A (.lst os')) q os' n :=
  ⟨by rw [upd_ne a.oA]; exact a.at_, upd_same, by rw [upd_ne (Ne.symm a.ne)]; exact a.wait, a.ne⟩
section
variable {P : Program} {w : World} {K : PySem.W.Frag} {mg : Str → Option Value} {base : Heap}
def spOm (K : PySem.W.Frag) : Sp := fun vs H Q _ => ∃ (q : Row) (os : List V) (n : Nat), vs = [.ref q.o] ∧ OR K H q os n ∧ n ≤ 500000 ∧ Q .non (upd H q.W (.lst (List.replicate (n + 1) negS)))
theorem ok_put_minus (T : Tx w K mg) : Ok P w K mg base CX0 1 (He.fAd K d_OperatorRow_put_minus.at_) p_OperatorRow_put_minus (spOm K) := by
  obtain ⟨fd, F⟩ := f_OperatorRow_put_minus T
  refine ⟨fd, ?_, b_OperatorRow_put_minus F, F.kp⟩
  refine F.ok sc_OperatorRow_put_minus (fun vs H Q E h => ?_) (fun cdv A outer s H vs Q E hr h => ?_)
  · obtain ⟨q, os, n, rfl, _⟩ := h
    rfl
  · obtain ⟨q, os, n, rfl, a, hn, k⟩ := h
    refine ⟨_, PSs.nox (pss_one (ps_expr (pe_bm PySem.F.plainAttrs_list PySem.F.slot_list_append PySem.F.type_list_append mt_append (pe_fld (pv 0) rfl) (pa_cons pe_str pa_nil)))), ?_⟩
    refine ⟨_, rfl, q.o, CO K, q.dx, _, _, rfl, a.at_, cls_OperatorRow T, na_OperatorRow_waiting T, or_waiting, .inl ⟨rfl, _, SqL.of a.wait⟩, q.W, _, negS, rfl, rfl, a.wait, by rw [sizeLine_eq, List.length_replicate]; omega, ?_⟩
    have e : List.replicate n negS ++ [negS] = List.replicate (n + 1) negS := by
      rw [List.replicate_succ']
    rw [e]
    exact k
def spOp (K : PySem.W.Frag) : Sp := fun vs H Q _ => ∃ (q : Row) (os : List V) (n : Nat) (v : V), vs = [.ref q.o, v] ∧ OR K H q os n ∧ os.length ≤ 500000 ∧ Q .non (upd H q.A (.lst (os ++ [v])))
theorem ok_put_operand (T : Tx w K mg) : Ok P w K mg base CX0 1 (He.fAd K d_OperatorRow_put_operand.at_) p_OperatorRow_put_operand (spOp K) := by
  obtain ⟨fd, F⟩ := f_OperatorRow_put_operand T
  refine ⟨fd, ?_, b_OperatorRow_put_operand F, F.kp⟩
  refine F.ok sc_OperatorRow_put_operand (fun vs H Q E h => ?_) (fun cdv A outer s H vs Q E hr h => ?_)
  · obtain ⟨q, os, n, v, rfl, _⟩ := h
    rfl
  · obtain ⟨q, os, n, v, rfl, a, hn, k⟩ := h
    refine ⟨_, PSs.nox (pss_one (ps_expr (pe_bm PySem.F.plainAttrs_list PySem.F.slot_list_append PySem.F.type_list_append mt_append (pe_fld (pv 0) rfl) (pa_cons (pv 1) pa_nil)))), ?_⟩
    exact ⟨_, rfl, q.o, CO K, q.dx, _, _, rfl, a.at_, cls_OperatorRow T, na_OperatorRow_operands T, or_operands, .inl ⟨rfl, _, SqL.of a.ops⟩, _, rfl, q.A, _, v, rfl, rfl, a.ops, by rw [sizeLine_eq]; omega, k⟩
end
end K20
/-! K20Rl -/
namespace K20
open PySem PySem.Spec PyProof.Rows L2 TL
def SameQ (q : Row) (H H' : Hp) : Prop := ∀ b o, b ≠ q.A → b ≠ q.W → H b = some o → H' b = some o
theorem SameQ.refl (q : Row) (H : Hp) : SameQ q H H := fun _ _ _ _ h => h
theorem SameQ.trans {q : Row} {H H1 H2 : Hp} (a : SameQ q H H1) (b : SameQ q H1 H2) : SameQ q H H2 := fun c o h1 h2 h => b c o h1 h2 (a c o h1 h2 h)
theorem SameQ.of {q : Row} {H H1 : Hp} (a : Same H H1) : SameQ q H H1 := fun c o _ _ h => a c o h
theorem SameQ.A {q : Row} {H : Hp} {o : HO} : SameQ q H (upd H q.A o) := fun c o' h _ hh => by rw [upd_ne h]; exact hh
theorem SameQ.W {q : Row} {H : Hp} {o : HO} : SameQ q H (upd H q.W o) := fun c o' _ h hh => by rw [upd_ne h]; exact hh
theorem atL {xs : List V} {x : V} : atI (xs ++ [x]) (-1) = some x := by
  unfold atI ixN
  simp
  rw [if_pos (by omega), show (-1 + ((xs.length : Int) + 1)).toNat = xs.length by omega]
  simp
section
variable {P : Program} {w : World} {K : PySem.W.Frag} {mg : Str → Option Value} {base : Heap}
theorem rank_neg (T : Tx w K mg) : KDct K w (He.ga K "RANKS") (Str.ofString "neg") (.int 7) := by
  obtain ⟨_, _, _, _, _, hv, _⟩ := mores T
  obtain ⟨es, n, D⟩ := He.dicW_ok T.tabR
  obtain ⟨u, e3, e4⟩ := He.valsB_ok hv (q := ("neg", .int 7)) (by unfold ranksKvs; simp)
  exact ⟨es, n, u, D.at_, D.lit, e3, e4⟩
def spBi (K : PySem.W.Frag) : Sp := fun vs H Q _ => ∃ (q : Row) (v : V) (n : Nat), vs = [.ref q.o, .int 0] ∧ OR K H q [v] n ∧ n ≤ 500000 ∧ ∀ H' y, OR K H' q [y] 0 → SameQ q H H' → Q .non H'
theorem ok_bind (T : Tx w K mg) : Ok P w K mg base CX0 1 (He.fAd K d_OperatorRow_bind.at_) p_OperatorRow_bind (spBi K) := by
  obtain ⟨fd, F⟩ := f_OperatorRow_bind T
  refine ⟨fd, ?_, b_OperatorRow_bind F, F.kp⟩
  refine F.ok sc_OperatorRow_bind (fun vs H Q E h => ?_) (fun cdv A outer s H vs Q E hr h => ?_)
  · obtain ⟨q, v, n, rfl, _⟩ := h
    rfl
  · obtain ⟨q, v, n, rfl, a, hn, k⟩ := h
    have nd := sc_OperatorRow_bind.nd
    refine ⟨_, PSs.nox (pss_one (ps_while PassesOwn.never (pw_and (pt_truth (pe_fld (pv 0) rfl) (by intro _; rfl)) (pw_and1 (pt_cmpR op_ge (pe_ix ix_kdict (pe_glob (v := .ref (He.ga K "RANKS")) (by rfl) (g_RANKS T) rfl) (pe_ix ix_list (pe_fld (pv 0) rfl) (pe_un un_neg pe_int) (fun _ _ => rfl)) (fun _ _ => rfl)) (pv 1) (nomark _)))).pt
      (pss_cons (ps_set (i := 2) nd rfl (.inl rfl) (pe_bm0 PySem.F.plainAttrs_list PySem.F.slot_list_pop PySem.F.type_list_pop mt_pop (pe_fld (pv 0) rfl)))
      (pss_cons (ps_set (i := 3) nd rfl (.inl rfl) (pe_bm0 PySem.F.plainAttrs_list PySem.F.slot_list_pop PySem.F.type_list_pop mt_pop (pe_fld (pv 0) rfl)))
      (pss_one (ps_if (pt_cmpR op_eq (pv 2) pe_str (nomark _))
        (pss_one (ps_expr (pe_bm PySem.F.plainAttrs_list PySem.F.slot_list_append PySem.F.type_list_append mt_append (pe_fld (pv 0) rfl) (pa_cons (pe_tup (pa_cons pe_str (pa_cons (pv 3) pa_nil))) pa_nil))))
        pss_no)))))), ?_⟩
    refine while_x (fun mm σ H1 => ∃ (v2 v3 : Option V) (y : V), mm ≤ 500000 ∧ σ = [some (.ref q.o), some (.int 0), v2, v3] ∧ OR K H1 q [y] mm ∧ SameQ q H H1)
      (fun σ H1 => ∃ y, OR K H1 q [y] 0 ∧ SameQ q H H1) ⟨n, none, none, v, hn, rfl, a, SameQ.refl q H⟩ ?_ ?_
    · rintro σ H1 ⟨y, a1, s1⟩
      exact k _ y a1 s1
    · rintro - mm σ H1 R ⟨v2, v3, y, hm, rfl, a1, s1⟩ hfin hbody
      refine ⟨_, rfl, q.o, CO K, q.dx, _, _, rfl, a1.at_, cls_OperatorRow T, na_OperatorRow_waiting T, or_waiting, !(List.replicate mm negS).isEmpty, .inl ⟨_, SqL.of a1.wait, rfl⟩, ?_⟩
      cases mm with
      | zero =>
        refine iteF ?_
        exact hfin _ ⟨y, a1, s1⟩
      | succ m =>
        refine iteT ?_
        have er : List.replicate (m + 1) negS = List.replicate m negS ++ [negS] := List.replicate_succ'
        have hw := a1.wait
        rw [er] at hw
        refine ⟨_, rfl, q.o, CO K, q.dx, _, _, rfl, a1.at_, cls_OperatorRow T, na_OperatorRow_waiting T, or_waiting, 1, rfl, q.W, _, -1, negS, rfl, rfl, SqL.of hw, atL, He.ga K "RANKS", Str.ofString "neg", .int 7, rfl, rfl, rank_neg T, _, rfl, _, _, rfl, rfl, _, rfl, ?_⟩
        refine hbody _ ?_
        refine ⟨_, rfl, q.o, CO K, q.dx, _, _, rfl, a1.at_, cls_OperatorRow T, na_OperatorRow_waiting T, or_waiting, .inl ⟨rfl, _, SqL.of hw⟩, q.W, _, negS, rfl, rfl, hw, (by simp), ?_⟩
        rw [List.dropLast_concat]
        have a2 := a1.setW m
        refine ⟨_, rfl, q.o, CO K, q.dx, _, _, rfl, a2.at_, cls_OperatorRow T, na_OperatorRow_operands T, or_operands, .inl ⟨rfl, _, SqL.of a2.ops⟩, q.A, _, y, rfl, rfl, a2.ops, rfl, ?_⟩
        have a3 := a2.setA []
        refine ⟨_, rfl, rfl, _, rfl, ?_⟩
        refine iteT ?_
        refine ⟨_, rfl, q.o, CO K, q.dx, _, _, rfl, a3.at_, cls_OperatorRow T, na_OperatorRow_operands T, or_operands, .inl ⟨rfl, _, SqL.of a3.ops⟩, _, rfl, (by show 2 ≤ sizeLine; decide), fun p hp => ?_⟩
        have s4 := same_new hp (o := .tup [V.str (Str.ofString "neg"), y])
        have a4 := a3.same s4
        refine ⟨q.A, [], .ref p, rfl, rfl, a4.ops, (by decide), ?_⟩
        exact ⟨m, by omega, _, _, .ref p, by omega, rfl, a4.setA _, (((s1.trans .W).trans .A).trans (.of s4)).trans .A⟩
def spFi (K : PySem.W.Frag) : Sp := fun vs H Q _ => ∃ (q : Row) (v : V) (n : Nat), vs = [.ref q.o] ∧ OR K H q [v] n ∧ n ≤ 500000 ∧ ∀ H' y, SameQ q H H' → Q y H'
theorem ok_finished (T : Tx w K mg) : Ok P w K mg base CX0 2 (He.fAd K d_OperatorRow_finished.at_) p_OperatorRow_finished (spFi K) := by
  obtain ⟨fd, F⟩ := f_OperatorRow_finished T
  obtain ⟨fB, GB, bB, kB⟩ := ok_bind (P := P) (base := base) T
  refine ⟨fd, ?_, b_OperatorRow_finished F, F.kp⟩
  refine F.ok sc_OperatorRow_finished (fun vs H Q E h => ?_) (fun cdv A outer s H vs Q E hr h => ?_)
  · obtain ⟨q, v, n, rfl, _⟩ := h
    rfl
  · obtain ⟨q, v, n, rfl, a, hn, k⟩ := h
    refine ⟨_, PSs.nox (pss_cons (ps_expr (pe_meth (E := E0) (pv 0) (cls_OperatorRow T) (m_OperatorRow_bind T) GB (hr.mono (by decide)) bB .nil pass0 (pa_cons pe_int pa_nil)))
      (pss_one (ps_ret (pe_ix ix_list (pe_fld (pv 0) rfl) pe_int (fun _ _ => rfl))))), ?_⟩
    refine ⟨_, rfl, q.o, q.dx, _, rfl, a.at_, or_no (by decide +kernel), q, v, n, rfl, a, hn, fun H1 y a1 s1 => ?_⟩
    exact ⟨_, rfl, q.o, CO K, q.dx, _, _, rfl, a1.at_, cls_OperatorRow T, na_OperatorRow_operands T, or_operands, q.A, _, 0, _, rfl, rfl, SqL.of a1.ops, atI0 _ _, k _ _ s1⟩
end
end K20
/-! K20Rm -/
namespace K20
open PySem PySem.Spec PyProof.Rows L2 TL
theorem cut_last (xs : List V) (x : V) : cutV (xs ++ [x]) (some (-1)) none = [x] := by
  unfold cutV
  have e1 : HT.sIx (xs ++ [x]).length 0 (some (-1)) = xs.length := by
    show ((-1 : Int) + (((xs ++ [x]).length : Nat) : Int)).toNat = xs.length
    rw [List.length_append]
    show ((-1 : Int) + ((xs.length + 1 : Nat) : Int)).toNat = xs.length
    omega
  have e2 : HT.sIx (xs ++ [x]).length (xs ++ [x]).length none = xs.length + 1 := by
    unfold HT.sIx
    rw [List.length_append]
    rfl
  rw [e1, e2, List.drop_left, Nat.add_sub_cancel_left]
  rfl
section
variable {P : Program} {w : World} {K : PySem.W.Frag} {mg : Str → Option Value} {base : Heap}
def spEw (K : PySem.W.Frag) : Sp := fun vs H Q _ => ∃ (q : Row) (os : List V) (n : Nat), vs = [.ref q.o, .str (Str.ofString "union")] ∧ OR K H q os n ∧ ∀ H', Same H H' → Q (.bl false) H'
theorem ok_ends_with (T : Tx w K mg) : Ok P w K mg base CX0 1 (He.fAd K d_OperatorRow_ends_with.at_) p_OperatorRow_ends_with (spEw K) := by
  obtain ⟨fd, F⟩ := f_OperatorRow_ends_with T
  refine ⟨fd, ?_, b_OperatorRow_ends_with F, F.kp⟩
  refine F.ok sc_OperatorRow_ends_with (fun vs H Q E h => ?_) (fun cdv A outer s H vs Q E hr h => ?_)
  · obtain ⟨q, os, n, rfl, _⟩ := h
    rfl
  · obtain ⟨q, os, n, rfl, a, k⟩ := h
    refine ⟨_, PSs.nox (pss_one (ps_ret (pe_cmpR (op_eqD hr.units) (pe_slice sl_list (pe_fld (pv 0) rfl) (po_some (pe_un un_neg pe_int)) po_none) (pe_lst (pa_cons (pv 1) pa_nil)) (nomark _)))), ?_⟩
    refine ⟨_, rfl, q.o, CO K, q.dx, _, _, rfl, a.at_, cls_OperatorRow T, na_OperatorRow_waiting T, or_waiting, 1, rfl, -1, rfl, q.W, _, rfl, SqL.of a.wait, fun p hp => ?_⟩
    have s1 := same_new hp (o := .lst (cutV (List.replicate n negS) (some (-1)) none))
    refine ⟨_, rfl, (by show 1 ≤ sizeLine; decide), fun p2 hp2 => ?_⟩
    have s2 := same_new hp2 (o := .lst [V.str (Str.ofString "union")])
    have h1 : upd H p (.lst (cutV (List.replicate n negS) (some (-1)) none)) p = some (.lst (cutV (List.replicate n negS) (some (-1)) none)) := upd_same
    have h12 := s2 _ _ h1
    cases n with
    | zero =>
      have ec : cutV (List.replicate 0 negS) (some (-1)) none = [] := rfl
      rw [ec] at h12
      refine ⟨_, _, .lst (SqL.of h12) .nil, .lst (SqL.of upd_same) (.cons (.str _) .nil), by decide +kernel, by decide +kernel, ?_⟩
      exact k _ (s1.trans s2)
    | succ m =>
      have ec : cutV (List.replicate (m + 1) negS) (some (-1)) none = [negS] := by
        rw [List.replicate_succ']
        exact cut_last _ _
      refine ⟨_, _, .lst (SqL.of (xs := [negS]) (h12.trans (congrArg (fun l => some (HO.lst l)) ec))) (.cons (.str _) .nil), .lst (SqL.of upd_same) (.cons (.str _) .nil), by decide +kernel, by decide +kernel, ?_⟩
      have e : PyData.eqv (.list [.str (Str.ofString "neg")]) (.list [.str (Str.ofString "union")]) = false := by decide +kernel
      rw [e]
      exact k _ (s1.trans s2)
def spOi (K : PySem.W.Frag) : Sp := fun vs H Q _ => ∃ (o dx : Addr), vs = [.ref o] ∧ H o = some (.ins (CO K) dx []) ∧ ∀ H' A W, OR K H' ⟨o, dx, A, W⟩ [] 0 → SameB o H H' → H A = none → H W = none → Q .non H'
theorem ok_row_init (T : Tx w K mg) : Ok P w K mg base CX0 1 (He.fAd K d_OperatorRow_init.at_) p_OperatorRow_init (spOi K) := by
  obtain ⟨fd, F⟩ := f_OperatorRow_init T
  refine ⟨fd, ?_, b_OperatorRow_init F, F.kp⟩
  refine F.ok sc_OperatorRow_init (fun vs H Q E h => ?_) (fun cdv A outer s H vs Q E hr h => ?_)
  · obtain ⟨o, dx, rfl, _⟩ := h
    rfl
  · obtain ⟨o, dx, rfl, ho, k⟩ := h
    refine ⟨_, PSs.nox (pss_cons (ps_fld (pv 0) (pe_lst pa_nil) rfl) (pss_one (ps_fld (pv 0) (pe_lst pa_nil) rfl))), ?_⟩
    refine ⟨by decide, fun A1 hA => ?_⟩
    have s1 := same_new hA (o := .lst [])
    refine ⟨_, rfl, o, CO K, dx, _, rfl, s1 _ _ ho, cls_OperatorRow T, na_OperatorRow_operands T, (by decide), by decide, fun W1 hW => ?_⟩
    have s2 := same_new hW (o := .lst [])
    have hoA : o ≠ A1 := fun e => by
      rw [← e, ho] at hA
      cases hA
    have hWo : W1 ≠ o := fun e => by
      rw [e, upd_same] at hW
      cases hW
    have hWA : W1 ≠ A1 := fun e => by
      rw [e, upd_ne (Ne.symm hoA), upd_same] at hW
      cases hW
    have hW0 : H W1 = none := by
      rw [upd_ne hWo, upd_ne hWA] at hW
      exact hW
    refine ⟨_, rfl, o, CO K, dx, _, rfl, s2 _ _ upd_same, cls_OperatorRow T, na_OperatorRow_waiting T, (by show 1 < 1000; decide), ?_⟩
    refine k _ A1 W1 ⟨upd_same, ?_, ?_, Ne.symm hWA⟩ ?_ hA hW0
    · rw [upd_ne (Ne.symm hoA), upd_ne (Ne.symm hWA), upd_ne (Ne.symm hoA), upd_same]
    · rw [upd_ne hWo, upd_same]
      rfl
    · exact ((SameB.of s1).trans .up).trans ((SameB.of s2).trans .up)
end
end K20
/-! K20Rn -/
namespace K20
open PySem PySem.Spec PyProof.Rows L2 TL
def spRd (K : PySem.W.Frag) (f : Str → List Tk → Rs) : Sp := fun vs H Q E => ∃ (d : Rd0) (l : List Tk), vs = [.ref d.r] ∧ PR K H d l ∧ rsC K d H Q E (f d.z l)
/-- behind an operand: the sign wd is wanted -/
def xbN (wd : Str) : List Tk → Rs
  | u :: m => if hsN [wd] u then .ok m else if decide (u.1 = .nam) || decide (u.1 = .brk) then .dk else .no u.2.2
  | [] => .dk
def Rs.bind : Rs → (List Tk → Rs) → Rs
  | .ok l, f => f l
  | .no p, _ => .no p
  | .dk, _ => .dk
/-- no predicate follows -/
def npN : List Tk → Rs
  | v :: m => if hsN ["["] v then .dk else .ok (v :: m)
  | [] => .dk
/-- behind [ : one predicate -/
def prN (ex : Str → List Tk → Rs) (z : Str) (l : List Tk) : Rs := ((ex z l).bind (xbN "]")).bind npN
theorem PR.rne {K : PySem.W.Frag} {H : Hp} {d : Rd0} {l : List Tk} (a : PR K H d l) {b : Addr} {o : HO} (hb : H b = some o) (hn : ∀ C dx fs, o ≠ .ins C dx fs) : b ≠ d.r := fun e => by
  obtain ⟨j, h⟩ := a.rm
  rw [e, h] at hb
  cases hb
  exact hn _ _ _ rfl
theorem MvR.updN {K : PySem.W.Frag} {H H' : Hp} {d : Rd0} {l0 l : List Tk} {L : Addr} {o : HO} (h0 : PR K H d l0) (hL : H L = none) (m : MvR K H H' d l) : MvR K H (upd H' L o) d l := by
  have nL : ∀ {b : Addr} {u : HO}, H b = some u → b ≠ L := fun hb e => by
    rw [e, hL] at hb
    cases hb
  have h0' := h0
  obtain ⟨s, j, g, hj, h2, h3, h4⟩ := m
  obtain ⟨_, _, _, i2, i3, i4⟩ := h0
  refine ⟨fun b u hb hu => ?_, j, g, hj, ?_, ?_, ?_⟩
  · rw [upd_ne (nL hu)]
    exact s b u hb hu
  · rw [upd_ne (nL i2)]
    exact h2
  · rw [upd_ne (nL i3)]
    exact h3
  · exact i4.keep fun a xs ha => by
      rw [upd_ne (nL ha)]
      exact s _ _ (h0'.rne ha (fun _ _ _ => by simp)) ha
section
variable {P : Program} {w : World} {K : PySem.W.Frag} {mg : Str → Option Value} {base : Heap}
/-- expect_behind_operand, by xbN -/
theorem xb_of {K : PySem.W.Frag} {d : Rd0} {H : Hp} {Q : VK} {E : XK} {wd : Str} {l : List Tk} (h : rsC K d H Q E (xbN wd l)) : ∃ (t : Tk) (r : List Tk), l = t :: r ∧ (hsN [wd] t = true → spVal K d r H Q) ∧ (hsN [wd] t = false → t.1 ≠ .nam ∧ t.1 ≠ .brk ∧ ∀ H' e, Fl H H' d.r e t.2.2 → E (.ref (CN K)) (some e) H') := by
  cases l with
  | nil => exact h.elim
  | cons t r =>
    refine ⟨t, r, rfl, fun e => ?_, fun e => ?_⟩
    · unfold xbN at h
      dsimp only at h
      rw [e, if_pos rfl] at h
      exact h
    · unfold xbN at h
      dsimp only at h
      rw [e, if_neg Bool.false_ne_true] at h
      cases hb : decide (t.1 = .nam) || decide (t.1 = .brk) with
      | true =>
        rw [hb, if_pos rfl] at h
        exact h.elim
      | false =>
        rw [hb, if_neg Bool.false_ne_true] at h
        rw [Bool.or_eq_false_iff] at hb
        exact ⟨of_decide_eq_false hb.1, of_decide_eq_false hb.2, h⟩
def spPr (K : PySem.W.Frag) (ex : Str → List Tk → Rs) : Sp := fun vs H Q E => ∃ (d : Rd0) (t : Tk) (r : List Tk), vs = [.ref d.r] ∧ PR K H d (t :: r) ∧
  (hsN ["["] t = false → ∀ H' q, H' q = some (.tup []) → MvR K H H' d (t :: r) → Q (.ref q) H') ∧ (hsN ["["] t = true → rsC K d H Q E (prN ex d.z r))
theorem ok_read_predicates (T : Tx w K mg) {e : Nat} (he : 4 ≤ e) {ex : Str → List Tk → Rs} (hE : Ok P w K mg base (L2.CX P w) e (He.fAd K d_PathReader_read_expression.at_) p_PathReader_read_expression (spRd K ex)) :
    Ok P w K mg base (L2.CX P w) (e + 1) (He.fAd K d_PathReader_read_predicates.at_) p_PathReader_read_predicates (spPr K ex) := by
  obtain ⟨fd, F⟩ := f_PathReader_read_predicates T
  obtain ⟨fE, GE, bE, kE⟩ := hE
  obtain ⟨fT, GT, bT, kT⟩ := ok_take (P := P) (base := base) T
  obtain ⟨fH, GH, bH, kH⟩ := ok_has_sign (P := P) (base := base) T
  obtain ⟨fX, GX, bX, kX⟩ := ok_expect_behind_operand (P := P) (base := base) T
  refine ⟨fd, ?_, b_PathReader_read_predicates F, F.kp⟩
  refine F.ok sc_PathReader_read_predicates (fun vs H Q E h => ?_) (fun cdv A outer s H vs Q E hr h => ?_)
  · obtain ⟨d, t, r, rfl, _⟩ := h
    rfl
  · obtain ⟨d, t, r, rfl, hp, k0, k1⟩ := h
    have nd := sc_PathReader_read_predicates.nd
    refine ⟨_, pss_cons (ps_set (i := 1) nd rfl (.inl rfl) (pe_lst pa_nil))
      (pss_cons (ps_while (passes_of rfl) (pt_val (pe_meth (E := E0) (pv 0) (cls_PathReader T) (m_PathReader_has_sign T) GH (hr.mono (by omega)) bH .nil pass0 (pa_cons (pe_tup (pa_cons pe_str pa_nil)) pa_nil)))
        (pss_cons (ps_expr (pe_meth0 (E := E0) (pv 0) (cls_PathReader T) (m_PathReader_take T) GT (hr.mono (by omega)) bT .nil pass0))
        (pss_cons (ps_expr (pe_bm PySem.F.plainAttrs_list PySem.F.slot_list_append PySem.F.type_list_append mt_append (pv 1) (pa_cons (pe_meth0 (E := E) (pv 0) (cls_PathReader T) (m_PathReader_read_expression T) GE (hr.mono (by omega)) bE .nil (passes_call (takes_of rfl rfl rfl rfl) (fun _ _ _ _ h => h))) pa_nil)))
        (pss_one (ps_expr (pe_meth (E := E) (pv 0) (cls_PathReader T) (m_PathReader_expect_behind_operand T) GX (hr.mono (by omega)) bX .nil (passes_call (takes_of rfl rfl rfl rfl) (fun _ _ _ _ h => h)) (pa_cons pe_str pa_nil)))))))
      (pss_one (ps_ret (pe_tupleOf (by rfl) (n_tuple T) (pv 1))))), ?_⟩
    refine ⟨by decide, fun L hL => ?_⟩
    have s1 := same_new hL (o := .lst [])
    have m1 := MvR.same hp s1
    have hL1 : upd H L (.lst []) L = some (.lst []) := upd_same
    have hLr : L ≠ d.r := fun e => by
      obtain ⟨j, h2⟩ := hp.rm
      rw [e, h2] at hL
      cases hL
    generalize upd H L (.lst []) = H1 at m1 hL1 ⊢
    refine while_x (fun mm σ H2 => σ = [some (.ref d.r), some (.ref L)] ∧ ((mm = 1 ∧ MvR K H H2 d (t :: r) ∧ H2 L = some (.lst [])) ∨ (mm = 0 ∧ ∃ y v m, hsN ["["] v = false ∧ MvR K H H2 d (v :: m) ∧ H2 L = some (.lst [y]) ∧ spVal K d (v :: m) H Q)))
      (fun σ H2 => σ = [some (.ref d.r), some (.ref L)] ∧ ((hsN ["["] t = false ∧ MvR K H H2 d (t :: r) ∧ H2 L = some (.lst [])) ∨ ∃ y l, MvR K H H2 d l ∧ H2 L = some (.lst [y]) ∧ spVal K d l H Q)) ⟨1, rfl, .inl ⟨rfl, m1, hL1⟩⟩ ?_ ?_
    · rintro σ H2 ⟨rfl, ⟨hs, m2, h2⟩ | ⟨y, l, m2, h2, kv⟩⟩
      · exact ⟨_, rfl, .inl ⟨L, _, rfl, SqL.of h2, fun q hq => k0 hs _ q upd_same (m2.more (same_new hq))⟩⟩
      · exact ⟨_, rfl, .inl ⟨L, _, rfl, SqL.of h2, fun q hq => kv _ _ (m2.more (same_new hq))⟩⟩
    · rintro - mm σ H2 R ⟨rfl, ⟨rfl, m2, h2⟩ | ⟨rfl, y, v, m, hs, m2, h2, kv⟩⟩ hfin hbody
      · obtain ⟨j, hr2⟩ := m2.2.rm
        refine ⟨_, rfl, d.r, d.dx, _, rfl, hr2, pr_no (by decide +kernel), by decide, fun p hpn => ?_⟩
        have s3 := same_new hpn (o := .tup ([("[" : Str)].map V.str))
        refine ⟨d, t, r, p, ["["], rfl, m2.2.same s3, SqT.of upd_same, _, rfl, ?_⟩
        have m3 := m2.more s3
        have h3 := s3 _ _ h2
        cases hs : hsN ["["] t with
        | false => exact hfin _ ⟨rfl, .inl ⟨hs, m3, h3⟩⟩
        | true =>
          refine hbody _ ?_
          obtain ⟨j3, hr3⟩ := m3.2.rm
          refine ⟨_, rfl, d.r, d.dx, _, rfl, hr3, pr_no (by decide +kernel), d, t, r, rfl, m3.2, fun H4 a ha mv4 => ?_⟩
          obtain ⟨j4, hr4⟩ := mv4.2.rm
          have h4 := mv4.1 _ _ hLr h3
          have m4 := m3.trans mv4
          refine ⟨_, rfl, .inl ⟨rfl, _, SqL.of h4⟩, _, rfl, d.r, d.dx, _, rfl, hr4, pr_no (by decide +kernel), d, r, rfl, mv4.2, ?_⟩
          have k2 := rsC.mv hp m4 (k1 hs)
          have kk : prN ex d.z r = ((ex d.z r).bind (xbN "]")).bind npN := rfl
          rw [kk] at k2
          cases hx : ex d.z r with
          | dk => rw [hx] at k2; exact k2.elim
          | no p => rw [hx] at k2; exact k2
          | ok l =>
            rw [hx] at k2
            intro H5 y mv5
            have h5 := mv5.1 _ _ hLr h4
            have m5 := m4.trans mv5
            refine ⟨L, _, y, rfl, rfl, h5, by decide, ?_⟩
            have m6 : MvR K H (upd H5 L (.lst [y])) d l := m5.updN hp hL
            have h6 : upd H5 L (.lst [y]) L = some (.lst [y]) := upd_same
            have k6 : rsC K d (upd H5 L (.lst [y])) Q E ((xbN "]" l).bind npN) := rsC.mv hp m6 (by
              have := k1 hs
              rw [kk, hx] at this
              exact this)
            obtain ⟨j6, hr6⟩ := m6.2.rm
            have k7 : rsC K d (upd H5 L (.lst [y])) (fun _ H' => ∀ m, xbN "]" l = .ok m → MvR K (upd H5 L (.lst [y])) H' d m → MvR K (upd H5 L (.lst [y])) H' d m ∧ rsC K d (upd H5 L (.lst [y])) Q E (npN m)) E (xbN "]" l) := by
              cases hy : xbN "]" l with
              | dk => rw [hy] at k6; exact k6.elim
              | no p => rw [hy] at k6; exact k6
              | ok m =>
                rw [hy] at k6
                intro H7 y7 mv7 m' e mv7'
                cases e
                exact ⟨mv7, k6⟩
            obtain ⟨u, m, hlu, q1, q0⟩ := xb_of k7
            subst hlu
            refine ⟨_, rfl, d.r, d.dx, _, rfl, hr6, pr_no (by decide +kernel), d, u, m, _, rfl, m6.2, fun hs6 H7 mv7 => ?_, q0⟩
            have exb : xbN "]" (u :: m) = .ok m := by
              unfold xbN
              dsimp only
              rw [hs6, if_pos rfl]
            obtain ⟨_, k8⟩ := q1 hs6 H7 .non mv7 m exb mv7
            have h7 := mv7.1 _ _ hLr h6
            cases m with
            | nil => exact k8.elim
            | cons v m =>
              unfold npN at k8
              dsimp only at k8
              cases hv : hsN ["["] v with
              | true =>
                rw [hv, if_pos rfl] at k8
                exact k8.elim
              | false =>
                rw [hv, if_neg Bool.false_ne_true] at k8
                have k9 : spVal K d (v :: m) H Q := by
                  have := k1 hs
                  rw [kk, hx] at this
                  have e1 : (Rs.ok (u :: v :: m)).bind (xbN "]") = .ok (v :: m) := exb
                  rw [e1] at this
                  have e2 : (Rs.ok (v :: m)).bind npN = .ok (v :: m) := by
                    show npN (v :: m) = _
                    unfold npN
                    dsimp only
                    rw [hv, if_neg Bool.false_ne_true]
                  rw [e2] at this
                  exact this
                exact ⟨0, by omega, rfl, .inr ⟨rfl, y, v, m, hv, m6.trans mv7, h7, k9⟩⟩
      · obtain ⟨j, hr2⟩ := m2.2.rm
        refine ⟨_, rfl, d.r, d.dx, _, rfl, hr2, pr_no (by decide +kernel), by decide, fun p hpn => ?_⟩
        have s3 := same_new hpn (o := .tup ([("[" : Str)].map V.str))
        refine ⟨d, v, m, p, ["["], rfl, m2.2.same s3, SqT.of upd_same, _, rfl, ?_⟩
        rw [hs]
        exact hfin _ ⟨rfl, .inr ⟨y, _, m2.more s3, s3 _ _ h2, kv⟩⟩
end
end K20
/-! K20Ro -/
namespace K20
open PySem PySem.Spec PyProof.Rows L2 TL
def pdN (ex : Str → List Tk → Rs) (z : Str) : List Tk → Rs
  | t :: r => if hsN ["["] t then prN ex z r else .ok (t :: r)
  | [] => .dk
def stN (ex : Str → List Tk → Rs) (z : Str) : List Tk → Rs
  | t :: r => if hsN [".", ".."] t || decide (t.1 = .num) || hsN ["@"] t || (decide (t.1 = .nam) && axesL.any fun wd => decide (tl wd = t.2.1)) then .dk else (tsN z (t :: r)).bind (pdN ex z)
  | [] => .dk
section
variable {P : Program} {w : World} {K : PySem.W.Frag} {mg : Str → Option Value} {base : Heap}
theorem ok_read_step (T : Tx w K mg) {e : Nat} (he : 4 ≤ e) {ex : Str → List Tk → Rs} (hE : Ok P w K mg base (L2.CX P w) e (He.fAd K d_PathReader_read_expression.at_) p_PathReader_read_expression (spRd K ex)) :
    Ok P w K mg base (L2.CX P w) (e + 2) (He.fAd K d_PathReader_read_step.at_) p_PathReader_read_step (spRd K (stN ex)) := by
  obtain ⟨fd, F⟩ := f_PathReader_read_step T
  obtain ⟨fP, GP, bP, kP⟩ := ok_peek (P := P) (base := base) T
  obtain ⟨fH, GH, bH, kH⟩ := ok_has_sign (P := P) (base := base) T
  obtain ⟨fA, GA, bA, kA⟩ := ok_read_axis (P := P) (base := base) T
  obtain ⟨fT, GT, bT, kT⟩ := ok_read_test (P := P) (base := base) T
  obtain ⟨fR, GR, bR, kR⟩ := ok_read_predicates (P := P) (base := base) T he hE
  obtain ⟨_, _, _, _, _, _, _, _, _, _, _, hAx, _⟩ := mores T
  have hA2 := strs_of hAx (by decide +kernel)
  refine ⟨fd, ?_, b_PathReader_read_step F, F.kp⟩
  refine F.ok sc_PathReader_read_step (fun vs H Q E h => ?_) (fun cdv A outer s H vs Q E hr h => ?_)
  · obtain ⟨d, l, rfl, _⟩ := h
    rfl
  · obtain ⟨d, l, rfl, hp, k⟩ := h
    have nd := sc_PathReader_read_step.nd
    refine ⟨_, pss_cons (ps_set (i := 1) nd rfl (.inl rfl) (pe_meth0 (E := E0) (pv 0) (cls_PathReader T) (m_PathReader_peek T) GP (hr.mono (by omega)) bP .nil pass0))
      (pss_cons (ps_if (pt_val (pe_meth (E := E0) (pv 0) (cls_PathReader T) (m_PathReader_has_sign T) GH (hr.mono (by omega)) bH .nil pass0 (pa_cons (pe_tup (pa_cons pe_str (pa_cons pe_str pa_nil))) pa_nil))) pss_no pss_nil)
      (pss_cons (ps_if (pw_and (pt_cmpR op_eq (pe_ix ix_tup (pv 1) pe_int (fun _ _ => rfl)) pe_str (nomark _)) (pw_and1 pt_nev)).pt pss_no pss_nil)
      (pss_cons (ps_set (i := 2) nd rfl (.inl rfl) (pe_meth (E := E0) (pv 0) (cls_PathReader T) (m_PathReader_read_axis T) GA (hr.mono (by omega)) bA .nil pass0 (pa_cons (pe_glob (v := .ref (He.ga K "AXES")) (by rfl) (g_AXES T) rfl) pa_nil)))
      (pss_one (ps_ret (pe_tup (pa_cons (pv 2) (pa_cons (pe_meth0 (E := E) (pv 0) (cls_PathReader T) (m_PathReader_read_test T) GT (hr.mono (by omega)) bT .nil (passes_call (takes_of rfl rfl rfl rfl) (fun _ _ _ _ h => h)))
        (pa_cons (pe_meth0 (E := E) (pv 0) (cls_PathReader T) (m_PathReader_read_predicates T) GR (hr.mono (by omega)) bR .nil (passes_call (takes_of rfl rfl rfl rfl) (fun _ _ _ _ h => h))) pa_nil))))))))), ?_⟩
    cases l with
    | nil => exact k.elim
    | cons t r =>
    unfold stN at k
    dsimp only at k
    cases hc : hsN [".", ".."] t || decide (t.1 = .num) || hsN ["@"] t || (decide (t.1 = .nam) && axesL.any fun wd => decide (tl wd = t.2.1)) with
    | true =>
      rw [hc, if_pos rfl] at k
      exact k.elim
    | false =>
      rw [hc, if_neg Bool.false_ne_true] at k
      rw [Bool.or_eq_false_iff, Bool.or_eq_false_iff, Bool.or_eq_false_iff] at hc
      obtain ⟨⟨⟨c1, c2⟩, c3⟩, c4⟩ := hc
      obtain ⟨j, h2⟩ := hp.rm
      refine ⟨_, rfl, d.r, d.dx, _, rfl, h2, pr_no (by decide +kernel), d, t, r, rfl, hp, fun a ha => ?_⟩
      refine ⟨_, rfl, d.r, d.dx, _, rfl, h2, pr_no (by decide +kernel), by decide, fun p hpn => ?_⟩
      have s1 := same_new hpn (o := .tup ([(".." : Str), "x"].map V.str))
      have s1 := same_new hpn (o := .tup ([("." : Str), ".."].map V.str))
      have hp1 := hp.same s1
      have h21 := s1 _ _ h2
      have m1 := MvR.same hp s1
      have ha1 := s1 _ _ ha
      refine ⟨d, t, r, p, [".", ".."], rfl, hp1, SqT.of upd_same, _, rfl, ?_⟩
      rw [c1]
      refine iteF ?_
      refine ⟨_, rfl, a, _, 0, _, rfl, rfl, SqT.of ha1, atI0 _ _, rfl, _, rfl, ?_⟩
      show if decide (V.str (kiS t.1) = V.str (Str.ofString "number")) = true then _ else _
      rw [kiS_lit t.1 .num, c2]
      refine iteF (iteF ?_)
      refine ⟨_, rfl, d.r, d.dx, _, rfl, h21, pr_no (by decide +kernel), d, t, r, _, rfl, hp1, hA2, c3, fun hn => by rw [hn] at c4; exact c4, fun H2 s2 => ?_⟩
      have m2 := m1.more s2
      obtain ⟨j2, h22⟩ := m2.2.rm
      refine ⟨_, rfl, _, rfl, d.r, d.dx, _, rfl, h22, pr_no (by decide +kernel), d, t :: r, rfl, m2.2, ?_⟩
      have k2 := rsC.mv hp m2 k
      cases hx : tsN d.z (t :: r) with
      | dk => rw [hx] at k2; exact k2.elim
      | no p => rw [hx] at k2; exact k2
      | ok l =>
        rw [hx] at k2
        intro H3 y3 mv3
        have m3 := m2.trans mv3
        obtain ⟨j3, h23⟩ := m3.2.rm
        have k3 : rsC K d H Q E (pdN ex d.z l) := by
          rw [hx] at k
          exact k
        cases l with
        | nil => exact k3.elim
        | cons u m =>
          unfold pdN at k3
          dsimp only at k3
          refine ⟨_, rfl, d.r, d.dx, _, rfl, h23, pr_no (by decide +kernel), d, u, m, rfl, m3.2, fun hs H4 q hq mv4 => ?_, fun hs => ?_⟩
          · rw [hs, if_neg Bool.false_ne_true] at k3
            exact ⟨(by show 3 ≤ sizeLine; decide), fun p5 hp5 => k3 _ _ ((m3.trans mv4).more (same_new hp5))⟩
          · rw [hs, if_pos rfl] at k3
            have k4 := rsC.mv hp m3 k3
            cases hy : prN ex d.z m with
            | dk => rw [hy] at k4; exact k4.elim
            | no p => rw [hy] at k4; exact k4
            | ok l =>
              rw [hy] at k4
              intro H4 y4 mv4
              exact ⟨(by show 3 ≤ sizeLine; decide), fun p5 hp5 => k4 _ _ (mv4.more (same_new hp5))⟩
end
end K20
/-! K20Rp -/
namespace K20
open PySem PySem.Spec PyProof.Rows L2 TL
def slashS : List Str := ["/", "//"]
def nsN : List Tk → Rs
  | v :: m => if hsN slashS v then .dk else .ok (v :: m)
  | [] => .dk
def ssN (ex : Str → List Tk → Rs) (z : Str) (l : List Tk) : Rs := (stN ex z l).bind nsN
def rsS (K : PySem.W.Frag) (d : Rd0) (S : Addr) (H0 : Hp) (Q : VK) (E : XK) : Rs → Prop
  | .dk => False
  | .ok r => ∀ H' ys, MvR K H0 H' d r → H' S = some (.lst ys) → Q (.ref S) H'
  | .no p => ∀ H' e, Fl H0 H' d.r e p → E (.ref (CN K)) (some e) H'
section
variable {P : Program} {w : World} {K : PySem.W.Frag} {mg : Str → Option Value} {base : Heap}
def spSs (K : PySem.W.Frag) (ex : Str → List Tk → Rs) : Sp := fun vs H Q E => ∃ (d : Rd0) (l : List Tk) (S : Addr) (H0 : Hp) (l0 : List Tk) (xs : List V), vs = [.ref d.r, .ref S] ∧ PR K H0 d l0 ∧ H0 S = none ∧ MvR K H0 H d l ∧ H S = some (.lst xs) ∧ xs.length ≤ 1000 ∧ rsS K d S H0 Q E (ssN ex d.z l)
theorem ok_read_steps (T : Tx w K mg) {e : Nat} (he : 4 ≤ e) {ex : Str → List Tk → Rs} (hE : Ok P w K mg base (L2.CX P w) e (He.fAd K d_PathReader_read_expression.at_) p_PathReader_read_expression (spRd K ex)) :
    Ok P w K mg base (L2.CX P w) (e + 3) (He.fAd K d_PathReader_read_steps.at_) p_PathReader_read_steps (spSs K ex) := by
  obtain ⟨fd, F⟩ := f_PathReader_read_steps T
  obtain ⟨fH, GH, bH, kH⟩ := ok_has_sign (P := P) (base := base) T
  obtain ⟨fR, GR, bR, kR⟩ := ok_read_step (P := P) (base := base) T he hE
  refine ⟨fd, ?_, b_PathReader_read_steps F, F.kp⟩
  refine F.ok sc_PathReader_read_steps (fun vs H Q E h => ?_) (fun cdv A outer s H vs Q E hr h => ?_)
  · obtain ⟨d, l, S, _, _, _, rfl, _⟩ := h
    rfl
  · obtain ⟨d, l, S, H0, l0, xs, rfl, hp0, hS0, m0, hS, hxl, k⟩ := h
    have nd := sc_PathReader_read_steps.nd
    refine ⟨_, pss_cons (ps_expr (pe_bm PySem.F.plainAttrs_list PySem.F.slot_list_append PySem.F.type_list_append mt_append (pv 1) (pa_cons (pe_meth0 (E := E) (pv 0) (cls_PathReader T) (m_PathReader_read_step T) GR (hr.mono (by omega)) bR .nil (passes_call (takes_of rfl rfl rfl rfl) (fun _ _ _ _ h => h))) pa_nil)))
      (pss_cons (ps_while (passes_of rfl) (pt_val (pe_meth (E := E0) (pv 0) (cls_PathReader T) (m_PathReader_has_sign T) GH (hr.mono (by omega)) bH .nil pass0 (pa_cons (pe_tup (pa_cons pe_str (pa_cons pe_str pa_nil))) pa_nil))) pss_no)
      (pss_one (ps_ret (pv 1)))), ?_⟩
    obtain ⟨j, h2⟩ := m0.2.rm
    have hSr : S ≠ d.r := fun e => by
      rw [e, h2] at hS
      cases hS
    refine ⟨_, rfl, .inl ⟨rfl, _, SqL.of hS⟩, _, rfl, d.r, d.dx, _, rfl, h2, pr_no (by decide +kernel), d, l, rfl, m0.2, ?_⟩
    have ek : ssN ex d.z l = (stN ex d.z l).bind nsN := rfl
    cases hx : stN ex d.z l with
    | dk => rw [ek, hx] at k; exact k.elim
    | no p =>
      rw [ek, hx] at k
      exact fun H' e f => k H' e (MvR.fl hp0 m0 f)
    | ok r =>
      rw [ek, hx] at k
      intro H1 y mv
      have hS1 := mv.1 _ _ hSr hS
      refine ⟨S, xs, y, rfl, rfl, hS1, by rw [sizeLine_eq]; omega, ?_⟩
      have m1 : MvR K H0 (upd H1 S (.lst (xs ++ [y]))) d r := (m0.trans mv).updN hp0 hS0
      have hS2 : upd H1 S (.lst (xs ++ [y])) S = some (.lst (xs ++ [y])) := upd_same
      cases r with
      | nil => exact k.elim
      | cons v m =>
        have en : (Rs.ok (v :: m)).bind nsN = if hsN slashS v then .dk else .ok (v :: m) := rfl
        rw [en] at k
        cases hs : hsN slashS v with
        | true =>
          rw [hs, if_pos rfl] at k
          exact k.elim
        | false =>
          rw [hs, if_neg Bool.false_ne_true] at k
          dsimp only [tSeq]
          refine while_x (fun mm σ H2 => mm = 0 ∧ σ = [some (.ref d.r), some (.ref S)] ∧ H2 = upd H1 S (.lst (xs ++ [y])))
            (fun σ H2 => σ = [some (.ref d.r), some (.ref S)] ∧ Same (upd H1 S (.lst (xs ++ [y]))) H2) ⟨0, rfl, rfl, rfl⟩ ?_ ?_
          · rintro σ H2 ⟨rfl, s2⟩
            exact ⟨_, rfl, k H2 _ (m1.more s2) (s2 _ _ hS2)⟩
          · rintro - mm σ H2 R ⟨rfl, rfl, rfl⟩ hfin hbody
            obtain ⟨j3, h23⟩ := m1.2.rm
            refine ⟨_, rfl, d.r, d.dx, _, rfl, h23, pr_no (by decide +kernel), by decide, fun p hpn => ?_⟩
            have s3 := same_new hpn (o := .tup (slashS.map V.str))
            refine ⟨d, v, m, p, slashS, rfl, m1.2.same s3, SqT.of upd_same, _, rfl, ?_⟩
            rw [hs]
            exact hfin _ ⟨rfl, s3⟩
end
end K20
/-! K20Rq -/
namespace K20
open PySem PySem.Spec PyProof.Rows L2 TL
theorem MvR.fresh {K : PySem.W.Frag} {H H' : Hp} {d : Rd0} {l m : List Tk} {b : Addr} (h0 : PR K H d l) (a : MvR K H H' d m) (h : H' b = none) : H b = none := a.1.free h0.ne a.2.ne h
section
variable {P : Program} {w : World} {K : PySem.W.Frag} {mg : Str → Option Value} {base : Heap}
def spSl (K : PySem.W.Frag) : Sp := fun vs H Q _ => ∃ (d : Rd0) (t : Tk) (r : List Tk), vs = [.ref d.r] ∧ PR K H d (t :: r) ∧ t.2.1 = [47] ∧ ∀ H' S, H' S = some (.lst []) → H S = none → MvR K H H' d r → Q (.ref S) H'
theorem ok_read_slash (T : Tx w K mg) : Ok P w K mg base CX0 2 (He.fAd K d_PathReader_read_slash.at_) p_PathReader_read_slash (spSl K) := by
  obtain ⟨fd, F⟩ := f_PathReader_read_slash T
  obtain ⟨fT, GT, bT, kT⟩ := ok_take (P := P) (base := base) T
  refine ⟨fd, ?_, b_PathReader_read_slash F, F.kp⟩
  refine F.ok sc_PathReader_read_slash (fun vs H Q E h => ?_) (fun cdv A outer s H vs Q E hr h => ?_)
  · obtain ⟨d, t, r, rfl, _⟩ := h
    rfl
  · obtain ⟨d, t, r, rfl, hp, ht, k⟩ := h
    refine ⟨_, PSs.nox (pss_one (ps_ret (pe_ifExp (pt_cmpR op_eq (pe_ix ix_tup (pe_meth0 (E := E0) (pv 0) (cls_PathReader T) (m_PathReader_take T) GT (hr.mono (by decide)) bT .nil pass0) pe_int (fun _ _ => rfl)) pe_str (nomark _)) pe_nev (pe_lst pa_nil)))), ?_⟩
    obtain ⟨j, h2⟩ := hp.rm
    refine ⟨_, rfl, d.r, d.dx, _, rfl, h2, pr_no (by decide +kernel), d, t, r, rfl, hp, fun H1 a ha mv => ?_⟩
    refine ⟨a, _, 1, _, rfl, rfl, SqT.of ha, atI1 _ _ _, rfl, _, rfl, ?_⟩
    show if decide (V.str (mkS t.2.1) = V.str (Str.ofString "//")) = true then _ else _
    rw [ht, show decide (V.str (mkS [47]) = V.str (Str.ofString "//")) = false by decide +kernel]
    refine iteF ?_
    exact ⟨by decide, fun S hS => k _ S upd_same (mv.fresh hp hS) (mv.more (same_new hS))⟩
def rtN : List Tk → Rs
  | t :: u :: m => if decide (t.2.1 = [47]) && !(decide (u.1 = .num) || decide (u.1 = .nam) || hsN stepS u) then .ok (u :: m) else .dk
  | _ => .dk
theorem ok_read_rooted (T : Tx w K mg) : Ok P w K mg base CX0 4 (He.fAd K d_PathReader_read_rooted.at_) p_PathReader_read_rooted (spRd K fun _ => rtN) := by
  obtain ⟨fd, F⟩ := f_PathReader_read_rooted T
  obtain ⟨fS, GS, bS, kS⟩ := ok_read_slash (P := P) (base := base) T
  obtain ⟨fB, GB, bB, kB⟩ := ok_begins_step (P := P) (base := base) T
  refine ⟨fd, ?_, b_PathReader_read_rooted F, F.kp⟩
  refine F.ok sc_PathReader_read_rooted (fun vs H Q E h => ?_) (fun cdv A outer s H vs Q E hr h => ?_)
  · obtain ⟨d, l, rfl, _⟩ := h
    rfl
  · obtain ⟨d, l, rfl, hp, k⟩ := h
    have nd := sc_PathReader_read_rooted.nd
    refine ⟨_, PSs.nox (pss_cons (ps_set (i := 1) nd rfl (.inl rfl) (pe_meth0 (E := E0) (pv 0) (cls_PathReader T) (m_PathReader_read_slash T) GS (hr.mono (by decide)) bS .nil pass0))
      (pss_cons (ps_if (pw_and (pt_cmpR (op_eqD hr.units) (pv 1) (pe_lst pa_nil) (nomark _)) (pw_and1 (pt_not (pt_val (pe_meth0 (E := E0) (pv 0) (cls_PathReader T) (m_PathReader_begins_step T) GB (hr.mono (by decide)) bB .nil pass0))))).pt
        (pss_one (ps_ret (pe_tup (pa_cons pe_str (pa_cons pe_str (pa_cons (pe_tup pa_nil) pa_nil)))))) pss_nil)
      pss_no)), ?_⟩
    match l, hp, k with
    | [], _, k => exact k.elim
    | [t], _, k => exact k.elim
    | t :: u :: m, hp, k =>
      unfold rtN at k
      dsimp only at k
      cases hc : decide (t.2.1 = [47]) && !(decide (u.1 = .num) || decide (u.1 = .nam) || hsN stepS u) with
      | false =>
        rw [hc, if_neg Bool.false_ne_true] at k
        exact k.elim
      | true =>
        rw [hc, if_pos rfl] at k
        rw [Bool.and_eq_true, Bool.not_eq_true', Bool.or_eq_false_iff, Bool.or_eq_false_iff] at hc
        obtain ⟨c1, ⟨c2, c3⟩, c4⟩ := hc
        obtain ⟨j, h2⟩ := hp.rm
        refine ⟨_, rfl, d.r, d.dx, _, rfl, h2, pr_no (by decide +kernel), d, t, u :: m, rfl, hp, of_decide_eq_true c1, fun H1 S hS hS0 m1 => ?_⟩
        refine ⟨_, rfl, by decide, fun p hpn => ?_⟩
        have s2 := same_new hpn (o := .lst [])
        have m2 := m1.more s2
        refine ⟨_, _, .lst (SqL.of (s2 _ _ hS)) .nil, .lst (SqL.of upd_same) .nil, by decide +kernel, by decide +kernel, true, rfl, ?_⟩
        refine iteT ?_
        obtain ⟨j2, h22⟩ := m2.2.rm
        refine ⟨_, rfl, d.r, d.dx, _, rfl, h22, pr_no (by decide +kernel), d, u, m, rfl, m2.2, of_decide_eq_false c2, fun H3 s3 => ?_⟩
        rw [c3, c4]
        refine ⟨_, rfl, ?_⟩
        refine iteT ?_
        have m3 := m2.more s3
        refine ⟨by decide, fun q5 hq5 => ?_⟩
        have m5 := m3.more (same_new hq5 (o := .tup []))
        exact ⟨(by show 3 ≤ sizeLine; decide), fun q6 hq6 => k _ _ (m5.more (same_new hq6))⟩
end
end K20
/-! K20Rr -/
namespace K20
open PySem PySem.Spec PyProof.Rows L2 TL
def bhN : List Tk → Rs
  | t :: r => if hsN ["["] t || hsN slashS t then .dk else .ok (t :: r)
  | [] => .dk
section
variable {P : Program} {w : World} {K : PySem.W.Frag} {mg : Str → Option Value} {base : Heap}
def spBh (K : PySem.W.Frag) : Sp := fun vs H Q E => ∃ (d : Rd0) (l : List Tk) (v : V), vs = [.ref d.r, v] ∧ PR K H d l ∧ rsC K d H Q E (bhN l)
theorem ok_read_behind (T : Tx w K mg) {e : Nat} (he : 4 ≤ e) {ex : Str → List Tk → Rs} (hE : Ok P w K mg base (L2.CX P w) e (He.fAd K d_PathReader_read_expression.at_) p_PathReader_read_expression (spRd K ex)) :
    Ok P w K mg base (L2.CX P w) (e + 2) (He.fAd K d_PathReader_read_behind.at_) p_PathReader_read_behind (spBh K) := by
  obtain ⟨fd, F⟩ := f_PathReader_read_behind T
  obtain ⟨fH, GH, bH, kH⟩ := ok_has_sign (P := P) (base := base) T
  obtain ⟨fR, GR, bR, kR⟩ := ok_read_predicates (P := P) (base := base) T he hE
  refine ⟨fd, ?_, b_PathReader_read_behind F, F.kp⟩
  refine F.ok sc_PathReader_read_behind (fun vs H Q E h => ?_) (fun cdv A outer s H vs Q E hr h => ?_)
  · obtain ⟨d, l, v, rfl, _⟩ := h
    rfl
  · obtain ⟨d, l, v, rfl, hp, k⟩ := h
    have nd := sc_PathReader_read_behind.nd
    refine ⟨_, pss_cons (ps_set (i := 2) nd rfl (.inl rfl) (pe_meth0 (E := E) (pv 0) (cls_PathReader T) (m_PathReader_read_predicates T) GR (hr.mono (by omega)) bR .nil (passes_call (takes_of rfl rfl rfl rfl) (fun _ _ _ _ h => h))))
      (pss_cons (ps_if (pt_cmpR (op_neD hr.units) (pv 2) (pe_tup pa_nil) (nomark _)) pss_no pss_nil)
      (pss_cons (ps_if (pt_not (pt_val (pe_meth (E := E0) (pv 0) (cls_PathReader T) (m_PathReader_has_sign T) GH (hr.mono (by omega)) bH .nil pass0 (pa_cons (pe_tup (pa_cons pe_str (pa_cons pe_str pa_nil))) pa_nil)))) (pss_one (ps_ret (pv 1))) pss_nil)
      pss_no)), ?_⟩
    cases l with
    | nil => exact k.elim
    | cons t r =>
      unfold bhN at k
      dsimp only at k
      cases hc : hsN ["["] t || hsN slashS t with
      | true =>
        rw [hc, if_pos rfl] at k
        exact k.elim
      | false =>
        rw [hc, if_neg Bool.false_ne_true] at k
        rw [Bool.or_eq_false_iff] at hc
        obtain ⟨c1, c2⟩ := hc
        obtain ⟨j, h2⟩ := hp.rm
        refine ⟨_, rfl, d.r, d.dx, _, rfl, h2, pr_no (by decide +kernel), d, t, r, rfl, hp, fun _ H1 q hq m1 => ?_, fun hs => by rw [c1] at hs; cases hs⟩
        refine ⟨_, rfl, by decide, fun p hpn => ?_⟩
        have s2 := same_new hpn (o := .tup [])
        have m2 := m1.more s2
        refine ⟨_, _, .tup (SqT.of (s2 _ _ hq)) .nil, .tup (SqT.of upd_same) .nil, by decide +kernel, by decide +kernel, false, rfl, ?_⟩
        refine iteF ?_
        obtain ⟨j2, h22⟩ := m2.2.rm
        refine ⟨_, rfl, d.r, d.dx, _, rfl, h22, pr_no (by decide +kernel), by decide, fun p3 hp3 => ?_⟩
        have s3 := same_new hp3 (o := .tup (slashS.map V.str))
        refine ⟨d, t, r, p3, slashS, rfl, m2.2.same s3, SqT.of upd_same, _, rfl, ?_⟩
        rw [c2]
        refine iteT ?_
        exact ⟨_, rfl, k _ _ (m2.more s3)⟩
end
end K20
/-! K20Rs -/
namespace K20
open PySem PySem.Spec PyProof.Rows L2 TL
def hdN (ws : List Str) : List Tk → Bool
  | t :: _ => hsN ws t
  | [] => false
def moreN (x : Int × Option Int) (n : Nat) (l : List Tk) : Bool := decide ((n : Int) < x.1) || (hdN [","] l && (match x.2 with | none => true | some m => decide ((n : Int) < m)))
def arN (ex : Str → List Tk → Rs) (z : Str) (x : Int × Option Int) : Nat → Nat → List Tk → Rs
  | _, _, [] => .dk
  | 0, _, _ => .dk
  | f + 1, n, l => if moreN x n l then ((xbN "," l).bind (ex z)).bind (arN ex z x f (n + 1)) else xbN ")" l
def exN (wd : Str) : List Tk → Rs
  | t :: r => if hsN [wd] t then .ok r else .no t.2.2
  | [] => .dk
def clN (ex : Str → List Tk → Rs) (z : Str) : List Tk → Rs
  | t :: _ :: u :: m => match fnLook t.2.1 with
    | none => .dk
    | some x => if decide (x.2 = some 0) || (decide (x.1 = 0) && hsN [")"] u) then exN ")" (u :: m) else (ex z (u :: m)).bind (arN ex z x 9 1)
  | _ => .dk
def optV : Option Int → V
  | none => .non
  | some i => .int i
theorem optV_eq (K : PySem.W.Frag) (o : Option Int) : (optD o).v K = optV o := by cases o <;> rfl
theorem bind_cases {K : PySem.W.Frag} {d : Rd0} {H H1 : Hp} {Q : VK} {E : XK} {r : Rs} {f : List Tk → Rs} {l0 l1 : List Tk} (h0 : PR K H d l0) (m : MvR K H H1 d l1) (h : rsC K d H Q E (r.bind f)) {Q' : VK} (k : ∀ l, r = .ok l → rsC K d H Q E (f l) → ∀ H2 y, MvR K H1 H2 d l → Q' y H2) : rsC K d H1 Q' E r := by
  cases r with
  | dk => exact h
  | no p => exact fun H' e fl => h H' e (MvR.fl h0 m fl)
  | ok l => exact fun H2 y mv => k l rfl h H2 y mv
section
variable {P : Program} {w : World} {K : PySem.W.Frag} {mg : Str → Option Value} {base : Heap}
theorem ok_read_call (T : Tx w K mg) {e : Nat} (he : 4 ≤ e) {ex : Str → List Tk → Rs} (hE : Ok P w K mg base (L2.CX P w) e (He.fAd K d_PathReader_read_expression.at_) p_PathReader_read_expression (spRd K ex)) :
    Ok P w K mg base (L2.CX P w) (e + 1) (He.fAd K d_PathReader_read_call.at_) p_PathReader_read_call (spRd K (clN ex)) := by
  obtain ⟨fd, F⟩ := f_PathReader_read_call T
  obtain ⟨fE, GE, bE, kE⟩ := hE
  obtain ⟨fT, GT, bT, kT⟩ := ok_take (P := P) (base := base) T
  obtain ⟨fH, GH, bH, kH⟩ := ok_has_sign (P := P) (base := base) T
  obtain ⟨fX, GX, bX, kX⟩ := ok_expect (P := P) (base := base) T
  obtain ⟨fY, GY, bY, kY⟩ := ok_expect_behind_operand (P := P) (base := base) T
  refine ⟨fd, ?_, b_PathReader_read_call F, F.kp⟩
  refine F.ok sc_PathReader_read_call (fun vs H Q E h => ?_) (fun cdv A outer s H vs Q E hr h => ?_)
  · obtain ⟨d, l, rfl, _⟩ := h
    rfl
  · obtain ⟨d, l, rfl, hp, k⟩ := h
    have nd := sc_PathReader_read_call.nd
    refine ⟨_, pss_cons (ps_set (i := 1) nd rfl (.inl rfl) (pe_ix ix_tup (pe_meth0 (E := E0) (pv 0) (cls_PathReader T) (m_PathReader_take T) GT (hr.mono (by omega)) bT .nil pass0) pe_int (fun _ _ => rfl)))
      (pss_cons (ps_expr (pe_meth0 (E := E0) (pv 0) (cls_PathReader T) (m_PathReader_take T) GT (hr.mono (by omega)) bT .nil pass0))
      (pss_cons (ps_asg (pe_ix ix_kdict (pe_glob (v := .ref (He.ga K "FUNCTIONS")) (by rfl) (g_FUNCTIONS T) rfl) (pv 1) (fun _ _ => rfl)) (pg_tup (by rfl) (pgs_cons (pg_name (i := 2) nd rfl (.inl rfl)) (pgs_cons (pg_name (i := 3) nd rfl (.inl rfl)) pgs_nil))))
      (Evl.pss_cut (ps_if (pw_or (pt_cmpR op_eq (pv 3) pe_int (nomark _)) (pw_or1 (pw_and (pt_cmpR op_eq (pv 2) pe_int (nomark _)) (pw_and1 (pt_val (pe_meth (E := E0) (pv 0) (cls_PathReader T) (m_PathReader_has_sign T) GH (hr.mono (by omega)) bH .nil pass0 (pa_cons (pe_tup (pa_cons pe_str pa_nil)) pa_nil))))).pt)).pt
        (pss_cons (ps_expr (pe_meth (E := E) (pv 0) (cls_PathReader T) (m_PathReader_expect T) GX (hr.mono (by omega)) bX .nil (passes_call (takes_of rfl rfl rfl rfl) (fun _ _ _ _ h => h)) (pa_cons pe_str pa_nil)))
          (pss_one (ps_ret (pe_tup (pa_cons pe_str (pa_cons (pv 1) (pa_cons (pe_tup pa_nil) pa_nil))))))) pss_nil)
      (pss_cons (ps_set (i := 4) nd rfl (.inl rfl) (pe_lst (pa_cons (pe_meth0 (E := E) (pv 0) (cls_PathReader T) (m_PathReader_read_expression T) GE (hr.mono (by omega)) bE .nil (passes_call (takes_of rfl rfl rfl rfl) (fun _ _ _ _ h => h))) pa_nil)))
      (pss_cons (ps_while (passes_of rfl) (pw_or (pt_cmpR op_lt (pe_callB call_len (by rfl) (n_len T) PySem.boot_len (pa_cons (pv 4) pa_nil)) (pv 2) (nomark _))
          (pw_or1 (pw_and (pt_val (pe_meth (E := E0) (pv 0) (cls_PathReader T) (m_PathReader_has_sign T) GH (hr.mono (by omega)) bH .nil pass0 (pa_cons (pe_tup (pa_cons pe_str pa_nil)) pa_nil)))
            (pw_and1 (pw_or (pt_cmpR op_isN (pv 3) pe_non (nomark _)) (pw_or1 (pt_cmpR op_lt (pe_callB call_len (by rfl) (n_len T) PySem.boot_len (pa_cons (pv 4) pa_nil)) (pv 3) (nomark _)))).pt)).pt)).pt
        (pss_cons (ps_expr (pe_meth (E := E) (pv 0) (cls_PathReader T) (m_PathReader_expect_behind_operand T) GY (hr.mono (by omega)) bY .nil (passes_call (takes_of rfl rfl rfl rfl) (fun _ _ _ _ h => h)) (pa_cons pe_str pa_nil)))
        (pss_one (ps_expr (pe_bm PySem.F.plainAttrs_list PySem.F.slot_list_append PySem.F.type_list_append mt_append (pv 4) (pa_cons (pe_meth0 (E := E) (pv 0) (cls_PathReader T) (m_PathReader_read_expression T) GE (hr.mono (by omega)) bE .nil (passes_call (takes_of rfl rfl rfl rfl) (fun _ _ _ _ h => h))) pa_nil))))))
      (pss_cons (ps_expr (pe_meth (E := E) (pv 0) (cls_PathReader T) (m_PathReader_expect_behind_operand T) GY (hr.mono (by omega)) bY .nil (passes_call (takes_of rfl rfl rfl rfl) (fun _ _ _ _ h => h)) (pa_cons pe_str pa_nil)))
      (pss_one (ps_ret (pe_tup (pa_cons pe_str (pa_cons (pv 1) (pa_cons (pe_tupleOf (by rfl) (n_tuple T) (pv 4)) pa_nil))))))))))))
      , ?_⟩
    match l, hp, k with
    | [], _, k => exact k.elim
    | [t], _, k => exact k.elim
    | [t, t2], _, k => exact k.elim
    | t :: t2 :: u :: m, hp, k =>
      unfold clN at k
      dsimp only at k
      cases hf : fnLook t.2.1 with
      | none => rw [hf] at k; exact k.elim
      | some x =>
        rw [hf] at k
        dsimp only at k
        obtain ⟨uu, e1, e2⟩ := fn_in T hf
        obtain ⟨es, n, D⟩ := He.dicW_ok T.tabF
        have sq := tup_of e2 (by show 2 ≤ sizeLine; decide)
        obtain ⟨j, h2⟩ := hp.rm
        refine ⟨_, rfl, d.r, d.dx, _, rfl, h2, pr_no (by decide +kernel), d, t, t2 :: u :: m, rfl, hp, fun H1 a ha m1 => ⟨a, _, 1, _, rfl, rfl, SqT.of ha, atI1 _ _ _, ?_⟩⟩
        obtain ⟨j1, h21⟩ := m1.2.rm
        refine ⟨_, rfl, d.r, d.dx, _, rfl, h21, pr_no (by decide +kernel), d, t2, u :: m, rfl, m1.2, fun H2 b hb mv2 => ?_⟩
        have m2 := m1.trans mv2
        refine ⟨_, rfl, He.ga K "FUNCTIONS", mkS t.2.1, .ref uu, rfl, rfl, ⟨es, n, .ref uu, D.at_, D.lit, e1, rfl⟩, uu, _, rfl, sq _, rfl, _, _, rfl, _, _, rfl, rfl, ?_⟩
        have mv0 : ∀ y, He.Dv.v K (optD y) = optV y := optV_eq K
        refine ⟨fun σ H3 => σ = [some (.ref d.r), some (.str (mkS t.2.1)), some (.int x.1), some (optV x.2), none] ∧ MvR K H H3 d (u :: m) ∧ rsC K d H Q E ((ex d.z (u :: m)).bind (arN ex d.z x 9 1)), ?_, ?_⟩
        · have hsc : scal ((optD x.2).v K) (.int 0) = true := by cases x.2 <;> rfl
          have hdc : decide ((optD x.2).v K = V.int 0) = decide (x.2 = some 0) := by
            cases x.2 with
            | none => rfl
            | some i =>
              show decide (V.int i = V.int 0) = decide (some i = some 0)
              by_cases h : i = 0
              · rw [h]
                rfl
              · rw [decide_eq_false (fun q => h (V.int.inj q)), decide_eq_false (fun q => h (Option.some.inj q))]
          have hdl : decide (V.int x.1 = V.int 0) = decide (x.1 = 0) := by
            by_cases h : x.1 = 0
            · rw [h]
              rfl
            · rw [decide_eq_false (fun q => h (V.int.inj q)), decide_eq_false h]
          have xk : ∀ H3, MvR K H H3 d (u :: m) → rsC K d H Q E (exN ")" (u :: m)) → (hsN [Str.ofString ")"] u = true → spVal K d m H Q) ∧ (hsN [Str.ofString ")"] u = false → ∀ H' e, Fl H H' d.r e u.2.2 → E (.ref (CN K)) (some e) H') := by
            intro H3 _ hh
            unfold exN at hh
            dsimp only at hh
            refine ⟨fun e => ?_, fun e => ?_⟩
            · rw [e, if_pos rfl] at hh
              exact hh
            · rw [e, if_neg Bool.false_ne_true] at hh
              exact hh
          obtain ⟨j2, h22⟩ := m2.2.rm
          refine ⟨_, rfl, hsc, _, rfl, ?_⟩
          show if decide ((optD x.2).v K = V.int 0) = true then _ else _
          rw [hdc]
          cases c1 : decide (x.2 = some 0) with
          | true =>
            rw [c1, Bool.true_or, if_pos rfl] at k
            obtain ⟨q1, q0⟩ := xk _ m2 k
            refine iteT (iteT ?_)
            refine ⟨_, rfl, d.r, d.dx, _, rfl, h22, pr_no (by decide +kernel), d, u, m, _, rfl, m2.2, fun hs H4 mv4 => ?_, fun hs H4 e fl => q0 hs H4 e (MvR.fl hp m2 fl)⟩
            refine ⟨_, rfl, by decide, fun p5 hp5 => ?_⟩
            have m5 := (m2.trans mv4).more (same_new hp5 (o := .tup []))
            exact ⟨(by show 3 ≤ sizeLine; decide), fun p6 hp6 => q1 hs _ _ (m5.more (same_new hp6))⟩
          | false =>
            rw [c1, Bool.false_or] at k
            refine iteF ?_
            refine ⟨_, rfl, rfl, _, rfl, ?_⟩
            show if decide (V.int x.1 = V.int 0) = true then _ else _
            rw [hdl]
            cases c2 : decide (x.1 = 0) with
            | false =>
              rw [c2, Bool.false_and, if_neg Bool.false_ne_true] at k
              refine iteF (iteF ?_)
              exact ⟨by rw [← optV_eq K]; rfl, m2, k⟩
            | true =>
              rw [c2, Bool.true_and] at k
              refine iteT ?_
              refine ⟨_, rfl, d.r, d.dx, _, rfl, h22, pr_no (by decide +kernel), by decide, fun p3 hp3 => ?_⟩
              have s3 := same_new hp3 (o := .tup ([(")" : Str)].map V.str))
              have m3 := m2.more s3
              obtain ⟨j3, h23⟩ := m3.2.rm
              refine ⟨d, u, m, p3, [")"], rfl, m3.2, SqT.of upd_same, _, rfl, ?_⟩
              cases c3 : hsN [")"] u with
              | false =>
                rw [c3, if_neg Bool.false_ne_true] at k
                refine iteF ?_
                exact ⟨by rw [← optV_eq K]; rfl, m3, k⟩
              | true =>
                rw [c3, if_pos rfl] at k
                obtain ⟨q1, q0⟩ := xk _ m3 k
                refine iteT ?_
                refine ⟨_, rfl, d.r, d.dx, _, rfl, h23, pr_no (by decide +kernel), d, u, m, _, rfl, m3.2, fun hs H4 mv4 => ?_, fun hs H4 e fl => q0 hs H4 e (MvR.fl hp m3 fl)⟩
                refine ⟨_, rfl, by decide, fun p5 hp5 => ?_⟩
                have m5 := (m3.trans mv4).more (same_new hp5 (o := .tup []))
                exact ⟨(by show 3 ≤ sizeLine; decide), fun p6 hp6 => q1 hs _ _ (m5.more (same_new hp6))⟩
        · rintro σ H3 ⟨rfl, m3, k3⟩
          obtain ⟨j3, h23⟩ := m3.2.rm
          refine ⟨_, rfl, d.r, d.dx, _, rfl, h23, pr_no (by decide +kernel), d, u :: m, rfl, m3.2, ?_⟩
          refine bind_cases hp m3 k3 fun l5 hx5 k5 H5 y mv5 => ?_
          have m5 := m3.trans mv5
          refine ⟨(by show 1 ≤ sizeLine; decide), fun L hL => ?_⟩
          have hL0 : H L = none := m5.fresh hp hL
          have m6 : MvR K H (upd H5 L (.lst [y])) d l5 := m5.updN hp hL0
          have h6 : upd H5 L (.lst [y]) L = some (.lst [y]) := upd_same
          have hLr : L ≠ d.r := fun e => by
            obtain ⟨j5, h25⟩ := m5.2.rm
            rw [e, h25] at hL
            cases hL
          dsimp only [tSeq]
          refine while_x (fun mm σ H7 => σ = [some (.ref d.r), some (.str (mkS t.2.1)), some (.int x.1), some (optV x.2), some (.ref L)] ∧ ∃ (l : List Tk) (xs : List V), MvR K H H7 d l ∧ H7 L = some (.lst xs) ∧ xs.length + mm ≤ 10 ∧ rsC K d H Q E (arN ex d.z x mm xs.length l))
            (fun σ H7 => σ = [some (.ref d.r), some (.str (mkS t.2.1)), some (.int x.1), some (optV x.2), some (.ref L)] ∧ ∃ (l : List Tk) (xs : List V), MvR K H H7 d l ∧ H7 L = some (.lst xs) ∧ rsC K d H Q E (xbN ")" l))
            ⟨9, rfl, l5, [y], m6, h6, by show 1 + 9 ≤ 10; omega, k5⟩ ?_ ?_
          · rintro σ H7 ⟨rfl, l, xs, m7, h7, k7⟩
            obtain ⟨j7, h27⟩ := m7.2.rm
            obtain ⟨u7, r7, rfl, q1, q0⟩ := xb_of (rsC.mv hp m7 k7)
            refine ⟨_, rfl, d.r, d.dx, _, rfl, h27, pr_no (by decide +kernel), d, u7, r7, _, rfl, m7.2, fun hs H8 mv8 => ?_, q0⟩
            have h8 := mv8.1 _ _ hLr h7
            exact ⟨_, rfl, _, rfl, .inl ⟨L, _, rfl, SqL.of h8, fun p9 hp9 => ⟨(by show 3 ≤ sizeLine; decide), fun p10 hp10 => q1 hs _ _ ((mv8.more (same_new hp9)).more (same_new hp10))⟩⟩⟩
          · rintro - mm σ H7 R ⟨rfl, l, xs, m7, h7, hn7, k7⟩ hfin hbody
            obtain ⟨j7, h27⟩ := m7.2.rm
            cases l with
            | nil => cases mm <;> exact k7.elim
            | cons u7 r7 =>
              cases mm with
              | zero => exact k7.elim
              | succ f =>
                have ea : arN ex d.z x (f + 1) xs.length (u7 :: r7) = if moreN x xs.length (u7 :: r7) then ((xbN "," (u7 :: r7)).bind (ex d.z)).bind (arN ex d.z x f (xs.length + 1)) else xbN ")" (u7 :: r7) := rfl
                rw [ea] at k7
                refine ⟨_, rfl, _, _, rfl, .inl ⟨xs, SqL.of h7, rfl⟩, _, rfl, _, _, rfl, rfl, _, rfl, ?_⟩
                show if decide (((xs.length : Nat) : Int) < x.1) = true then _ else _
                have em : moreN x xs.length (u7 :: r7) = (decide (((xs.length : Nat) : Int) < x.1) || (hsN [","] u7 && (match x.2 with | none => true | some m => decide (((xs.length : Nat) : Int) < m)))) := rfl
                rw [em] at k7
                cases c1 : decide (((xs.length : Nat) : Int) < x.1) with
                | true =>
                  rw [c1, Bool.true_or, if_pos rfl] at k7
                  refine iteT ?_
                  refine hbody _ ?_
                  refine ⟨_, rfl, d.r, d.dx, _, rfl, h27, pr_no (by decide +kernel), ?_⟩
                  have kx := k7
                  have kb : rsC K d H Q E ((xbN "," (u7 :: r7)).bind fun l => ((ex d.z l).bind (arN ex d.z x f (xs.length + 1)))) := by
                    cases hq : xbN "," (u7 :: r7) with
                    | dk => rw [hq] at kx; exact kx
                    | no p => rw [hq] at kx; exact kx
                    | ok l => rw [hq] at kx; exact kx
                  obtain ⟨u8, r8, e8, q1, q0⟩ := xb_of (bind_cases hp m7 kb (Q' := fun _ H9 => ∀ l, xbN "," (u7 :: r7) = .ok l → rsC K d H Q E ((ex d.z l).bind (arN ex d.z x f (xs.length + 1)))) fun l hl k9 H9 y9 mv9 l' hl' => by
                    rw [hl] at hl'
                    cases hl'
                    exact k9)
                  cases e8
                  refine ⟨d, u7, r7, _, rfl, m7.2, fun hs9 H9 mv9 => ?_, q0⟩
                  have k9 := q1 hs9 H9 .non mv9 r7 (by unfold xbN; dsimp only; rw [hs9, if_pos rfl])
                  have m9 := m7.trans mv9
                  have h9 := mv9.1 _ _ hLr h7
                  obtain ⟨j9, h29⟩ := m9.2.rm
                  refine ⟨_, rfl, .inl ⟨rfl, _, SqL.of h9⟩, _, rfl, d.r, d.dx, _, rfl, h29, pr_no (by decide +kernel), d, r7, rfl, m9.2, ?_⟩
                  refine bind_cases hp m9 k9 fun l10 hx10 k10 H10 y10 mv10 => ?_
                  have m10 := m9.trans mv10
                  have h10 := mv10.1 _ _ hLr h9
                  refine ⟨L, xs, y10, rfl, rfl, h10, by rw [sizeLine_eq]; omega, ?_⟩
                  have hlx : (xs ++ [y10]).length = xs.length + 1 := by rw [List.length_append]; rfl
                  exact ⟨f, by omega, rfl, l10, xs ++ [y10], m10.updN hp hL0, upd_same, by rw [hlx]; omega, by rw [hlx]; exact k10⟩
                | false =>
                  rw [c1, Bool.false_or] at k7
                  refine iteF ?_
                  refine ⟨_, rfl, d.r, d.dx, _, rfl, h27, pr_no (by decide +kernel), by decide, fun p8 hp8 => ?_⟩
                  have s8 := same_new hp8 (o := .tup ([("," : Str)].map V.str))
                  have m8 := m7.more s8
                  have h8 := s8 _ _ h7
                  obtain ⟨j8, h28⟩ := m8.2.rm
                  refine ⟨d, u7, r7, p8, [","], rfl, m8.2, SqT.of upd_same, _, rfl, ?_⟩
                  cases c2 : hsN [","] u7 with
                  | false =>
                    rw [c2, Bool.false_and, if_neg Bool.false_ne_true] at k7
                    refine iteF ?_
                    exact hfin _ ⟨rfl, _, xs, m8, h8, k7⟩
                  | true =>
                    rw [c2, Bool.true_and] at k7
                    refine iteT ?_
                    refine ⟨_, rfl, rfl, _, rfl, ?_⟩
                    show if decide (optV x.2 = V.non) = true then _ else _
                    cases c3 : x.2 with
                    | none =>
                      rw [c3] at k7
                      dsimp only at k7
                      rw [if_pos rfl] at k7
                      refine iteT ?_
                      refine hbody _ ?_
                      refine ⟨_, rfl, d.r, d.dx, _, rfl, h28, pr_no (by decide +kernel), ?_⟩
                      have kx := k7
                      have kb : rsC K d H Q E ((xbN "," (u7 :: r7)).bind fun l => ((ex d.z l).bind (arN ex d.z x f (xs.length + 1)))) := by
                        cases hq : xbN "," (u7 :: r7) with
                        | dk => rw [hq] at kx; exact kx
                        | no p => rw [hq] at kx; exact kx
                        | ok l => rw [hq] at kx; exact kx
                      obtain ⟨u8, r8, e8, q1, q0⟩ := xb_of (bind_cases hp m8 kb (Q' := fun _ H9 => ∀ l, xbN "," (u7 :: r7) = .ok l → rsC K d H Q E ((ex d.z l).bind (arN ex d.z x f (xs.length + 1)))) fun l hl k9 H9 y9 mv9 l' hl' => by
                        rw [hl] at hl'
                        cases hl'
                        exact k9)
                      cases e8
                      refine ⟨d, u7, r7, _, rfl, m8.2, fun hs9 H9 mv9 => ?_, q0⟩
                      have k9 := q1 hs9 H9 .non mv9 r7 (by unfold xbN; dsimp only; rw [hs9, if_pos rfl])
                      have m9 := m8.trans mv9
                      have h9 := mv9.1 _ _ hLr h8
                      obtain ⟨j9, h29⟩ := m9.2.rm
                      refine ⟨_, rfl, .inl ⟨rfl, _, SqL.of h9⟩, _, rfl, d.r, d.dx, _, rfl, h29, pr_no (by decide +kernel), d, r7, rfl, m9.2, ?_⟩
                      refine bind_cases hp m9 k9 fun l10 hx10 k10 H10 y10 mv10 => ?_
                      have m10 := m9.trans mv10
                      have h10 := mv10.1 _ _ hLr h9
                      refine ⟨L, xs, y10, rfl, rfl, h10, by rw [sizeLine_eq]; omega, ?_⟩
                      have hlx : (xs ++ [y10]).length = xs.length + 1 := by rw [List.length_append]; rfl
                      exact ⟨f, by omega, rfl, l10, xs ++ [y10], m10.updN hp hL0, upd_same, by rw [hlx]; omega, by rw [hlx]; exact k10⟩
                    | some mx =>
                      rw [c3] at k7
                      replace k7 : rsC K d H Q E (if decide (((xs.length : Nat) : Int) < mx) = true then ((xbN "," (u7 :: r7)).bind (ex d.z)).bind (arN ex d.z x f (xs.length + 1)) else xbN ")" (u7 :: r7)) := k7
                      refine iteF ?_
                      refine ⟨_, rfl, _, _, rfl, .inl ⟨xs, SqL.of h8, rfl⟩, _, rfl, _, _, rfl, rfl, _, rfl, ?_⟩
                      show R (decide (((xs.length : Nat) : Int) < mx)) _
                      cases c4 : decide (((xs.length : Nat) : Int) < mx) with
                      | false =>
                        rw [c4, if_neg Bool.false_ne_true] at k7
                        exact hfin _ ⟨by rw [c3], _, xs, m8, h8, k7⟩
                      | true =>
                        rw [c4, if_pos rfl] at k7
                        refine hbody _ ?_
                        refine ⟨_, rfl, d.r, d.dx, _, rfl, h28, pr_no (by decide +kernel), ?_⟩
                        have kx := k7
                        have kb : rsC K d H Q E ((xbN "," (u7 :: r7)).bind fun l => ((ex d.z l).bind (arN ex d.z x f (xs.length + 1)))) := by
                          cases hq : xbN "," (u7 :: r7) with
                          | dk => rw [hq] at kx; exact kx
                          | no p => rw [hq] at kx; exact kx
                          | ok l => rw [hq] at kx; exact kx
                        obtain ⟨u8, r8, e8, q1, q0⟩ := xb_of (bind_cases hp m8 kb (Q' := fun _ H9 => ∀ l, xbN "," (u7 :: r7) = .ok l → rsC K d H Q E ((ex d.z l).bind (arN ex d.z x f (xs.length + 1)))) fun l hl k9 H9 y9 mv9 l' hl' => by
                          rw [hl] at hl'
                          cases hl'
                          exact k9)
                        cases e8
                        refine ⟨d, u7, r7, _, rfl, m8.2, fun hs9 H9 mv9 => ?_, q0⟩
                        have k9 := q1 hs9 H9 .non mv9 r7 (by unfold xbN; dsimp only; rw [hs9, if_pos rfl])
                        have m9 := m8.trans mv9
                        have h9 := mv9.1 _ _ hLr h8
                        obtain ⟨j9, h29⟩ := m9.2.rm
                        refine ⟨_, rfl, .inl ⟨rfl, _, SqL.of h9⟩, _, rfl, d.r, d.dx, _, rfl, h29, pr_no (by decide +kernel), d, r7, rfl, m9.2, ?_⟩
                        refine bind_cases hp m9 k9 fun l10 hx10 k10 H10 y10 mv10 => ?_
                        have m10 := m9.trans mv10
                        have h10 := mv10.1 _ _ hLr h9
                        refine ⟨L, xs, y10, rfl, rfl, h10, by rw [sizeLine_eq]; omega, ?_⟩
                        have hlx : (xs ++ [y10]).length = xs.length + 1 := by rw [List.length_append]; rfl
                        exact ⟨f, by omega, rfl, l10, xs ++ [y10], m10.updN hp hL0, upd_same, by rw [hlx]; omega, by rw [hlx]; exact k10⟩
end
end K20
/-! K20Rt -/
namespace K20
open PySem PySem.Spec PyProof.Rows L2 TL
def varN (z : Str) (t : Tk) : List Tk → Rs
  | u :: m => if decide (u.1 = .nam) && (decide (u.2.2 = t.2.2 + 1) && !colN z u) then bhN m else .dk
  | [] => .dk
def litB (k : Ki) : Bool := decide (k = .txt) || (decide (k = .num) || decide (k = .opn))
def opN (ex : Str → List Tk → Rs) (z : Str) : List Tk → Rs
  | t :: r =>
    if litB t.1 then (if decide (t.1 = .txt) || (decide (t.1 = .num) && (decide (t.2.1 = [49]) || decide (t.2.1 = [50]))) then bhN r else .dk)
    else if hsN ["("] t then .dk
    else if hsN ["$"] t then varN z t r
    else if decide (t.1 = .nam) && r.isEmpty then .dk
    else if isCallN t r then (clN ex z (t :: r)).bind bhN
    else if hsN slashS t then rtN (t :: r)
    else ssN ex z (t :: r)
  | [] => .dk
theorem inV_lit (k : Ki) : inV (.str (kiS k)) [.str (Str.ofString "text"), .str (Str.ofString "number"), .str (Str.ofString "open")] = litB k := by
  cases k <;> decide +kernel
section
variable {P : Program} {w : World} {K : PySem.W.Frag} {mg : Str → Option Value} {base : Heap}
theorem ok_read_operand (T : Tx w K mg) {e : Nat} (he : 4 ≤ e) {ex : Str → List Tk → Rs} (hE : Ok P w K mg base (L2.CX P w) e (He.fAd K d_PathReader_read_expression.at_) p_PathReader_read_expression (spRd K ex)) :
    Ok P w K mg base (L2.CX P w) (e + 4) (He.fAd K d_PathReader_read_operand.at_) p_PathReader_read_operand (spRd K (opN ex)) := by
  obtain ⟨fd, F⟩ := f_PathReader_read_operand T
  obtain ⟨fP, GP, bP, kP⟩ := ok_peek (P := P) (base := base) T
  obtain ⟨fH, GH, bH, kH⟩ := ok_has_sign (P := P) (base := base) T
  obtain ⟨fL, GL, bL, kL⟩ := ok_read_literal (P := P) (base := base) T
  obtain ⟨fB, GB, bB, kB⟩ := ok_read_behind (P := P) (base := base) T he hE
  obtain ⟨fV, GV, bV, kV⟩ := ok_read_variable (P := P) (base := base) T
  obtain ⟨fI, GI, bI, kI⟩ := ok_is_call (P := P) (base := base) T
  obtain ⟨fC, GC, bC, kC⟩ := ok_read_call (P := P) (base := base) T he hE
  obtain ⟨fR, GR, bR, kR⟩ := ok_read_rooted (P := P) (base := base) T
  obtain ⟨fS, GS, bS, kS⟩ := ok_read_steps (P := P) (base := base) T he hE
  refine ⟨fd, ?_, b_PathReader_read_operand F, F.kp⟩
  refine F.ok sc_PathReader_read_operand (fun vs H Q E h => ?_) (fun cdv A outer s H vs Q E hr h => ?_)
  · obtain ⟨d, l, rfl, _⟩ := h
    rfl
  · obtain ⟨d, l, rfl, hp, k⟩ := h
    have nd := sc_PathReader_read_operand.nd
    refine ⟨_, pss_cons (ps_set (i := 1) nd rfl (.inl rfl) (pe_meth0 (E := E0) (pv 0) (cls_PathReader T) (m_PathReader_peek T) GP (hr.mono (by omega)) bP .nil pass0))
      (pss_cons (ps_if (pt_cmpR op_in_seq (pe_ix ix_tup (pv 1) pe_int (fun _ _ => rfl)) (pe_tup (pa_cons pe_str (pa_cons pe_str (pa_cons pe_str pa_nil)))) (by rfl))
        (pss_one (ps_ret (pe_meth (E := E) (pv 0) (cls_PathReader T) (m_PathReader_read_behind T) GB (hr.mono (by omega)) bB .nil (passes_call (takes_of rfl rfl rfl rfl) (fun _ _ _ _ h => h)) (pa_cons (pe_meth0 (E := E0) (pv 0) (cls_PathReader T) (m_PathReader_read_literal T) GL (hr.mono (by omega)) bL .nil pass0) pa_nil)))) pss_nil)
      (pss_cons (ps_if (pt_val (pe_meth (E := E0) (pv 0) (cls_PathReader T) (m_PathReader_has_sign T) GH (hr.mono (by omega)) bH .nil pass0 (pa_cons (pe_tup (pa_cons pe_str pa_nil)) pa_nil))) pss_no pss_nil)
      (pss_cons (ps_if (pw_and (pt_val (pe_meth (E := E0) (pv 0) (cls_PathReader T) (m_PathReader_has_sign T) GH (hr.mono (by omega)) bH .nil pass0 (pa_cons (pe_tup (pa_cons pe_str pa_nil)) pa_nil))) (pw_and1 (pt_not (pt_val (pe_fld (pv 0) rfl))))).pt
        (pss_one (ps_ret (pe_meth (E := E) (pv 0) (cls_PathReader T) (m_PathReader_read_behind T) GB (hr.mono (by omega)) bB .nil (passes_call (takes_of rfl rfl rfl rfl) (fun _ _ _ _ h => h)) (pa_cons (pe_meth0 (E := E0) (pv 0) (cls_PathReader T) (m_PathReader_read_variable T) GV (hr.mono (by omega)) bV .nil pass0) pa_nil)))) pss_nil)
      (pss_cons (ps_if (pt_val (pe_meth0 (E := E0) (pv 0) (cls_PathReader T) (m_PathReader_is_call T) GI (hr.mono (by omega)) bI .nil pass0))
        (pss_one (ps_ret (pe_meth (E := E) (pv 0) (cls_PathReader T) (m_PathReader_read_behind T) GB (hr.mono (by omega)) bB .nil (passes_call (takes_of rfl rfl rfl rfl) (fun _ _ _ _ h => h)) (pa_cons (pe_meth0 (E := E) (pv 0) (cls_PathReader T) (m_PathReader_read_call T) GC (hr.mono (by omega)) bC .nil (passes_call (takes_of rfl rfl rfl rfl) (fun _ _ _ _ h => h))) pa_nil)))) pss_nil)
      (pss_cons (ps_if (pt_val (pe_meth (E := E0) (pv 0) (cls_PathReader T) (m_PathReader_has_sign T) GH (hr.mono (by omega)) bH .nil pass0 (pa_cons (pe_tup (pa_cons pe_str (pa_cons pe_str pa_nil))) pa_nil)))
        (pss_one (ps_ret (pe_meth0 (E := E0) (pv 0) (cls_PathReader T) (m_PathReader_read_rooted T) GR (hr.mono (by omega)) bR .nil pass0))) pss_nil)
      (pss_one (ps_ret (pe_tup (pa_cons pe_str (pa_cons pe_non (pa_cons (pe_tupleOf (by rfl) (n_tuple T) (pe_meth (E := E) (pv 0) (cls_PathReader T) (m_PathReader_read_steps T) GS (hr.mono (by omega)) bS .nil (passes_call (takes_of rfl rfl rfl rfl) (fun _ _ _ _ h => h)) (pa_cons (pe_lst pa_nil) pa_nil))) pa_nil))))))))))), ?_⟩
    cases l with
    | nil => exact k.elim
    | cons t r =>
    unfold opN at k
    dsimp only at k
    obtain ⟨j, h2⟩ := hp.rm
    refine ⟨_, rfl, d.r, d.dx, _, rfl, h2, pr_no (by decide +kernel), d, t, r, rfl, hp, fun a ha => ?_⟩
    refine ⟨_, rfl, a, _, 0, _, rfl, rfl, SqT.of ha, atI0 _ _, (by decide), fun p1 hp1 => ⟨p1, _, rfl, .inr (SqT.of upd_same), rfl, rfl, ?_⟩⟩
    rw [if_neg Bool.false_ne_true]
    refine ⟨_, rfl, ?_⟩
    rw [inV_lit]
    have m1 := MvR.same hp (same_new hp1 (o := .tup [.str (Str.ofString "text"), .str (Str.ofString "number"), .str (Str.ofString "open")]))
    obtain ⟨j1, h21⟩ := m1.2.rm
    cases c1 : litB t.1 with
    | true =>
      rw [c1, if_pos rfl] at k
      refine iteT ?_
      cases c2 : decide (t.1 = .txt) || (decide (t.1 = .num) && (decide (t.2.1 = [49]) || decide (t.2.1 = [50]))) with
      | false =>
        rw [c2, if_neg Bool.false_ne_true] at k
        exact k.elim
      | true =>
        rw [c2, if_pos rfl] at k
        have hl : litOk t := by
          simp only [Bool.or_eq_true, Bool.and_eq_true, decide_eq_true_eq] at c2
          rcases c2 with h | h
          · exact .inr h
          · exact .inl h
        refine ⟨_, rfl, d.r, d.dx, _, rfl, h21, pr_no (by decide +kernel), _, rfl, d.r, d.dx, _, rfl, h21, pr_no (by decide +kernel), d, t, r, rfl, m1.2, hl, fun H2 y mv => ?_⟩
        have m2 := m1.trans mv
        exact ⟨d, r, y, rfl, m2.2, rsC.mv hp m2 k⟩
    | false =>
      rw [c1, if_neg Bool.false_ne_true] at k
      refine iteF ?_
      refine ⟨_, rfl, d.r, d.dx, _, rfl, h21, pr_no (by decide +kernel), by decide, fun p2 hp2 => ?_⟩
      have m2 := m1.more (same_new hp2 (o := .tup ([("(" : Str)].map V.str)))
      obtain ⟨j2, h22⟩ := m2.2.rm
      refine ⟨d, t, r, p2, ["("], rfl, m2.2, SqT.of upd_same, _, rfl, ?_⟩
      cases c2 : hsN ["("] t with
      | true =>
        rw [c2, if_pos rfl] at k
        exact k.elim
      | false =>
        rw [c2, if_neg Bool.false_ne_true] at k
        refine iteF ?_
        refine ⟨_, rfl, d.r, d.dx, _, rfl, h22, pr_no (by decide +kernel), by decide, fun p3 hp3 => ?_⟩
        have m3 := m2.more (same_new hp3 (o := .tup ([("$" : Str)].map V.str)))
        obtain ⟨j3, h23⟩ := m3.2.rm
        refine ⟨d, t, r, p3, ["$"], rfl, m3.2, SqT.of upd_same, _, rfl, ?_⟩
        cases c3 : hsN ["$"] t with
        | true =>
          rw [c3, if_pos rfl] at k
          refine iteT ?_
          refine ⟨_, rfl, d.r, CP K, d.dx, _, _, rfl, h23, cls_PathReader T, na_PathReader_closed T, pr_closed, _, rfl, ?_⟩
          refine iteT ?_
          cases r with
          | nil => exact k.elim
          | cons u m =>
            unfold varN at k
            dsimp only at k
            cases c4 : decide (u.1 = .nam) && (decide (u.2.2 = t.2.2 + 1) && !colN d.z u) with
            | false =>
              rw [c4, if_neg Bool.false_ne_true] at k
              exact k.elim
            | true =>
              rw [c4, if_pos rfl] at k
              rw [Bool.and_eq_true, Bool.and_eq_true, Bool.not_eq_true'] at c4
              obtain ⟨v1, v2, v3⟩ := c4
              refine ⟨_, rfl, d.r, d.dx, _, rfl, h23, pr_no (by decide +kernel), _, rfl, d.r, d.dx, _, rfl, h23, pr_no (by decide +kernel), d, t, u, m, rfl, m3.2, of_decide_eq_true v1, of_decide_eq_true v2, v3, fun H4 y mv => ?_⟩
              have m4 := m3.trans mv
              exact ⟨d, m, y, rfl, m4.2, rsC.mv hp m4 k⟩
        | false =>
          rw [c3, if_neg Bool.false_ne_true] at k
          refine iteF (iteF ?_)
          cases c4 : decide (t.1 = .nam) && r.isEmpty with
          | true =>
            rw [c4, if_pos rfl] at k
            exact k.elim
          | false =>
            rw [c4, if_neg Bool.false_ne_true] at k
            have hne : t.1 = .nam → r ≠ [] := fun h1 h2 => by
              rw [decide_eq_true h1, h2] at c4
              cases c4
            refine ⟨_, rfl, d.r, d.dx, _, rfl, h23, pr_no (by decide +kernel), d, t, r, rfl, m3.2, hne, fun H4 s4 => ?_⟩
            have m4 := m3.more s4
            obtain ⟨j4, h24⟩ := m4.2.rm
            refine ⟨_, rfl, ?_⟩
            cases c5 : isCallN t r with
            | true =>
              rw [c5, if_pos rfl] at k
              refine iteT ?_
              refine ⟨_, rfl, d.r, d.dx, _, rfl, h24, pr_no (by decide +kernel), _, rfl, d.r, d.dx, _, rfl, h24, pr_no (by decide +kernel), d, t :: r, rfl, m4.2, ?_⟩
              refine bind_cases hp m4 k fun l5 _ k5 H5 y mv5 => ?_
              have m5 := m4.trans mv5
              exact ⟨d, l5, y, rfl, m5.2, rsC.mv hp m5 k5⟩
            | false =>
              rw [c5, if_neg Bool.false_ne_true] at k
              refine iteF ?_
              refine ⟨_, rfl, d.r, d.dx, _, rfl, h24, pr_no (by decide +kernel), by decide, fun p5 hp5 => ?_⟩
              have m5 := m4.more (same_new hp5 (o := .tup (slashS.map V.str)))
              obtain ⟨j5, h25⟩ := m5.2.rm
              refine ⟨d, t, r, p5, slashS, rfl, m5.2, SqT.of upd_same, _, rfl, ?_⟩
              cases c6 : hsN slashS t with
              | true =>
                rw [c6, if_pos rfl] at k
                refine iteT ?_
                refine ⟨_, rfl, d.r, d.dx, _, rfl, h25, pr_no (by decide +kernel), d, t :: r, rfl, m5.2, ?_⟩
                have hno : ∀ l p, rtN l ≠ .no p := fun l p h => by
                  unfold rtN at h
                  split at h
                  · split at h <;> cases h
                  · cases h
                show rsC _ _ _ _ _ (rtN (t :: r))
                cases hx : rtN (t :: r) with
                | dk => rw [hx] at k; exact k.elim
                | no p => exact absurd hx (hno _ _)
                | ok l =>
                  rw [hx] at k
                  exact fun H6 y mv6 => k _ _ (m5.trans mv6)
              | false =>
                rw [c6, if_neg Bool.false_ne_true] at k
                refine iteF ?_
                refine ⟨_, rfl, d.r, d.dx, _, rfl, h25, pr_no (by decide +kernel), by decide, fun S hS => ?_⟩
                have hS0 : H S = none := m5.fresh hp hS
                have m6 := m5.more (same_new hS (o := .lst []))
                refine ⟨d, t :: r, S, H, t :: r, [], rfl, hp, hS0, m6, upd_same, by decide, ?_⟩
                cases hx : ssN ex d.z (t :: r) with
                | dk => rw [hx] at k; exact k.elim
                | no p => rw [hx] at k; exact k
                | ok l =>
                  rw [hx] at k
                  intro H7 ys m7 h7
                  exact .inl ⟨S, _, rfl, SqL.of h7, fun p8 hp8 => ⟨(by show 3 ≤ sizeLine; decide), fun p9 hp9 => k _ _ ((m7.more (same_new hp8)).more (same_new hp9))⟩⟩
end
end K20
/-! K20Ru -/
namespace K20
open PySem PySem.Spec PyProof.Rows L2 TL
def dmN : List Tk → List Tk
  | t :: r => if hsN ["-"] t then dmN r else t :: r
  | [] => []
def endN : List Tk → Rs
  | t :: r => if isOpN t then .dk else .ok (t :: r)
  | [] => .dk
def xpN (ex : Str → List Tk → Rs) (z : Str) (l : List Tk) : Rs := (opN ex z (dmN l)).bind endN
theorem tks_len : ∀ (f i : Nat) (l : List Nat), (tksN f i l).length ≤ f
  | 0, _, _ => Nat.le_refl _
  | f + 1, i, l => by
    show (if _ then _ else _ : List Tk).length + 1 ≤ f + 1
    split
    · exact Nat.succ_le_succ (Nat.zero_le _)
    · exact Nat.succ_le_succ (tks_len _ _ _)
theorem PR.len {K : PySem.W.Frag} {H : Hp} {d : Rd0} {l : List Tk} (a : PR K H d l) : l.length ≤ 400001 := by
  obtain ⟨j, g, hj, _⟩ := a
  have h1 := tks_len (d.z.length + 1) 0 (tl d.z)
  have h2 := g.len
  have h3 : l.length = (tokL d.z).length - j := by rw [← hj, List.length_drop]
  have h4 : (tokL d.z).length ≤ d.z.length + 1 := h1
  omega
/-- the row q is new against H -/
structure NewQ (H : Hp) (q : Row) : Prop where
  o : H q.o = none
  A : H q.A = none
  W : H q.W = none
theorem MvR.rowQ {K : PySem.W.Frag} {H H1 H2 : Hp} {d : Rd0} {l0 l : List Tk} {q : Row} (h0 : PR K H d l0) (nq : NewQ H q) (m : MvR K H H1 d l) (s : SameQ q H1 H2) : MvR K H H2 d l := by
  have ne : ∀ {b : Addr} {u : HO}, H b = some u → b ≠ q.A ∧ b ≠ q.W := fun {b u} hb => by
    refine ⟨fun e => ?_, fun e => ?_⟩
    · rw [e, nq.A] at hb
      cases hb
    · rw [e, nq.W] at hb
      cases hb
  have h0' := h0
  obtain ⟨s1, j, g, hj, h2, h3, h4⟩ := m
  obtain ⟨_, _, _, i2, i3, i4⟩ := h0
  refine ⟨fun b u hb hu => s _ _ (ne hu).1 (ne hu).2 (s1 b u hb hu), j, g, hj, s _ _ (ne i2).1 (ne i2).2 h2, s _ _ (ne i3).1 (ne i3).2 h3, ?_⟩
  exact i4.keep fun a xs ha => s _ _ (ne ha).1 (ne ha).2 (s1 _ _ (h0'.rne ha (fun _ _ _ => by simp)) ha)
theorem OR.sameB {K : PySem.W.Frag} {H H1 H2 : Hp} {d : Rd0} {l0 : List Tk} {q : Row} {os : List V} {n : Nat} (h0 : PR K H d l0) (nq : NewQ H q) (a : OR K H1 q os n) (s : SameB d.r H1 H2) : OR K H2 q os n := by
  obtain ⟨j, hr⟩ := h0.rm
  have no : q.o ≠ d.r := fun e => by
    have := nq.o
    rw [e, hr] at this
    cases this
  have nA : q.A ≠ d.r := fun e => by
    have := nq.A
    rw [e, hr] at this
    cases this
  have nW : q.W ≠ d.r := fun e => by
    have := nq.W
    rw [e, hr] at this
    cases this
  exact ⟨s _ _ no a.at_, s _ _ nA a.ops, s _ _ nW a.wait, a.ne⟩
section
variable {P : Program} {w : World} {K : PySem.W.Frag} {mg : Str → Option Value} {base : Heap}
theorem ok_read_expression (T : Tx w K mg) {e : Nat} (he : 4 ≤ e) {ex : Str → List Tk → Rs} (hE : Ok P w K mg base (L2.CX P w) e (He.fAd K d_PathReader_read_expression.at_) p_PathReader_read_expression (spRd K ex)) :
    Ok P w K mg base (L2.CX P w) (e + 5) (He.fAd K d_PathReader_read_expression.at_) p_PathReader_read_expression (spRd K (xpN ex)) := by
  obtain ⟨fd, F⟩ := f_PathReader_read_expression T
  obtain ⟨fH, GH, bH, kH⟩ := ok_has_sign (P := P) (base := base) T
  obtain ⟨fT, GT, bT, kT⟩ := ok_take (P := P) (base := base) T
  obtain ⟨fI, GI, bI, kI⟩ := ok_row_init (P := P) (base := base) T
  obtain ⟨fW, GW, bW, kW⟩ := ok_ends_with (P := P) (base := base) T
  obtain ⟨fM, GM, bM, kM⟩ := ok_put_minus (P := P) (base := base) T
  obtain ⟨fO, GO, bO, kO⟩ := ok_put_operand (P := P) (base := base) T
  obtain ⟨fF, GF, bF, kF⟩ := ok_finished (P := P) (base := base) T
  obtain ⟨fR, GR, bR, kR⟩ := ok_read_operator (P := P) (base := base) T
  obtain ⟨fX, GX, bX, kX⟩ := ok_read_operand (P := P) (base := base) T he hE
  refine ⟨fd, ?_, b_PathReader_read_expression F, F.kp⟩
  refine F.ok sc_PathReader_read_expression (fun vs H Q E h => ?_) (fun cdv A outer s H vs Q E hr h => ?_)
  · obtain ⟨d, l, rfl, _⟩ := h
    rfl
  · obtain ⟨d, l, rfl, hp, k⟩ := h
    have nd := sc_PathReader_read_expression.nd
    refine ⟨_, pss_cons (ps_set (i := 1) nd rfl (.inl rfl) (pe_make0 (E := E0) (mk_OperatorRow T) GI (hr.mono (by omega)) rfl (g_OperatorRow T) bI .nil pass0))
      (pss_one (ps_while (passes_of rfl) (pt_val pe_bl)
        (pss_cons (ps_while (passes_of rfl) (pw_and (pt_val (pe_meth (E := E0) (pv 0) (cls_PathReader T) (m_PathReader_has_sign T) GH (hr.mono (by omega)) bH .nil pass0 (pa_cons (pe_tup (pa_cons pe_str pa_nil)) pa_nil))) (pw_and1 (pt_not (pt_val (pe_meth (E := E0) (pv 1) (cls_OperatorRow T) (m_OperatorRow_ends_with T) GW (hr.mono (by omega)) bW .nil pass0 (pa_cons pe_str pa_nil)))))).pt
          (pss_cons (ps_expr (pe_meth0 (E := E0) (pv 0) (cls_PathReader T) (m_PathReader_take T) GT (hr.mono (by omega)) bT .nil pass0)) (pss_one (ps_expr (pe_meth0 (E := E0) (pv 1) (cls_OperatorRow T) (m_OperatorRow_put_minus T) GM (hr.mono (by omega)) bM .nil pass0)))))
        (pss_cons (ps_expr (pe_meth (E := E0) (pv 1) (cls_OperatorRow T) (m_OperatorRow_put_operand T) GO (hr.mono (by omega)) bO .nil pass0 (pa_cons (pe_meth0 (E := E) (pv 0) (cls_PathReader T) (m_PathReader_read_operand T) GX (hr.mono (by omega)) bX .nil (passes_call (takes_of rfl rfl rfl rfl) (fun _ _ _ _ h => h))) pa_nil)))
        (pss_cons (ps_set (i := 2) nd rfl (.inl rfl) (pe_meth0 (E := E0) (pv 0) (cls_PathReader T) (m_PathReader_read_operator T) GR (hr.mono (by omega)) bR .nil pass0))
        (pss_cons (ps_if (pt_cmpR op_isN (pv 2) pe_non (nomark _)) (pss_one (ps_ret (pe_meth0 (E := E0) (pv 1) (cls_OperatorRow T) (m_OperatorRow_finished T) GF (hr.mono (by omega)) bF .nil pass0))) pss_nil)
        pss_no)))))), ?_⟩
    intro o dx ho hdx hne
    have s1 : Same H (upd (upd H dx (.own o)) o (.ins (CO K) dx [])) := same_upd0 (same_new hdx) ho
    refine ⟨o, dx, rfl, upd_same, fun H2 A1 W1 a2 s2 hA hW => ⟨rfl, ?_⟩⟩
    have back : ∀ {H' : Hp} {b : Addr}, Same H H' → H' b = none → H b = none := fun {H' b} s hb => by
      cases q : H b with
      | none => rfl
      | some u =>
        have := s _ _ q
        rw [hb] at this
        cases this
    have nq : NewQ H ⟨o, dx, A1, W1⟩ := ⟨ho, back s1 hA, back s1 hW⟩
    have s02 : Same H H2 := fun b u hb => s2 b u (ne_of_none hb ho) (s1 b u hb)
    have m2 : MvR K H H2 d l := MvR.same hp s02
    dsimp only [tSeq]
    refine while_x (fun mm σ H3 => mm = 0 ∧ σ = [some (.ref d.r), some (.ref o), none] ∧ H3 = H2) (fun _ _ => False) ⟨0, rfl, rfl, rfl⟩ (fun _ _ h => h.elim) ?_
    rintro - mm σ H3 R ⟨rfl, rfl, rfl⟩ hfin hbody
    refine ⟨_, rfl, ?_⟩
    refine hbody _ ?_
    clear hfin hbody R
    have hl0 := m2.2.len
    dsimp only [tSeq]
    refine while_x (fun mm σ H4 => σ = [some (.ref d.r), some (.ref o), none] ∧ ∃ (l' : List Tk) (n : Nat), l'.length = mm ∧ MvR K H H4 d l' ∧ OR K H4 ⟨o, dx, A1, W1⟩ [] n ∧ n + l'.length ≤ 400001 ∧ dmN l' = dmN l)
      (fun σ H4 => σ = [some (.ref d.r), some (.ref o), none] ∧ ∃ n, MvR K H H4 d (dmN l) ∧ OR K H4 ⟨o, dx, A1, W1⟩ [] n ∧ n ≤ 400001) ⟨_, rfl, l, 0, rfl, m2, a2, by omega, rfl⟩ ?_ ?_
    · rintro σ H4 ⟨rfl, n, m4, a4, hn⟩
      obtain ⟨j4, h24⟩ := m4.2.rm
      refine ⟨_, rfl, o, dx, _, rfl, a4.at_, or_no (by decide +kernel), _, rfl, d.r, d.dx, _, rfl, h24, pr_no (by decide +kernel), d, dmN l, rfl, m4.2, ?_⟩
      refine bind_cases hp m4 k fun l5 _ k5 H5 y mv5 => ?_
      have m5 := m4.trans mv5
      have a5 := OR.sameB hp nq a4 mv5.1
      refine ⟨⟨o, dx, A1, W1⟩, [], n, y, rfl, a5, by decide, ?_⟩
      have a6 := a5.setA [y]
      have m6 : MvR K H (upd H5 A1 (.lst [y])) d l5 := m5.rowQ hp nq (q := ⟨o, dx, A1, W1⟩) (SameQ.A (q := ⟨o, dx, A1, W1⟩))
      obtain ⟨j6, h26⟩ := m6.2.rm
      cases l5 with
      | nil => exact k5.elim
      | cons t r =>
        unfold endN at k5
        dsimp only at k5
        cases hop : isOpN t with
        | true =>
          rw [hop, if_pos rfl] at k5
          exact k5.elim
        | false =>
          rw [hop, if_neg Bool.false_ne_true] at k5
          refine ⟨_, rfl, d.r, d.dx, _, rfl, h26, pr_no (by decide +kernel), d, t, r, rfl, m6.2, hop, ?_⟩
          refine ⟨_, rfl, rfl, _, rfl, ?_⟩
          refine iteT ?_
          exact ⟨_, rfl, o, dx, _, rfl, a6.at_, or_no (by decide +kernel), ⟨o, dx, A1, W1⟩, y, n, rfl, a6, by omega, fun H7 y7 s7 => k5 _ _ (m6.rowQ hp nq s7)⟩
    · rintro - mm σ H4 R ⟨rfl, l', n, rfl, m4, a4, hn, hd⟩ hfin hbody
      obtain ⟨j4, h24⟩ := m4.2.rm
      cases l' with
      | nil =>
        have k' : rsC K d H Q E ((opN ex d.z (dmN l)).bind endN) := k
        rw [← hd] at k'
        exact k'.elim
      | cons t r =>
        refine ⟨_, rfl, d.r, d.dx, _, rfl, h24, pr_no (by decide +kernel), by decide, fun p5 hp5 => ?_⟩
        have s5 := same_new hp5 (o := .tup ([("-" : Str)].map V.str))
        have m5 := m4.more s5
        have a5 := a4.same s5
        obtain ⟨j5, h25⟩ := m5.2.rm
        refine ⟨d, t, r, p5, ["-"], rfl, m5.2, SqT.of upd_same, _, rfl, ?_⟩
        have ed : dmN (t :: r) = if hsN ["-"] t then dmN r else t :: r := rfl
        rw [ed] at hd
        cases hs : hsN ["-"] t with
        | false =>
          rw [hs, if_neg Bool.false_ne_true] at hd
          refine iteF ?_
          exact hfin _ ⟨rfl, n, by rw [← hd]; exact m5, a5, by omega⟩
        | true =>
          rw [hs, if_pos rfl] at hd
          refine iteT ?_
          refine ⟨_, rfl, o, dx, _, rfl, a5.at_, or_no (by decide +kernel), ⟨o, dx, A1, W1⟩, [], n, rfl, a5, fun H6 s6 => ⟨_, rfl, ?_⟩⟩
          refine hbody _ ?_
          have m6 := m5.more s6
          have a6 := a5.same s6
          obtain ⟨j6, h26⟩ := m6.2.rm
          refine ⟨_, rfl, d.r, d.dx, _, rfl, h26, pr_no (by decide +kernel), d, t, r, rfl, m6.2, fun H7 b hb mv7 => ?_⟩
          have m7 := m6.trans mv7
          have a7 := OR.sameB hp nq a6 mv7.1
          have hlr : (t :: r).length = r.length + 1 := rfl
          refine ⟨_, rfl, o, dx, _, rfl, a7.at_, or_no (by decide +kernel), ⟨o, dx, A1, W1⟩, [], n, rfl, a7, by omega, ?_⟩
          exact ⟨r.length, by omega, rfl, r, n + 1, rfl, m7.rowQ hp nq (q := ⟨o, dx, A1, W1⟩) (SameQ.W (q := ⟨o, dx, A1, W1⟩)), a7.setW (n + 1), by omega, hd⟩
end
end K20
/-! K20Rv -/
namespace K20
open PySem PySem.Spec PyProof.Rows L2 TL
/-- expressions up to a depth -/
def xpD : Nat → Str → List Tk → Rs
  | 0 => fun _ _ => .dk
  | n + 1 => xpN (xpD n)
def atEnd : List Tk → Rs
  | t :: r => if decide (t.1 = .fin) then .ok (t :: r) else if decide (t.1 = .nam) || decide (t.1 = .brk) then .dk else .no t.2.2
  | [] => .dk
def rpN (n : Nat) (z : Str) (l : List Tk) : Rs := (xpD n z l).bind atEnd
section
variable {P : Program} {w : World} {K : PySem.W.Frag} {mg : Str → Option Value} {base : Heap}
theorem ok_expr0 (T : Tx w K mg) : Ok P w K mg base (L2.CX P w) 4 (He.fAd K d_PathReader_read_expression.at_) p_PathReader_read_expression (spRd K (xpD 0)) := by
  obtain ⟨fd, F⟩ := f_PathReader_read_expression T
  refine ⟨fd, ?_, b_PathReader_read_expression F, F.kp⟩
  refine F.ok sc_PathReader_read_expression (fun vs H Q E h => ?_) (fun cdv A outer s H vs Q E hr h => ?_)
  · obtain ⟨d, l, rfl, _⟩ := h
    rfl
  · obtain ⟨d, l, rfl, hp, k⟩ := h
    exact k.elim
theorem ok_expr (T : Tx w K mg) : ∀ n, Ok P w K mg base (L2.CX P w) (4 + 5 * n) (He.fAd K d_PathReader_read_expression.at_) p_PathReader_read_expression (spRd K (xpD n))
  | 0 => ok_expr0 T
  | n + 1 => ok_read_expression T (e := 4 + 5 * n) (by omega) (ok_expr T n)
theorem ok_read_path (T : Tx w K mg) (n : Nat) : Ok P w K mg base (L2.CX P w) (5 + 5 * n) (He.fAd K d_PathReader_read_path.at_) p_PathReader_read_path (spRd K (rpN n)) := by
  obtain ⟨fd, F⟩ := f_PathReader_read_path T
  obtain ⟨fE, GE, bE, kE⟩ := ok_expr (P := P) (base := base) T n
  obtain ⟨fP, GP, bP, kP⟩ := ok_peek (P := P) (base := base) T
  obtain ⟨fB, GB, bB, kB⟩ := ok_end_behind_operand (P := P) (base := base) T
  refine ⟨fd, ?_, b_PathReader_read_path F, F.kp⟩
  have hlev : 5 + 5 * n = (4 + 5 * n) + 1 := by omega
  rw [hlev]
  refine F.ok sc_PathReader_read_path (fun vs H Q E h => ?_) (fun cdv A outer s H vs Q E hr h => ?_)
  · obtain ⟨d, l, rfl, _⟩ := h
    rfl
  · obtain ⟨d, l, rfl, hp, k⟩ := h
    have nd := sc_PathReader_read_path.nd
    refine ⟨_, pss_cons (ps_set (i := 1) nd rfl (.inl rfl) (pe_meth0 (E := E) (pv 0) (cls_PathReader T) (m_PathReader_read_expression T) GE (hr.mono (by omega)) bE .nil (passes_call (takes_of rfl rfl rfl rfl) (fun _ _ _ _ h => h))))
      (pss_cons (ps_if (pt_cmpR op_ne (pe_ix ix_tup (pe_meth0 (E := E0) (pv 0) (cls_PathReader T) (m_PathReader_peek T) GP (hr.mono (by omega)) bP .nil pass0) pe_int (fun _ _ => rfl)) pe_str (nomark _))
        (pss_one (ps_raise rfl (takes_of rfl rfl rfl rfl) (pmk_nd T (hr.mono (by omega)) (pa_cons (pe_meth0 (E := E0) (pv 0) (cls_PathReader T) (m_PathReader_end_behind_operand T) GB (hr.mono (by omega)) bB .nil pass0) pa_nil)))) pss_nil)
      (pss_one (ps_ret (pv 1)))), ?_⟩
    obtain ⟨j, h2⟩ := hp.rm
    refine ⟨_, rfl, d.r, d.dx, _, rfl, h2, pr_no (by decide +kernel), d, l, rfl, hp, ?_⟩
    refine bind_cases hp (MvR.same hp (Same.refl H)) k fun l1 _ k1 H1 y m1 => ?_
    obtain ⟨j1, h21⟩ := m1.2.rm
    cases l1 with
    | nil => exact k1.elim
    | cons t r =>
      unfold atEnd at k1
      dsimp only at k1
      refine ⟨_, rfl, d.r, d.dx, _, rfl, h21, pr_no (by decide +kernel), d, t, r, rfl, m1.2, fun a ha => ⟨a, _, 0, _, rfl, rfl, SqT.of ha, atI0 _ _, rfl, _, rfl, ?_⟩⟩
      show if (!decide (V.str (kiS t.1) = V.str (Str.ofString "end"))) = true then _ else _
      rw [kiS_lit t.1 .fin]
      cases c1 : decide (t.1 = .fin) with
      | true =>
        rw [c1, if_pos rfl] at k1
        refine iteF ?_
        exact ⟨_, rfl, k1 _ _ m1⟩
      | false =>
        rw [c1, if_neg Bool.false_ne_true] at k1
        refine iteT ?_
        cases c2 : decide (t.1 = .nam) || decide (t.1 = .brk) with
        | true =>
          rw [c2, if_pos rfl] at k1
          exact k1.elim
        | false =>
          rw [c2, if_neg Bool.false_ne_true] at k1
          rw [Bool.or_eq_false_iff] at c2
          refine ⟨_, rfl, d.r, d.dx, _, rfl, h21, pr_no (by decide +kernel), d, t, r, rfl, m1.2, of_decide_eq_false c2.1, of_decide_eq_false c2.2, nd_ok m1.2.log fun e y he => ?_⟩
          exact k1 _ e (m1.raise hp he)
end
end K20
/-! K20Rw -/
namespace K20
open PySem PySem.Spec PyProof.Rows L2 TL
theorem put_new {f : Str} {v : V} : putF f v [] = [(f, v)] := rfl
section
variable {P : Program} {w : World} {K : PySem.W.Frag} {mg : Str → Option Value} {base : Heap}
def spPi (K : PySem.W.Frag) : Sp := fun vs H Q _ => ∃ (r dx : Addr) (z : Str), vs = [.ref r, .str z, .bl false] ∧ H r = some (.ins (CP K) dx []) ∧ Gd z ∧ ∀ H' L ts, PR K H' ⟨r, dx, L, z, ts⟩ (tokL z) → SameB r H H' → Q .non H'
theorem ok_reader_init (T : Tx w K mg) : Ok P w K mg base CX0 6 (He.fAd K d_PathReader_init.at_) p_PathReader_init (spPi K) := by
  obtain ⟨fd, F⟩ := f_PathReader_init T
  obtain ⟨fT, GT, bT, kT⟩ := ok_tokens_in (P := P) (base := base) T
  refine ⟨fd, ?_, b_PathReader_init F, F.kp⟩
  refine F.ok sc_PathReader_init (fun vs H Q E h => ?_) (fun cdv A outer s H vs Q E hr h => ?_)
  · obtain ⟨r, dx, z, rfl, _⟩ := h
    rfl
  · obtain ⟨r, dx, z, rfl, h0, g, k⟩ := h
    refine ⟨_, PSs.nox (pss_cons (ps_fld (pv 0) (pv 1) rfl) (pss_cons (ps_fld (pv 0) (pv 2) rfl)
      (pss_cons (ps_fld (pv 0) (pe_call (E := E0) GT (hr.mono (by decide)) rfl (g_tokens_in T) kT bT .nil pass0 (pa_cons (pv 1) pa_nil)) rfl)
      (pss_one (ps_fld (pv 0) pe_int rfl))))), ?_⟩
    refine ⟨_, rfl, _, rfl, r, CP K, dx, _, rfl, h0, cls_PathReader T, na_PathReader_text T, (by decide), ?_⟩
    refine ⟨_, rfl, _, rfl, r, CP K, dx, _, rfl, upd_same, cls_PathReader T, na_PathReader_closed T, (by show 1 < 1000; decide), ?_⟩
    refine ⟨_, rfl, z, rfl, g, fun H1 L ts s1 hL hL1 tk => ?_⟩
    refine ⟨_, rfl, r, CP K, dx, _, rfl, s1 _ _ upd_same, cls_PathReader T, na_PathReader_tokens T, (by show 2 < 1000; decide), ?_⟩
    refine ⟨_, rfl, r, CP K, dx, _, rfl, upd_same, cls_PathReader T, na_PathReader_at T, (by show 3 < 1000; decide), ?_⟩
    have hLr : L ≠ r := fun e => by
      rw [e, upd_same] at hL
      cases hL
    refine k _ L ts ⟨0, g, rfl, upd_same, ?_, ?_⟩ ?_
    · rw [upd_ne hLr, upd_ne hLr]
      exact hL1
    · exact tk.keep fun a xs ha => by
        have har : a ≠ r := fun e => by
          subst e
          have := s1 _ _ (upd_same (H := upd H a (.ins (CP K) dx (putF "text" (.str z) []))) (a := a) (o := .ins (CP K) dx (putF "closed" (.bl false) (putF "text" (.str z) []))))
          rw [this] at ha
          cases ha
        rw [upd_ne har, upd_ne har]
        exact ha
    · exact (((SameB.up.trans .up).trans (.of s1)).trans .up).trans .up
end
end K20
/-! K20Rx -/
namespace K20
open PySem PySem.Spec PyProof.Rows L2 TL
/-! ### an own exception with fields, held as a value -/
def ExD (cls : Value) (d : Option Addr) (a : Addr) : HO := .ext fun h => ∃ (oe : Obj) (vs : Array Value), h.get? a = some oe ∧ Zc cls d oe ∧ oe.data = .fields vs
theorem exD_ok {P : Program} {w : World} {H : Hp} {h : Heap} {a : Addr} {cls : Value} {d : Option Addr} {oe : Obj} {vs : Array Value} (e : h.get? a = some oe) (z : Zc cls d oe) (k : oe.data = .fields vs) : ObjOk P w H h a (ExD cls d a) :=
  ⟨⟨oe, vs, e, z, k⟩, ⟨oe, e⟩, fun _ _ ⟨o, v, q, r⟩ k => ⟨o, v, k o q, r⟩⟩
/-- what makes an exception, as a value -/
theorem pe_mk {X : Cx} {e : Expr} {t : L2.St → Hp → XK → Prop} (h : PMk X e t) : PE X e (fun σ H Q => t σ H fun cls d H1 => ∀ a, H1 a = none → Q (.ref a) (upd H1 a (ExD cls d a))) := by
  refine ⟨fun pins s σ H Q I hq => ?_⟩
  refine wpAny_mono (h pins s σ H _ I hq) (fun u s1 hu => ?_) fun _ _ x => x
  obtain ⟨a, oe, vs, sI, H', cls, d, rfl, J, k, hne, ha, hz, hd, h1, na, os, ag, r, q⟩ := hu
  refine ⟨.ref a, upd H' a (ExD cls d a), ?_, rfl, q a na⟩
  have I' := Inv.laidN (h' := s1.heap) (t' := s1.toks) J k hne na (exD_ok ha hz hd)
  exact ⟨I'.ok, by rw [os]; exact J.os, ag, I'.base, I'.loc, I'.cell, I'.free, I'.freeC, I'.pin, I'.hok, I'.len⟩
/-- a value's type, of such ones too -/
def TyY (K : PySem.W.Frag) (H : Hp) (x : V) (t : Value) : Prop := TyX K H x t ∨ ∃ (e D dd : Addr) (fs : List (Str × V)), x = .ref e ∧ t = .ref D ∧ H e = some (ExD (.ref D) (some dd) e) ∧ ExcC K D ∧ H dd = some (.xd fs)
def rIsy (K : PySem.W.Frag) : List V → Hp → VK → Prop := fun xs H Q => ∃ (x c : V) (t u : Value) (b : Bool), xs = [x, c] ∧ ClsV c u ∧ TyY K H x t ∧ PySem.W.kitOne K t u = some b ∧ Q (.bl b) H
theorem call_isy {X : Cx} : CallR X (.builtin "isinstance") (rIsy X.K) := by
  intro pins s σ H xs us Q I r h
  obtain ⟨x, c, t, u, b, rfl, k, ty, e, q⟩ := h
  rcases ty with ty | ⟨ea, D, dd, fs, rfl, rfl, he, C, hdd⟩
  · exact call_isi pins s σ H _ us Q I r ⟨x, c, t, u, b, rfl, k, ty, e, q⟩
  · cases r with
    | cons rx rr =>
      cases rr with
      | cons rt rr =>
        cases rr
        cases rx
        have e2 := k.eq rt
        subst e2
        obtain ⟨⟨oe, vs, hget, hz, hv⟩, _, _⟩ := I.hok ea _ he
        have hx : ObjOk X.prog X.w H s.heap dd (.xd fs) := I.hok dd _ hdd
        obtain ⟨mA, hns, hr⟩ := hx
        obtain ⟨od, ho, hl⟩ := lookIn_ns hns
        have J : PySem.W.InstAt s.heap ea oe D (some od) := ⟨hget, hz.1, by unfold PySem.W.notCls; rw [hv] <;> rfl, by rw [hz.2]; exact ho⟩
        have hcl : (PySem.W.clsIn X.K D).isSome = true := by
          obtain ⟨cd, hc, _⟩ := PySem.W.any_some C.hd
          rw [hc]
          rfl
        exact PySem.W.kia_one (PySem.W.kitx_exc hcl C.hg C.hk C.hs C.ha C.hn C.ht C.hm) I.kIn J e (fun z => nomatch z) fun tk => ⟨.bl b, H, I.kept (t' := tk) fun _ _ z => z, rfl, q⟩
/-- an error with the place n, all else stands -/
def FlA (H H' : Hp) (e : Addr) (n : Nat) : Prop := Same H H' ∧ H e = none ∧ ∃ y, H' e = some (.xd [("at", .int (n : Int)), ("why", y)])
def trC (K : PySem.W.Frag) (H : Hp) (Q : VK) (E : XK) : Rs → Prop
  | .dk => False
  | .ok _ => ∀ H' y, Same H H' → Q y H'
  | .no p => ∀ H' e, FlA H H' e p → E (.ref (CN K)) (some e) H'
section
variable {P : Program} {w : World} {K : PySem.W.Frag} {mg : Str → Option Value} {base : Heap}
def spTr (K : PySem.W.Frag) (n : Nat) : Sp := fun vs H Q E =>
  (∃ z : Str, vs = [.str z] ∧ Gd z ∧ trC K H Q E (rpN n z (tokL z))) ∨
  (∃ (x : V) (t : Value), vs = [x] ∧ TyY K H x t ∧ PySem.W.kitOne K t (.type "str") = some false ∧ ∀ d y, H d = none → E (.ref (CB K)) (some d) (upd H d (.xd [("why", y)])))
theorem ok_tree_of (T : Tx w K mg) (n : Nat) : Ok P w K mg base (L2.CX P w) (10 + 5 * n) (He.fAd K d_tree_of.at_) p_tree_of (spTr K n) := by
  obtain ⟨fd, F⟩ := f_tree_of T
  obtain ⟨fI, GI, bI, kI⟩ := ok_reader_init (P := P) (base := base) T
  obtain ⟨fD, GD, bD, kD⟩ := ok_read_path (P := P) (base := base) T n
  refine ⟨fd, ?_, b_tree_of F, F.kp⟩
  have hlev : 10 + 5 * n = (9 + 5 * n) + 1 := by omega
  rw [hlev]
  refine F.ok sc_tree_of (fun vs H Q E h => ?_) (fun cdv A outer s H vs Q E hr h => ?_)
  · rcases h with ⟨z, rfl, _⟩ | ⟨x, t, rfl, _⟩ <;> rfl
  · have nd := sc_tree_of.nd
    refine ⟨_, pss_cons (ps_if (pt_not (pt_val (pe_callB call_isy (by rfl) (n_isinstance T) boot_isinstance (pa_cons (pv 0) (pa_cons (pe_bltn (v := .ty "str") (by rfl) (n_str T) boot_str rfl) pa_nil)))))
        (pss_one (ps_raise rfl (takes_of rfl rfl rfl rfl) (pmk_bv T (hr.mono (by omega)) (pa_cons pe_str pa_nil)))) pss_nil)
      (pss_one (ps_ret (pe_meth0 (E := E) (pe_make (E := E0) (mk_PathReader T) GI (hr.mono (by omega)) rfl (g_PathReader T) bI .nil pass0 (pa_cons (pv 0) (pa_cons pe_bl pa_nil)))
        (cls_PathReader T) (m_PathReader_read_path T) GD (hr.mono (by omega)) bD .nil (passes_call (takes_of rfl rfl rfl rfl) (fun _ _ _ _ h => h))))), ?_⟩
    rcases h with ⟨z, rfl, g, k⟩ | ⟨x, t, rfl, hty, hk, kE⟩
    · refine ⟨_, rfl, _, _, _, _, true, rfl, .ty "str", .inl (.base (.str z)), kit_ty (by decide), _, rfl, ?_⟩
      refine iteF ?_
      refine ⟨_, rfl, ?_⟩
      intro r dxr hr0 hd0 hne
      have s1 : Same H (upd (upd H dxr (.own r)) r (.ins (CP K) dxr [])) := same_upd0 (same_new hd0) hr0
      refine ⟨r, dxr, z, rfl, upd_same, g, fun H2 L ts hR s2 => ⟨rfl, ?_⟩⟩
      have s02 : Same H H2 := fun b u hb => s2 b u (ne_of_none hb hr0) (s1 b u hb)
      have up : ∀ {H' : Hp}, SameB r H2 H' → Same H H' := fun s b u hb => s b u (ne_of_none hb hr0) (s02 b u hb)
      obtain ⟨j, h2⟩ := hR.rm
      refine ⟨r, dxr, _, rfl, h2, pr_no (by decide +kernel), ⟨r, dxr, L, z, ts⟩, tokL z, rfl, hR, ?_⟩
      show rsC K ⟨r, dxr, L, z, ts⟩ H2 _ _ (rpN n z (tokL z))
      cases hx : rpN n z (tokL z) with
      | dk => rw [hx] at k; exact k.elim
      | no p =>
        rw [hx] at k
        intro H3 e fl
        refine k H3 e ⟨up fl.1, ?_, fl.2.2⟩
        cases q : H e with
        | none => rfl
        | some u =>
          have := s02 _ _ q
          rw [fl.2.1] at this
          cases this
      | ok l =>
        rw [hx] at k
        exact fun H3 y m3 => k H3 y (up m3.1)
    · refine ⟨_, rfl, _, _, _, _, false, rfl, .ty "str", hty, hk, _, rfl, ?_⟩
      refine iteT ?_
      exact bv_ok fun d hd => kE d _ hd
end
end K20
/-! K20Ry -/
namespace K20
open PySem PySem.Spec PyProof.Rows L2 TL
section
variable {P : Program} {w : World} {K : PySem.W.Frag} {mg : Str → Option Value} {base : Heap}
theorem ok_path_text_never (T : Tx w K mg) : Ok P w K mg base CX0 1 (He.fAd K d_path_text.at_) p_path_text (fun _ _ _ _ => False) := by
  obtain ⟨fd, F⟩ := f_path_text T
  refine ⟨fd, ?_, b_path_text F, F.kp⟩
  exact F.ok sc_path_text (fun vs H Q E h => h.elim) (fun cdv A outer s H vs Q E hr h => h.elim)
def spOdd (K : PySem.W.Frag) : Sp := fun vs H Q E => ∃ (x : V) (t : Value), vs = [x] ∧ TyY K H x t ∧ PySem.W.kitOne K t (.type "str") = some false ∧ ∀ d y, H d = none → E (.ref (CB K)) (some d) (upd H d (.xd [("why", y)]))
theorem ok_tokens_odd (T : Tx w K mg) : Ok P w K mg base (L2.CX P w) 11 (He.fAd K d_tokens.at_) p_tokens (spOdd K) := by
  obtain ⟨fd, F⟩ := f_tokens T
  obtain ⟨fT, GT, bT, kT⟩ := ok_tree_of (P := P) (base := base) T 0
  refine ⟨fd, ?_, b_tokens F, F.kp⟩
  refine F.ok sc_tokens (fun vs H Q E h => ?_) (fun cdv A outer s H vs Q E hr h => ?_)
  · obtain ⟨x, t, rfl, _⟩ := h
    rfl
  · obtain ⟨x, t, rfl, h1, h2, h3⟩ := h
    refine ⟨_, pss_cons (ps_expr (pe_call (E := E) GT (hr.mono (by decide)) rfl (g_tree_of T) kT bT .nil (passes_call (takes_of rfl rfl rfl rfl) (fun _ _ _ _ h => h)) (pa_cons (pv 0) pa_nil))) pss_no, ?_⟩
    exact ⟨_, rfl, .inr ⟨x, t, rfl, h1, h2, h3⟩⟩
theorem ok_canonical_odd (T : Tx w K mg) : Ok P w K mg base (L2.CX P w) 11 (He.fAd K d_canonical.at_) p_canonical (spOdd K) := by
  obtain ⟨fd, F⟩ := f_canonical T
  obtain ⟨fT, GT, bT, kT⟩ := ok_tree_of (P := P) (base := base) T 0
  obtain ⟨fP, GP, bP, kP⟩ := ok_path_text_never (P := P) (base := base) T
  refine ⟨fd, ?_, b_canonical F, F.kp⟩
  refine F.ok sc_canonical (fun vs H Q E h => ?_) (fun cdv A outer s H vs Q E hr h => ?_)
  · obtain ⟨x, t, rfl, _⟩ := h
    rfl
  · obtain ⟨x, t, rfl, h1, h2, h3⟩ := h
    refine ⟨_, pss_one (ps_ret (pe_call (E := E0) GP (hr.mono (by decide)) rfl (g_path_text T) kP bP .nil pass0
      (pa_cons (pe_call (E := E) GT (hr.mono (by decide)) rfl (g_tree_of T) kT bT .nil (passes_call (takes_of rfl rfl rfl rfl) (fun _ _ _ _ h => h)) (pa_cons (pv 0) pa_nil)) (pa_cons pe_bl pa_nil)))), ?_⟩
    exact ⟨_, rfl, .inr ⟨x, t, rfl, h1, h2, h3⟩⟩
theorem ok_abbreviated_odd (T : Tx w K mg) : Ok P w K mg base (L2.CX P w) 11 (He.fAd K d_abbreviated.at_) p_abbreviated (spOdd K) := by
  obtain ⟨fd, F⟩ := f_abbreviated T
  obtain ⟨fT, GT, bT, kT⟩ := ok_tree_of (P := P) (base := base) T 0
  obtain ⟨fP, GP, bP, kP⟩ := ok_path_text_never (P := P) (base := base) T
  refine ⟨fd, ?_, b_abbreviated F, F.kp⟩
  refine F.ok sc_abbreviated (fun vs H Q E h => ?_) (fun cdv A outer s H vs Q E hr h => ?_)
  · obtain ⟨x, t, rfl, _⟩ := h
    rfl
  · obtain ⟨x, t, rfl, h1, h2, h3⟩ := h
    refine ⟨_, pss_one (ps_ret (pe_call (E := E0) GP (hr.mono (by decide)) rfl (g_path_text T) kP bP .nil pass0
      (pa_cons (pe_call (E := E) GT (hr.mono (by decide)) rfl (g_tree_of T) kT bT .nil (passes_call (takes_of rfl rfl rfl rfl) (fun _ _ _ _ h => h)) (pa_cons (pv 0) pa_nil)) (pa_cons pe_bl pa_nil)))), ?_⟩
    exact ⟨_, rfl, .inr ⟨x, t, rfl, h1, h2, h3⟩⟩
end
end K20
/-! K20Ea -/
namespace K20
open PySem PySem.Spec PyProof.Rows L2 TL
/-! what single arguments come to -/
abbrev sg1 (c q : Nat) : Tk := (.sgn, [c], q)
theorem ev_num (n : Nat) (z : Str) (p c q : Nat) (m : List Tk) (hc : c = 44 ∨ c = 41) : xpD (n + 1) z ((.num, [49], p) :: sg1 c q :: m) = .ok (sg1 c q :: m) := by
  rcases hc with rfl | rfl <;> rfl
theorem ev_neg (n : Nat) (z : Str) (p p2 c q : Nat) (m : List Tk) (hc : c = 44 ∨ c = 41) : xpD (n + 1) z ((.sgn, [45], p) :: (.num, [50], p2) :: sg1 c q :: m) = .ok (sg1 c q :: m) := by
  rcases hc with rfl | rfl <;> rfl
theorem ev_txt (n : Nat) (z : Str) (p c q : Nat) (m : List Tk) (hc : c = 44 ∨ c = 41) : xpD (n + 1) z ((.txt, [39, 98, 44, 32, 99, 39], p) :: sg1 c q :: m) = .ok (sg1 c q :: m) := by
  rcases hc with rfl | rfl <;> rfl
theorem ev_root (n : Nat) (z : Str) (p c q : Nat) (m : List Tk) (hc : c = 44 ∨ c = 41) : xpD (n + 1) z ((.sgn, [47], p) :: sg1 c q :: m) = .ok (sg1 c q :: m) := by
  rcases hc with rfl | rfl <;> rfl
theorem ev_star (n : Nat) (z : Str) (p c q : Nat) (m : List Tk) (hc : c = 44 ∨ c = 41) : xpD (n + 1) z ((.sgn, [42], p) :: sg1 c q :: m) = .ok (sg1 c q :: m) := by
  rcases hc with rfl | rfl <;> rfl
theorem ev_call (n : Nat) (z : Str) (p p2 p3 c q : Nat) (m : List Tk) (hc : c = 44 ∨ c = 41) : xpD (n + 1) z ((.nam, [110, 97, 109, 101], p) :: (.sgn, [40], p2) :: (.sgn, [41], p3) :: sg1 c q :: m) = .ok (sg1 c q :: m) := by
  rcases hc with rfl | rfl <;> rfl
theorem ev_ts {z : Str} {t : Tk} {c q : Nat} {m : List Tk} (hc : c = 44 ∨ c = 41 ∨ c = 91) (hk : t.1 = .nam) (h : colN z t = false) : tsN z (t :: sg1 c q :: m) = .ok (sg1 c q :: m) := by
  obtain ⟨k, wd, p⟩ := t
  cases hk
  unfold tsN
  dsimp only
  rw [h]
  rcases hc with rfl | rfl | rfl <;> rfl
theorem ev_name (n : Nat) (z : Str) (p c q : Nat) (m : List Tk) (hc : c = 44 ∨ c = 41) (h : colN z (.nam, [97], p) = false) : xpD (n + 1) z ((.nam, [97], p) :: sg1 c q :: m) = .ok (sg1 c q :: m) := by
  show ((((tsN z ((.nam, [97], p) :: sg1 c q :: m)).bind (pdN (xpD n) z)).bind nsN).bind endN) = _
  rw [ev_ts (hc.imp id .inl) rfl h]
  rcases hc with rfl | rfl <;> rfl
theorem ev_var (n : Nat) (z : Str) (p p2 c q : Nat) (m : List Tk) (hc : c = 44 ∨ c = 41) (h : colN z (.nam, [100], p2) = false) (hp : p2 = p + 1) : xpD (n + 1) z ((.sgn, [36], p) :: (.nam, [100], p2) :: sg1 c q :: m) = .ok (sg1 c q :: m) := by
  have e : varN z (.sgn, [36], p) ((.nam, [100], p2) :: sg1 c q :: m) = bhN (sg1 c q :: m) := by
    unfold varN
    dsimp only
    rw [h, decide_eq_true hp]
    rfl
  show ((varN z (.sgn, [36], p) ((.nam, [100], p2) :: sg1 c q :: m)).bind endN) = _
  rw [e]
  rcases hc with rfl | rfl <;> rfl
theorem ev_pred (n : Nat) (z : Str) (p p1 p2 p3 c q : Nat) (m : List Tk) (hc : c = 44 ∨ c = 41) (h : colN z (.nam, [101], p) = false) : xpD (n + 2) z ((.nam, [101], p) :: (.sgn, [91], p1) :: (.num, [49], p2) :: (.sgn, [93], p3) :: sg1 c q :: m) = .ok (sg1 c q :: m) := by
  show ((((tsN z ((.nam, [101], p) :: (.sgn, [91], p1) :: (.num, [49], p2) :: (.sgn, [93], p3) :: sg1 c q :: m)).bind (pdN (xpD (n + 1)) z)).bind nsN).bind endN) = _
  rw [ev_ts (.inr (.inr rfl)) rfl h]
  rcases hc with rfl | rfl <;> rfl
/-! the tokens of single arguments -/
theorem drops {l r : List Nat} {i k : Nat} (h : l.drop i = r) : l.drop (i + k) = r.drop k := by rw [← h, List.drop_drop]
def a9 : List (List Nat) := [[97], [39, 98, 44, 32, 99, 39], [49], [36, 100], [47], [101, 91, 49, 93], [110, 97, 109, 101, 40, 41], [45, 50], [42]]
def b2 : List (List Nat) := [[], [32]]
/-- a drawn argument: blanks, what stands there, blanks -/
abbrev Ar : Type := List Nat × List Nat × List Nat
def Ar.cs (x : Ar) : List Nat := x.1 ++ (x.2.1 ++ x.2.2)
def Ar.Gd (x : Ar) : Prop := x.1 ∈ b2 ∧ x.2.1 ∈ a9 ∧ x.2.2 ∈ b2
theorem ar_ev {x : Ar} (hx : x.Gd) {z : Str} {c i F : Nat} {r : List Nat} (hc : c = 44 ∨ c = 41) (hz : (tl z).drop i = x.cs ++ c :: r) (hF : (x.cs ++ c :: r).length < F) :
    ∃ F' k wd m, r.length < F' ∧ tksN F i (x.cs ++ c :: r) = (k, wd, i + x.1.length) :: m ∧ hsN [")"] (k, wd, i + x.1.length) = false ∧ ∀ n, xpD (n + 2) z (tksN F i (x.cs ++ c :: r)) = .ok (sg1 c (i + x.cs.length) :: tksN F' (i + x.cs.length + 1) r) := by
  obtain ⟨pre, wd, post⟩ := x
  obtain ⟨h1, h2, h3⟩ := hx
  simp only [b2, a9, List.mem_cons, List.not_mem_nil, or_false] at h1 h2 h3
  dsimp only [Ar.cs] at *
  have dz : ∀ k, (tl z).drop (i + k) = (pre ++ (wd ++ post) ++ c :: r).drop k := fun k => drops hz
  rw [List.length_append, List.length_cons] at hF
  obtain ⟨G, rfl⟩ : ∃ G, F = G + ((pre ++ (wd ++ post)).length + 1) := ⟨F - ((pre ++ (wd ++ post)).length + 1), by omega⟩
  have hG : r.length < G := by omega
  clear hz hF
  rcases hc with rfl | rfl <;> rcases h1 with rfl | rfl <;> rcases h3 with rfl | rfl <;> rcases h2 with rfl | rfl | rfl | rfl | rfl | rfl | rfl | rfl | rfl
  · have e : tksN (G + 2) i (97 :: 44 :: r) = (.nam, [97], i) :: sg1 44 (i + 1) :: tksN (G + 0) (i + 2) r := by kernel_rfl
    exact ⟨G + 0, .nam, [97], _, Nat.lt_of_lt_of_le hG (Nat.le_add_right _ _), e, rfl, fun n => (congrArg (xpD (n + 2) z) e).trans (ev_name _ _ _ _ _ _ (.inl rfl) ((congrArg (hP (· == 58)) (dz 1)).trans rfl))⟩
  · have e : tksN (G + 7) i (39 :: 98 :: 44 :: 32 :: 99 :: 39 :: 44 :: r) = (.txt, [39, 98, 44, 32, 99, 39], i) :: sg1 44 (i + 6) :: tksN (G + 5) (i + 7) r := by kernel_rfl
    exact ⟨G + 5, .txt, [39, 98, 44, 32, 99, 39], _, Nat.lt_of_lt_of_le hG (Nat.le_add_right _ _), e, rfl, fun n => (congrArg (xpD (n + 2) z) e).trans (ev_txt _ _ _ _ _ _ (.inl rfl))⟩
  · have e : tksN (G + 2) i (49 :: 44 :: r) = (.num, [49], i) :: sg1 44 (i + 1) :: tksN (G + 0) (i + 2) r := by kernel_rfl
    exact ⟨G + 0, .num, [49], _, Nat.lt_of_lt_of_le hG (Nat.le_add_right _ _), e, rfl, fun n => (congrArg (xpD (n + 2) z) e).trans (ev_num _ _ _ _ _ _ (.inl rfl))⟩
  · have e : tksN (G + 3) i (36 :: 100 :: 44 :: r) = (.sgn, [36], i) :: (.nam, [100], i + 1) :: sg1 44 (i + 2) :: tksN (G + 0) (i + 3) r := by kernel_rfl
    exact ⟨G + 0, .sgn, [36], _, Nat.lt_of_lt_of_le hG (Nat.le_add_right _ _), e, rfl, fun n => (congrArg (xpD (n + 2) z) e).trans (ev_var _ _ _ _ _ _ _ (.inl rfl) ((congrArg (hP (· == 58)) (dz 2)).trans rfl) rfl)⟩
  · have e : tksN (G + 2) i (47 :: 44 :: r) = (.sgn, [47], i) :: sg1 44 (i + 1) :: tksN (G + 0) (i + 2) r := by kernel_rfl
    exact ⟨G + 0, .sgn, [47], _, Nat.lt_of_lt_of_le hG (Nat.le_add_right _ _), e, rfl, fun n => (congrArg (xpD (n + 2) z) e).trans (ev_root _ _ _ _ _ _ (.inl rfl))⟩
  · have e : tksN (G + 5) i (101 :: 91 :: 49 :: 93 :: 44 :: r) = (.nam, [101], i) :: (.sgn, [91], i + 1) :: (.num, [49], i + 2) :: (.sgn, [93], i + 3) :: sg1 44 (i + 4) :: tksN (G + 0) (i + 5) r := by kernel_rfl
    exact ⟨G + 0, .nam, [101], _, Nat.lt_of_lt_of_le hG (Nat.le_add_right _ _), e, rfl, fun n => (congrArg (xpD (n + 2) z) e).trans (ev_pred _ _ _ _ _ _ _ _ _ (.inl rfl) ((congrArg (hP (· == 58)) (dz 1)).trans rfl))⟩
  · have e : tksN (G + 7) i (110 :: 97 :: 109 :: 101 :: 40 :: 41 :: 44 :: r) = (.nam, [110, 97, 109, 101], i) :: (.sgn, [40], i + 4) :: (.sgn, [41], i + 5) :: sg1 44 (i + 6) :: tksN (G + 3) (i + 7) r := by kernel_rfl
    exact ⟨G + 3, .nam, [110, 97, 109, 101], _, Nat.lt_of_lt_of_le hG (Nat.le_add_right _ _), e, rfl, fun n => (congrArg (xpD (n + 2) z) e).trans (ev_call _ _ _ _ _ _ _ _ (.inl rfl))⟩
  · have e : tksN (G + 3) i (45 :: 50 :: 44 :: r) = (.sgn, [45], i) :: (.num, [50], i + 1) :: sg1 44 (i + 2) :: tksN (G + 0) (i + 3) r := by kernel_rfl
    exact ⟨G + 0, .sgn, [45], _, Nat.lt_of_lt_of_le hG (Nat.le_add_right _ _), e, rfl, fun n => (congrArg (xpD (n + 2) z) e).trans (ev_neg _ _ _ _ _ _ _ (.inl rfl))⟩
  · have e : tksN (G + 2) i (42 :: 44 :: r) = (.sgn, [42], i) :: sg1 44 (i + 1) :: tksN (G + 0) (i + 2) r := by kernel_rfl
    exact ⟨G + 0, .sgn, [42], _, Nat.lt_of_lt_of_le hG (Nat.le_add_right _ _), e, rfl, fun n => (congrArg (xpD (n + 2) z) e).trans (ev_star _ _ _ _ _ _ (.inl rfl))⟩
  · have e : tksN (G + 3) i (97 :: 32 :: 44 :: r) = (.nam, [97], i) :: sg1 44 (i + 2) :: tksN (G + 1) (i + 3) r := by kernel_rfl
    exact ⟨G + 1, .nam, [97], _, Nat.lt_of_lt_of_le hG (Nat.le_add_right _ _), e, rfl, fun n => (congrArg (xpD (n + 2) z) e).trans (ev_name _ _ _ _ _ _ (.inl rfl) ((congrArg (hP (· == 58)) (dz 1)).trans rfl))⟩
  · have e : tksN (G + 8) i (39 :: 98 :: 44 :: 32 :: 99 :: 39 :: 32 :: 44 :: r) = (.txt, [39, 98, 44, 32, 99, 39], i) :: sg1 44 (i + 7) :: tksN (G + 6) (i + 8) r := by kernel_rfl
    exact ⟨G + 6, .txt, [39, 98, 44, 32, 99, 39], _, Nat.lt_of_lt_of_le hG (Nat.le_add_right _ _), e, rfl, fun n => (congrArg (xpD (n + 2) z) e).trans (ev_txt _ _ _ _ _ _ (.inl rfl))⟩
  · have e : tksN (G + 3) i (49 :: 32 :: 44 :: r) = (.num, [49], i) :: sg1 44 (i + 2) :: tksN (G + 1) (i + 3) r := by kernel_rfl
    exact ⟨G + 1, .num, [49], _, Nat.lt_of_lt_of_le hG (Nat.le_add_right _ _), e, rfl, fun n => (congrArg (xpD (n + 2) z) e).trans (ev_num _ _ _ _ _ _ (.inl rfl))⟩
  · have e : tksN (G + 4) i (36 :: 100 :: 32 :: 44 :: r) = (.sgn, [36], i) :: (.nam, [100], i + 1) :: sg1 44 (i + 3) :: tksN (G + 1) (i + 4) r := by kernel_rfl
    exact ⟨G + 1, .sgn, [36], _, Nat.lt_of_lt_of_le hG (Nat.le_add_right _ _), e, rfl, fun n => (congrArg (xpD (n + 2) z) e).trans (ev_var _ _ _ _ _ _ _ (.inl rfl) ((congrArg (hP (· == 58)) (dz 2)).trans rfl) rfl)⟩
  · have e : tksN (G + 3) i (47 :: 32 :: 44 :: r) = (.sgn, [47], i) :: sg1 44 (i + 2) :: tksN (G + 1) (i + 3) r := by kernel_rfl
    exact ⟨G + 1, .sgn, [47], _, Nat.lt_of_lt_of_le hG (Nat.le_add_right _ _), e, rfl, fun n => (congrArg (xpD (n + 2) z) e).trans (ev_root _ _ _ _ _ _ (.inl rfl))⟩
  · have e : tksN (G + 6) i (101 :: 91 :: 49 :: 93 :: 32 :: 44 :: r) = (.nam, [101], i) :: (.sgn, [91], i + 1) :: (.num, [49], i + 2) :: (.sgn, [93], i + 3) :: sg1 44 (i + 5) :: tksN (G + 1) (i + 6) r := by kernel_rfl
    exact ⟨G + 1, .nam, [101], _, Nat.lt_of_lt_of_le hG (Nat.le_add_right _ _), e, rfl, fun n => (congrArg (xpD (n + 2) z) e).trans (ev_pred _ _ _ _ _ _ _ _ _ (.inl rfl) ((congrArg (hP (· == 58)) (dz 1)).trans rfl))⟩
  · have e : tksN (G + 8) i (110 :: 97 :: 109 :: 101 :: 40 :: 41 :: 32 :: 44 :: r) = (.nam, [110, 97, 109, 101], i) :: (.sgn, [40], i + 4) :: (.sgn, [41], i + 5) :: sg1 44 (i + 7) :: tksN (G + 4) (i + 8) r := by kernel_rfl
    exact ⟨G + 4, .nam, [110, 97, 109, 101], _, Nat.lt_of_lt_of_le hG (Nat.le_add_right _ _), e, rfl, fun n => (congrArg (xpD (n + 2) z) e).trans (ev_call _ _ _ _ _ _ _ _ (.inl rfl))⟩
  · have e : tksN (G + 4) i (45 :: 50 :: 32 :: 44 :: r) = (.sgn, [45], i) :: (.num, [50], i + 1) :: sg1 44 (i + 3) :: tksN (G + 1) (i + 4) r := by kernel_rfl
    exact ⟨G + 1, .sgn, [45], _, Nat.lt_of_lt_of_le hG (Nat.le_add_right _ _), e, rfl, fun n => (congrArg (xpD (n + 2) z) e).trans (ev_neg _ _ _ _ _ _ _ (.inl rfl))⟩
  · have e : tksN (G + 3) i (42 :: 32 :: 44 :: r) = (.sgn, [42], i) :: sg1 44 (i + 2) :: tksN (G + 1) (i + 3) r := by kernel_rfl
    exact ⟨G + 1, .sgn, [42], _, Nat.lt_of_lt_of_le hG (Nat.le_add_right _ _), e, rfl, fun n => (congrArg (xpD (n + 2) z) e).trans (ev_star _ _ _ _ _ _ (.inl rfl))⟩
  · have e : tksN (G + 3) i (32 :: 97 :: 44 :: r) = (.nam, [97], i + 1) :: sg1 44 (i + 2) :: tksN (G + 1) (i + 3) r := by kernel_rfl
    exact ⟨G + 1, .nam, [97], _, Nat.lt_of_lt_of_le hG (Nat.le_add_right _ _), e, rfl, fun n => (congrArg (xpD (n + 2) z) e).trans (ev_name _ _ _ _ _ _ (.inl rfl) ((congrArg (hP (· == 58)) (dz 2)).trans rfl))⟩
  · have e : tksN (G + 8) i (32 :: 39 :: 98 :: 44 :: 32 :: 99 :: 39 :: 44 :: r) = (.txt, [39, 98, 44, 32, 99, 39], i + 1) :: sg1 44 (i + 7) :: tksN (G + 6) (i + 8) r := by kernel_rfl
    exact ⟨G + 6, .txt, [39, 98, 44, 32, 99, 39], _, Nat.lt_of_lt_of_le hG (Nat.le_add_right _ _), e, rfl, fun n => (congrArg (xpD (n + 2) z) e).trans (ev_txt _ _ _ _ _ _ (.inl rfl))⟩
  · have e : tksN (G + 3) i (32 :: 49 :: 44 :: r) = (.num, [49], i + 1) :: sg1 44 (i + 2) :: tksN (G + 1) (i + 3) r := by kernel_rfl
    exact ⟨G + 1, .num, [49], _, Nat.lt_of_lt_of_le hG (Nat.le_add_right _ _), e, rfl, fun n => (congrArg (xpD (n + 2) z) e).trans (ev_num _ _ _ _ _ _ (.inl rfl))⟩
  · have e : tksN (G + 4) i (32 :: 36 :: 100 :: 44 :: r) = (.sgn, [36], i + 1) :: (.nam, [100], i + 2) :: sg1 44 (i + 3) :: tksN (G + 1) (i + 4) r := by kernel_rfl
    exact ⟨G + 1, .sgn, [36], _, Nat.lt_of_lt_of_le hG (Nat.le_add_right _ _), e, rfl, fun n => (congrArg (xpD (n + 2) z) e).trans (ev_var _ _ _ _ _ _ _ (.inl rfl) ((congrArg (hP (· == 58)) (dz 3)).trans rfl) rfl)⟩
  · have e : tksN (G + 3) i (32 :: 47 :: 44 :: r) = (.sgn, [47], i + 1) :: sg1 44 (i + 2) :: tksN (G + 1) (i + 3) r := by kernel_rfl
    exact ⟨G + 1, .sgn, [47], _, Nat.lt_of_lt_of_le hG (Nat.le_add_right _ _), e, rfl, fun n => (congrArg (xpD (n + 2) z) e).trans (ev_root _ _ _ _ _ _ (.inl rfl))⟩
  · have e : tksN (G + 6) i (32 :: 101 :: 91 :: 49 :: 93 :: 44 :: r) = (.nam, [101], i + 1) :: (.sgn, [91], i + 2) :: (.num, [49], i + 3) :: (.sgn, [93], i + 4) :: sg1 44 (i + 5) :: tksN (G + 1) (i + 6) r := by kernel_rfl
    exact ⟨G + 1, .nam, [101], _, Nat.lt_of_lt_of_le hG (Nat.le_add_right _ _), e, rfl, fun n => (congrArg (xpD (n + 2) z) e).trans (ev_pred _ _ _ _ _ _ _ _ _ (.inl rfl) ((congrArg (hP (· == 58)) (dz 2)).trans rfl))⟩
  · have e : tksN (G + 8) i (32 :: 110 :: 97 :: 109 :: 101 :: 40 :: 41 :: 44 :: r) = (.nam, [110, 97, 109, 101], i + 1) :: (.sgn, [40], i + 5) :: (.sgn, [41], i + 6) :: sg1 44 (i + 7) :: tksN (G + 4) (i + 8) r := by kernel_rfl
    exact ⟨G + 4, .nam, [110, 97, 109, 101], _, Nat.lt_of_lt_of_le hG (Nat.le_add_right _ _), e, rfl, fun n => (congrArg (xpD (n + 2) z) e).trans (ev_call _ _ _ _ _ _ _ _ (.inl rfl))⟩
  · have e : tksN (G + 4) i (32 :: 45 :: 50 :: 44 :: r) = (.sgn, [45], i + 1) :: (.num, [50], i + 2) :: sg1 44 (i + 3) :: tksN (G + 1) (i + 4) r := by kernel_rfl
    exact ⟨G + 1, .sgn, [45], _, Nat.lt_of_lt_of_le hG (Nat.le_add_right _ _), e, rfl, fun n => (congrArg (xpD (n + 2) z) e).trans (ev_neg _ _ _ _ _ _ _ (.inl rfl))⟩
  · have e : tksN (G + 3) i (32 :: 42 :: 44 :: r) = (.sgn, [42], i + 1) :: sg1 44 (i + 2) :: tksN (G + 1) (i + 3) r := by kernel_rfl
    exact ⟨G + 1, .sgn, [42], _, Nat.lt_of_lt_of_le hG (Nat.le_add_right _ _), e, rfl, fun n => (congrArg (xpD (n + 2) z) e).trans (ev_star _ _ _ _ _ _ (.inl rfl))⟩
  · have e : tksN (G + 4) i (32 :: 97 :: 32 :: 44 :: r) = (.nam, [97], i + 1) :: sg1 44 (i + 3) :: tksN (G + 2) (i + 4) r := by kernel_rfl
    exact ⟨G + 2, .nam, [97], _, Nat.lt_of_lt_of_le hG (Nat.le_add_right _ _), e, rfl, fun n => (congrArg (xpD (n + 2) z) e).trans (ev_name _ _ _ _ _ _ (.inl rfl) ((congrArg (hP (· == 58)) (dz 2)).trans rfl))⟩
  · have e : tksN (G + 9) i (32 :: 39 :: 98 :: 44 :: 32 :: 99 :: 39 :: 32 :: 44 :: r) = (.txt, [39, 98, 44, 32, 99, 39], i + 1) :: sg1 44 (i + 8) :: tksN (G + 7) (i + 9) r := by kernel_rfl
    exact ⟨G + 7, .txt, [39, 98, 44, 32, 99, 39], _, Nat.lt_of_lt_of_le hG (Nat.le_add_right _ _), e, rfl, fun n => (congrArg (xpD (n + 2) z) e).trans (ev_txt _ _ _ _ _ _ (.inl rfl))⟩
  · have e : tksN (G + 4) i (32 :: 49 :: 32 :: 44 :: r) = (.num, [49], i + 1) :: sg1 44 (i + 3) :: tksN (G + 2) (i + 4) r := by kernel_rfl
    exact ⟨G + 2, .num, [49], _, Nat.lt_of_lt_of_le hG (Nat.le_add_right _ _), e, rfl, fun n => (congrArg (xpD (n + 2) z) e).trans (ev_num _ _ _ _ _ _ (.inl rfl))⟩
  · have e : tksN (G + 5) i (32 :: 36 :: 100 :: 32 :: 44 :: r) = (.sgn, [36], i + 1) :: (.nam, [100], i + 2) :: sg1 44 (i + 4) :: tksN (G + 2) (i + 5) r := by kernel_rfl
    exact ⟨G + 2, .sgn, [36], _, Nat.lt_of_lt_of_le hG (Nat.le_add_right _ _), e, rfl, fun n => (congrArg (xpD (n + 2) z) e).trans (ev_var _ _ _ _ _ _ _ (.inl rfl) ((congrArg (hP (· == 58)) (dz 3)).trans rfl) rfl)⟩
  · have e : tksN (G + 4) i (32 :: 47 :: 32 :: 44 :: r) = (.sgn, [47], i + 1) :: sg1 44 (i + 3) :: tksN (G + 2) (i + 4) r := by kernel_rfl
    exact ⟨G + 2, .sgn, [47], _, Nat.lt_of_lt_of_le hG (Nat.le_add_right _ _), e, rfl, fun n => (congrArg (xpD (n + 2) z) e).trans (ev_root _ _ _ _ _ _ (.inl rfl))⟩
  · have e : tksN (G + 7) i (32 :: 101 :: 91 :: 49 :: 93 :: 32 :: 44 :: r) = (.nam, [101], i + 1) :: (.sgn, [91], i + 2) :: (.num, [49], i + 3) :: (.sgn, [93], i + 4) :: sg1 44 (i + 6) :: tksN (G + 2) (i + 7) r := by kernel_rfl
    exact ⟨G + 2, .nam, [101], _, Nat.lt_of_lt_of_le hG (Nat.le_add_right _ _), e, rfl, fun n => (congrArg (xpD (n + 2) z) e).trans (ev_pred _ _ _ _ _ _ _ _ _ (.inl rfl) ((congrArg (hP (· == 58)) (dz 2)).trans rfl))⟩
  · have e : tksN (G + 9) i (32 :: 110 :: 97 :: 109 :: 101 :: 40 :: 41 :: 32 :: 44 :: r) = (.nam, [110, 97, 109, 101], i + 1) :: (.sgn, [40], i + 5) :: (.sgn, [41], i + 6) :: sg1 44 (i + 8) :: tksN (G + 5) (i + 9) r := by kernel_rfl
    exact ⟨G + 5, .nam, [110, 97, 109, 101], _, Nat.lt_of_lt_of_le hG (Nat.le_add_right _ _), e, rfl, fun n => (congrArg (xpD (n + 2) z) e).trans (ev_call _ _ _ _ _ _ _ _ (.inl rfl))⟩
  · have e : tksN (G + 5) i (32 :: 45 :: 50 :: 32 :: 44 :: r) = (.sgn, [45], i + 1) :: (.num, [50], i + 2) :: sg1 44 (i + 4) :: tksN (G + 2) (i + 5) r := by kernel_rfl
    exact ⟨G + 2, .sgn, [45], _, Nat.lt_of_lt_of_le hG (Nat.le_add_right _ _), e, rfl, fun n => (congrArg (xpD (n + 2) z) e).trans (ev_neg _ _ _ _ _ _ _ (.inl rfl))⟩
  · have e : tksN (G + 4) i (32 :: 42 :: 32 :: 44 :: r) = (.sgn, [42], i + 1) :: sg1 44 (i + 3) :: tksN (G + 2) (i + 4) r := by kernel_rfl
    exact ⟨G + 2, .sgn, [42], _, Nat.lt_of_lt_of_le hG (Nat.le_add_right _ _), e, rfl, fun n => (congrArg (xpD (n + 2) z) e).trans (ev_star _ _ _ _ _ _ (.inl rfl))⟩
  · have e : tksN (G + 2) i (97 :: 41 :: r) = (.nam, [97], i) :: sg1 41 (i + 1) :: tksN (G + 0) (i + 2) r := by kernel_rfl
    exact ⟨G + 0, .nam, [97], _, Nat.lt_of_lt_of_le hG (Nat.le_add_right _ _), e, rfl, fun n => (congrArg (xpD (n + 2) z) e).trans (ev_name _ _ _ _ _ _ (.inr rfl) ((congrArg (hP (· == 58)) (dz 1)).trans rfl))⟩
  · have e : tksN (G + 7) i (39 :: 98 :: 44 :: 32 :: 99 :: 39 :: 41 :: r) = (.txt, [39, 98, 44, 32, 99, 39], i) :: sg1 41 (i + 6) :: tksN (G + 5) (i + 7) r := by kernel_rfl
    exact ⟨G + 5, .txt, [39, 98, 44, 32, 99, 39], _, Nat.lt_of_lt_of_le hG (Nat.le_add_right _ _), e, rfl, fun n => (congrArg (xpD (n + 2) z) e).trans (ev_txt _ _ _ _ _ _ (.inr rfl))⟩
  · have e : tksN (G + 2) i (49 :: 41 :: r) = (.num, [49], i) :: sg1 41 (i + 1) :: tksN (G + 0) (i + 2) r := by kernel_rfl
    exact ⟨G + 0, .num, [49], _, Nat.lt_of_lt_of_le hG (Nat.le_add_right _ _), e, rfl, fun n => (congrArg (xpD (n + 2) z) e).trans (ev_num _ _ _ _ _ _ (.inr rfl))⟩
  · have e : tksN (G + 3) i (36 :: 100 :: 41 :: r) = (.sgn, [36], i) :: (.nam, [100], i + 1) :: sg1 41 (i + 2) :: tksN (G + 0) (i + 3) r := by kernel_rfl
    exact ⟨G + 0, .sgn, [36], _, Nat.lt_of_lt_of_le hG (Nat.le_add_right _ _), e, rfl, fun n => (congrArg (xpD (n + 2) z) e).trans (ev_var _ _ _ _ _ _ _ (.inr rfl) ((congrArg (hP (· == 58)) (dz 2)).trans rfl) rfl)⟩
  · have e : tksN (G + 2) i (47 :: 41 :: r) = (.sgn, [47], i) :: sg1 41 (i + 1) :: tksN (G + 0) (i + 2) r := by kernel_rfl
    exact ⟨G + 0, .sgn, [47], _, Nat.lt_of_lt_of_le hG (Nat.le_add_right _ _), e, rfl, fun n => (congrArg (xpD (n + 2) z) e).trans (ev_root _ _ _ _ _ _ (.inr rfl))⟩
  · have e : tksN (G + 5) i (101 :: 91 :: 49 :: 93 :: 41 :: r) = (.nam, [101], i) :: (.sgn, [91], i + 1) :: (.num, [49], i + 2) :: (.sgn, [93], i + 3) :: sg1 41 (i + 4) :: tksN (G + 0) (i + 5) r := by kernel_rfl
    exact ⟨G + 0, .nam, [101], _, Nat.lt_of_lt_of_le hG (Nat.le_add_right _ _), e, rfl, fun n => (congrArg (xpD (n + 2) z) e).trans (ev_pred _ _ _ _ _ _ _ _ _ (.inr rfl) ((congrArg (hP (· == 58)) (dz 1)).trans rfl))⟩
  · have e : tksN (G + 7) i (110 :: 97 :: 109 :: 101 :: 40 :: 41 :: 41 :: r) = (.nam, [110, 97, 109, 101], i) :: (.sgn, [40], i + 4) :: (.sgn, [41], i + 5) :: sg1 41 (i + 6) :: tksN (G + 3) (i + 7) r := by kernel_rfl
    exact ⟨G + 3, .nam, [110, 97, 109, 101], _, Nat.lt_of_lt_of_le hG (Nat.le_add_right _ _), e, rfl, fun n => (congrArg (xpD (n + 2) z) e).trans (ev_call _ _ _ _ _ _ _ _ (.inr rfl))⟩
  · have e : tksN (G + 3) i (45 :: 50 :: 41 :: r) = (.sgn, [45], i) :: (.num, [50], i + 1) :: sg1 41 (i + 2) :: tksN (G + 0) (i + 3) r := by kernel_rfl
    exact ⟨G + 0, .sgn, [45], _, Nat.lt_of_lt_of_le hG (Nat.le_add_right _ _), e, rfl, fun n => (congrArg (xpD (n + 2) z) e).trans (ev_neg _ _ _ _ _ _ _ (.inr rfl))⟩
  · have e : tksN (G + 2) i (42 :: 41 :: r) = (.sgn, [42], i) :: sg1 41 (i + 1) :: tksN (G + 0) (i + 2) r := by kernel_rfl
    exact ⟨G + 0, .sgn, [42], _, Nat.lt_of_lt_of_le hG (Nat.le_add_right _ _), e, rfl, fun n => (congrArg (xpD (n + 2) z) e).trans (ev_star _ _ _ _ _ _ (.inr rfl))⟩
  · have e : tksN (G + 3) i (97 :: 32 :: 41 :: r) = (.nam, [97], i) :: sg1 41 (i + 2) :: tksN (G + 1) (i + 3) r := by kernel_rfl
    exact ⟨G + 1, .nam, [97], _, Nat.lt_of_lt_of_le hG (Nat.le_add_right _ _), e, rfl, fun n => (congrArg (xpD (n + 2) z) e).trans (ev_name _ _ _ _ _ _ (.inr rfl) ((congrArg (hP (· == 58)) (dz 1)).trans rfl))⟩
  · have e : tksN (G + 8) i (39 :: 98 :: 44 :: 32 :: 99 :: 39 :: 32 :: 41 :: r) = (.txt, [39, 98, 44, 32, 99, 39], i) :: sg1 41 (i + 7) :: tksN (G + 6) (i + 8) r := by kernel_rfl
    exact ⟨G + 6, .txt, [39, 98, 44, 32, 99, 39], _, Nat.lt_of_lt_of_le hG (Nat.le_add_right _ _), e, rfl, fun n => (congrArg (xpD (n + 2) z) e).trans (ev_txt _ _ _ _ _ _ (.inr rfl))⟩
  · have e : tksN (G + 3) i (49 :: 32 :: 41 :: r) = (.num, [49], i) :: sg1 41 (i + 2) :: tksN (G + 1) (i + 3) r := by kernel_rfl
    exact ⟨G + 1, .num, [49], _, Nat.lt_of_lt_of_le hG (Nat.le_add_right _ _), e, rfl, fun n => (congrArg (xpD (n + 2) z) e).trans (ev_num _ _ _ _ _ _ (.inr rfl))⟩
  · have e : tksN (G + 4) i (36 :: 100 :: 32 :: 41 :: r) = (.sgn, [36], i) :: (.nam, [100], i + 1) :: sg1 41 (i + 3) :: tksN (G + 1) (i + 4) r := by kernel_rfl
    exact ⟨G + 1, .sgn, [36], _, Nat.lt_of_lt_of_le hG (Nat.le_add_right _ _), e, rfl, fun n => (congrArg (xpD (n + 2) z) e).trans (ev_var _ _ _ _ _ _ _ (.inr rfl) ((congrArg (hP (· == 58)) (dz 2)).trans rfl) rfl)⟩
  · have e : tksN (G + 3) i (47 :: 32 :: 41 :: r) = (.sgn, [47], i) :: sg1 41 (i + 2) :: tksN (G + 1) (i + 3) r := by kernel_rfl
    exact ⟨G + 1, .sgn, [47], _, Nat.lt_of_lt_of_le hG (Nat.le_add_right _ _), e, rfl, fun n => (congrArg (xpD (n + 2) z) e).trans (ev_root _ _ _ _ _ _ (.inr rfl))⟩
  · have e : tksN (G + 6) i (101 :: 91 :: 49 :: 93 :: 32 :: 41 :: r) = (.nam, [101], i) :: (.sgn, [91], i + 1) :: (.num, [49], i + 2) :: (.sgn, [93], i + 3) :: sg1 41 (i + 5) :: tksN (G + 1) (i + 6) r := by kernel_rfl
    exact ⟨G + 1, .nam, [101], _, Nat.lt_of_lt_of_le hG (Nat.le_add_right _ _), e, rfl, fun n => (congrArg (xpD (n + 2) z) e).trans (ev_pred _ _ _ _ _ _ _ _ _ (.inr rfl) ((congrArg (hP (· == 58)) (dz 1)).trans rfl))⟩
  · have e : tksN (G + 8) i (110 :: 97 :: 109 :: 101 :: 40 :: 41 :: 32 :: 41 :: r) = (.nam, [110, 97, 109, 101], i) :: (.sgn, [40], i + 4) :: (.sgn, [41], i + 5) :: sg1 41 (i + 7) :: tksN (G + 4) (i + 8) r := by kernel_rfl
    exact ⟨G + 4, .nam, [110, 97, 109, 101], _, Nat.lt_of_lt_of_le hG (Nat.le_add_right _ _), e, rfl, fun n => (congrArg (xpD (n + 2) z) e).trans (ev_call _ _ _ _ _ _ _ _ (.inr rfl))⟩
  · have e : tksN (G + 4) i (45 :: 50 :: 32 :: 41 :: r) = (.sgn, [45], i) :: (.num, [50], i + 1) :: sg1 41 (i + 3) :: tksN (G + 1) (i + 4) r := by kernel_rfl
    exact ⟨G + 1, .sgn, [45], _, Nat.lt_of_lt_of_le hG (Nat.le_add_right _ _), e, rfl, fun n => (congrArg (xpD (n + 2) z) e).trans (ev_neg _ _ _ _ _ _ _ (.inr rfl))⟩
  · have e : tksN (G + 3) i (42 :: 32 :: 41 :: r) = (.sgn, [42], i) :: sg1 41 (i + 2) :: tksN (G + 1) (i + 3) r := by kernel_rfl
    exact ⟨G + 1, .sgn, [42], _, Nat.lt_of_lt_of_le hG (Nat.le_add_right _ _), e, rfl, fun n => (congrArg (xpD (n + 2) z) e).trans (ev_star _ _ _ _ _ _ (.inr rfl))⟩
  · have e : tksN (G + 3) i (32 :: 97 :: 41 :: r) = (.nam, [97], i + 1) :: sg1 41 (i + 2) :: tksN (G + 1) (i + 3) r := by kernel_rfl
    exact ⟨G + 1, .nam, [97], _, Nat.lt_of_lt_of_le hG (Nat.le_add_right _ _), e, rfl, fun n => (congrArg (xpD (n + 2) z) e).trans (ev_name _ _ _ _ _ _ (.inr rfl) ((congrArg (hP (· == 58)) (dz 2)).trans rfl))⟩
  · have e : tksN (G + 8) i (32 :: 39 :: 98 :: 44 :: 32 :: 99 :: 39 :: 41 :: r) = (.txt, [39, 98, 44, 32, 99, 39], i + 1) :: sg1 41 (i + 7) :: tksN (G + 6) (i + 8) r := by kernel_rfl
    exact ⟨G + 6, .txt, [39, 98, 44, 32, 99, 39], _, Nat.lt_of_lt_of_le hG (Nat.le_add_right _ _), e, rfl, fun n => (congrArg (xpD (n + 2) z) e).trans (ev_txt _ _ _ _ _ _ (.inr rfl))⟩
  · have e : tksN (G + 3) i (32 :: 49 :: 41 :: r) = (.num, [49], i + 1) :: sg1 41 (i + 2) :: tksN (G + 1) (i + 3) r := by kernel_rfl
    exact ⟨G + 1, .num, [49], _, Nat.lt_of_lt_of_le hG (Nat.le_add_right _ _), e, rfl, fun n => (congrArg (xpD (n + 2) z) e).trans (ev_num _ _ _ _ _ _ (.inr rfl))⟩
  · have e : tksN (G + 4) i (32 :: 36 :: 100 :: 41 :: r) = (.sgn, [36], i + 1) :: (.nam, [100], i + 2) :: sg1 41 (i + 3) :: tksN (G + 1) (i + 4) r := by kernel_rfl
    exact ⟨G + 1, .sgn, [36], _, Nat.lt_of_lt_of_le hG (Nat.le_add_right _ _), e, rfl, fun n => (congrArg (xpD (n + 2) z) e).trans (ev_var _ _ _ _ _ _ _ (.inr rfl) ((congrArg (hP (· == 58)) (dz 3)).trans rfl) rfl)⟩
  · have e : tksN (G + 3) i (32 :: 47 :: 41 :: r) = (.sgn, [47], i + 1) :: sg1 41 (i + 2) :: tksN (G + 1) (i + 3) r := by kernel_rfl
    exact ⟨G + 1, .sgn, [47], _, Nat.lt_of_lt_of_le hG (Nat.le_add_right _ _), e, rfl, fun n => (congrArg (xpD (n + 2) z) e).trans (ev_root _ _ _ _ _ _ (.inr rfl))⟩
  · have e : tksN (G + 6) i (32 :: 101 :: 91 :: 49 :: 93 :: 41 :: r) = (.nam, [101], i + 1) :: (.sgn, [91], i + 2) :: (.num, [49], i + 3) :: (.sgn, [93], i + 4) :: sg1 41 (i + 5) :: tksN (G + 1) (i + 6) r := by kernel_rfl
    exact ⟨G + 1, .nam, [101], _, Nat.lt_of_lt_of_le hG (Nat.le_add_right _ _), e, rfl, fun n => (congrArg (xpD (n + 2) z) e).trans (ev_pred _ _ _ _ _ _ _ _ _ (.inr rfl) ((congrArg (hP (· == 58)) (dz 2)).trans rfl))⟩
  · have e : tksN (G + 8) i (32 :: 110 :: 97 :: 109 :: 101 :: 40 :: 41 :: 41 :: r) = (.nam, [110, 97, 109, 101], i + 1) :: (.sgn, [40], i + 5) :: (.sgn, [41], i + 6) :: sg1 41 (i + 7) :: tksN (G + 4) (i + 8) r := by kernel_rfl
    exact ⟨G + 4, .nam, [110, 97, 109, 101], _, Nat.lt_of_lt_of_le hG (Nat.le_add_right _ _), e, rfl, fun n => (congrArg (xpD (n + 2) z) e).trans (ev_call _ _ _ _ _ _ _ _ (.inr rfl))⟩
  · have e : tksN (G + 4) i (32 :: 45 :: 50 :: 41 :: r) = (.sgn, [45], i + 1) :: (.num, [50], i + 2) :: sg1 41 (i + 3) :: tksN (G + 1) (i + 4) r := by kernel_rfl
    exact ⟨G + 1, .sgn, [45], _, Nat.lt_of_lt_of_le hG (Nat.le_add_right _ _), e, rfl, fun n => (congrArg (xpD (n + 2) z) e).trans (ev_neg _ _ _ _ _ _ _ (.inr rfl))⟩
  · have e : tksN (G + 3) i (32 :: 42 :: 41 :: r) = (.sgn, [42], i + 1) :: sg1 41 (i + 2) :: tksN (G + 1) (i + 3) r := by kernel_rfl
    exact ⟨G + 1, .sgn, [42], _, Nat.lt_of_lt_of_le hG (Nat.le_add_right _ _), e, rfl, fun n => (congrArg (xpD (n + 2) z) e).trans (ev_star _ _ _ _ _ _ (.inr rfl))⟩
  · have e : tksN (G + 4) i (32 :: 97 :: 32 :: 41 :: r) = (.nam, [97], i + 1) :: sg1 41 (i + 3) :: tksN (G + 2) (i + 4) r := by kernel_rfl
    exact ⟨G + 2, .nam, [97], _, Nat.lt_of_lt_of_le hG (Nat.le_add_right _ _), e, rfl, fun n => (congrArg (xpD (n + 2) z) e).trans (ev_name _ _ _ _ _ _ (.inr rfl) ((congrArg (hP (· == 58)) (dz 2)).trans rfl))⟩
  · have e : tksN (G + 9) i (32 :: 39 :: 98 :: 44 :: 32 :: 99 :: 39 :: 32 :: 41 :: r) = (.txt, [39, 98, 44, 32, 99, 39], i + 1) :: sg1 41 (i + 8) :: tksN (G + 7) (i + 9) r := by kernel_rfl
    exact ⟨G + 7, .txt, [39, 98, 44, 32, 99, 39], _, Nat.lt_of_lt_of_le hG (Nat.le_add_right _ _), e, rfl, fun n => (congrArg (xpD (n + 2) z) e).trans (ev_txt _ _ _ _ _ _ (.inr rfl))⟩
  · have e : tksN (G + 4) i (32 :: 49 :: 32 :: 41 :: r) = (.num, [49], i + 1) :: sg1 41 (i + 3) :: tksN (G + 2) (i + 4) r := by kernel_rfl
    exact ⟨G + 2, .num, [49], _, Nat.lt_of_lt_of_le hG (Nat.le_add_right _ _), e, rfl, fun n => (congrArg (xpD (n + 2) z) e).trans (ev_num _ _ _ _ _ _ (.inr rfl))⟩
  · have e : tksN (G + 5) i (32 :: 36 :: 100 :: 32 :: 41 :: r) = (.sgn, [36], i + 1) :: (.nam, [100], i + 2) :: sg1 41 (i + 4) :: tksN (G + 2) (i + 5) r := by kernel_rfl
    exact ⟨G + 2, .sgn, [36], _, Nat.lt_of_lt_of_le hG (Nat.le_add_right _ _), e, rfl, fun n => (congrArg (xpD (n + 2) z) e).trans (ev_var _ _ _ _ _ _ _ (.inr rfl) ((congrArg (hP (· == 58)) (dz 3)).trans rfl) rfl)⟩
  · have e : tksN (G + 4) i (32 :: 47 :: 32 :: 41 :: r) = (.sgn, [47], i + 1) :: sg1 41 (i + 3) :: tksN (G + 2) (i + 4) r := by kernel_rfl
    exact ⟨G + 2, .sgn, [47], _, Nat.lt_of_lt_of_le hG (Nat.le_add_right _ _), e, rfl, fun n => (congrArg (xpD (n + 2) z) e).trans (ev_root _ _ _ _ _ _ (.inr rfl))⟩
  · have e : tksN (G + 7) i (32 :: 101 :: 91 :: 49 :: 93 :: 32 :: 41 :: r) = (.nam, [101], i + 1) :: (.sgn, [91], i + 2) :: (.num, [49], i + 3) :: (.sgn, [93], i + 4) :: sg1 41 (i + 6) :: tksN (G + 2) (i + 7) r := by kernel_rfl
    exact ⟨G + 2, .nam, [101], _, Nat.lt_of_lt_of_le hG (Nat.le_add_right _ _), e, rfl, fun n => (congrArg (xpD (n + 2) z) e).trans (ev_pred _ _ _ _ _ _ _ _ _ (.inr rfl) ((congrArg (hP (· == 58)) (dz 2)).trans rfl))⟩
  · have e : tksN (G + 9) i (32 :: 110 :: 97 :: 109 :: 101 :: 40 :: 41 :: 32 :: 41 :: r) = (.nam, [110, 97, 109, 101], i + 1) :: (.sgn, [40], i + 5) :: (.sgn, [41], i + 6) :: sg1 41 (i + 8) :: tksN (G + 5) (i + 9) r := by kernel_rfl
    exact ⟨G + 5, .nam, [110, 97, 109, 101], _, Nat.lt_of_lt_of_le hG (Nat.le_add_right _ _), e, rfl, fun n => (congrArg (xpD (n + 2) z) e).trans (ev_call _ _ _ _ _ _ _ _ (.inr rfl))⟩
  · have e : tksN (G + 5) i (32 :: 45 :: 50 :: 32 :: 41 :: r) = (.sgn, [45], i + 1) :: (.num, [50], i + 2) :: sg1 41 (i + 4) :: tksN (G + 2) (i + 5) r := by kernel_rfl
    exact ⟨G + 2, .sgn, [45], _, Nat.lt_of_lt_of_le hG (Nat.le_add_right _ _), e, rfl, fun n => (congrArg (xpD (n + 2) z) e).trans (ev_neg _ _ _ _ _ _ _ (.inr rfl))⟩
  · have e : tksN (G + 4) i (32 :: 42 :: 32 :: 41 :: r) = (.sgn, [42], i + 1) :: sg1 41 (i + 3) :: tksN (G + 2) (i + 4) r := by kernel_rfl
    exact ⟨G + 2, .sgn, [42], _, Nat.lt_of_lt_of_le hG (Nat.le_add_right _ _), e, rfl, fun n => (congrArg (xpD (n + 2) z) e).trans (ev_star _ _ _ _ _ _ (.inr rfl))⟩
end K20
/-! K20Eb -/
namespace K20
open PySem PySem.Spec PyProof.Rows L2 TL
/-! what a whole call comes to -/
def txA (b : Bool) : List Ar → List Nat
  | [] => []
  | x :: xs => (if b then [44] else []) ++ (x.cs ++ txA true xs)
def mayN (x : Int × Option Int) (n : Nat) : Bool := decide ((n : Int) < x.1) || (match x.2 with | none => true | some m => decide ((n : Int) < m))
/-- behind n arguments, at i -/
def dueN (x : Int × Option Int) : Nat → Nat → List Ar → Rs
  | n, i, [] => if (n : Int) < x.1 then .no i else .ok [(.fin, [], i + 1)]
  | n, i, a :: as => if mayN x n then dueN x (n + 1) (i + 1 + a.cs.length) as else .no i
theorem tks_c {c i F : Nat} {r : List Nat} (hc : c = 44 ∨ c = 41) : tksN (F + 1) i (c :: r) = sg1 c i :: tksN F (i + 1) r := by
  rcases hc with rfl | rfl <;> kernel_rfl
theorem tks_end {i F : Nat} (hF : 1 < F) : tksN F i [41] = [sg1 41 i, (.fin, [], i + 1)] := by
  obtain ⟨G, rfl⟩ : ∃ G, F = G + 2 := ⟨F - 2, by omega⟩
  kernel_rfl
theorem txA_hd (as : List Ar) : ∃ c r, (c = 44 ∨ c = 41) ∧ txA true as ++ [41] = c :: r := by
  cases as with
  | nil => exact ⟨41, [], .inr rfl, rfl⟩
  | cons a as => exact ⟨44, _, .inl rfl, rfl⟩
/-- an argument and what is behind it -/
theorem arg_ev {a : Ar} {as : List Ar} (ha : a.Gd) {z : Str} {i F : Nat} (hz : (tl z).drop i = a.cs ++ (txA true as ++ [41])) (hF : (a.cs ++ (txA true as ++ [41])).length < F) :
    ∃ F' k wd m, (txA true as ++ [41]).length < F' ∧ tksN F i (a.cs ++ (txA true as ++ [41])) = (k, wd, i + a.1.length) :: m ∧ hsN [")"] (k, wd, i + a.1.length) = false ∧ ∀ n, xpD (n + 2) z (tksN F i (a.cs ++ (txA true as ++ [41]))) = .ok (tksN F' (i + a.cs.length) (txA true as ++ [41])) := by
  obtain ⟨c, r, hc, e⟩ := txA_hd as
  rw [e] at hz hF ⊢
  obtain ⟨F', k, wd, m, h1, h2, h3, h4⟩ := ar_ev ha hc hz hF
  refine ⟨F' + 1, k, wd, m, ?_, h2, h3, fun n => ?_⟩
  · show r.length + 1 < F' + 1
    omega
  · rw [h4, tks_c hc]
theorem xb_c {c i : Nat} {m : List Tk} : xbN "," (sg1 44 i :: m) = .ok m := rfl
theorem ar_all {z : Str} {x : Int × Option Int} : ∀ (as : List Ar) (f n i F : Nat), (∀ a ∈ as, a.Gd) → as.length < f → (tl z).drop i = txA true as ++ [41] → (txA true as ++ [41]).length < F →
    arN (xpD 2) z x f n (tksN F i (txA true as ++ [41])) = dueN x n i as := by
  intro as
  induction as with
  | nil =>
    intro f n i F hg hf hz hF
    obtain ⟨f, rfl⟩ : ∃ g, f = g + 1 := ⟨f - 1, by omega⟩
    show arN (xpD 2) z x (f + 1) n (tksN F i [41]) = _
    rw [tks_end (by exact hF)]
    show (if moreN x n [sg1 41 i, (.fin, [], i + 1)] = true then _ else _) = if (n : Int) < x.1 then _ else _
    have e : moreN x n [sg1 41 i, (.fin, [], i + 1)] = decide ((n : Int) < x.1) := by
      show (decide _ || (false && _)) = _
      rw [Bool.false_and, Bool.or_false]
    rw [e]
    by_cases h : (n : Int) < x.1
    · rw [decide_eq_true h, if_pos rfl, if_pos h]
      rfl
    · rw [decide_eq_false h, if_neg Bool.false_ne_true, if_neg h]
      rfl
  | cons a as ih =>
    intro f n i F hg hf hz hF
    obtain ⟨f, rfl⟩ : ∃ g, f = g + 1 := ⟨f - 1, by omega⟩
    have hz2 : (tl z).drop i = 44 :: (a.cs ++ (txA true as ++ [41])) := by
      rw [hz]
      show ([44] ++ (a.cs ++ txA true as)) ++ [41] = _
      rw [List.append_assoc, List.append_assoc]
      rfl
    have e0 : txA true (a :: as) ++ [41] = 44 :: (a.cs ++ (txA true as ++ [41])) := hz.symm.trans hz2
    rw [e0] at hF ⊢
    obtain ⟨F, rfl⟩ : ∃ g, F = g + 1 := ⟨F - 1, by omega⟩
    rw [tks_c (.inl rfl)]
    show (if moreN x n (sg1 44 i :: tksN F (i + 1) (a.cs ++ (txA true as ++ [41]))) = true then ((Rs.ok (tksN F (i + 1) (a.cs ++ (txA true as ++ [41])))).bind (xpD 2 z)).bind (arN (xpD 2) z x f (n + 1)) else .no i) = if mayN x n = true then _ else _
    have e : moreN x n (sg1 44 i :: tksN F (i + 1) (a.cs ++ (txA true as ++ [41]))) = mayN x n := by
      show (decide _ || (true && _)) = _
      rw [Bool.true_and]
      rfl
    rw [e]
    cases mayN x n with
    | false => rfl
    | true =>
      rw [if_pos rfl, if_pos rfl]
      have hz3 : (tl z).drop (i + 1) = a.cs ++ (txA true as ++ [41]) := (drop_cons hz2).2
      obtain ⟨F', k, wd, m, h1, h2, h3, h4⟩ := arg_ev (F := F) (hg a List.mem_cons_self) hz3 (by rw [List.length_cons] at hF; omega)
      show (xpD 2 z (tksN F (i + 1) (a.cs ++ (txA true as ++ [41])))).bind (arN (xpD 2) z x f (n + 1)) = _
      rw [h4 0]
      refine ih f (n + 1) (i + 1 + a.cs.length) F' (fun b hb => hg b (List.mem_cons_of_mem _ hb)) (by rw [List.length_cons] at hf; omega) ?_ h1
      rw [drops hz3, List.drop_left]
end K20
/-! K20Ec -/
namespace K20
open PySem PySem.Spec PyProof.Rows L2 TL
/-! a call: its text, what is due, and that it comes so -/
def wdOk (wd : List Nat) : Bool := hP isLt wd && wd.all isWd
def xOf (lo hi : Nat) : Int × Option Int := ((lo : Int), if hi = 9 then none else some (hi : Int))
def loHi : List (Nat × Nat) := [(0, 0), (2, 2), (0, 1), (1, 1), (2, 9), (2, 3), (3, 3)]
def wdIs (lo hi : Nat) (wd : List Nat) : Bool := wdOk wd && (decide ((fnLook wd) = some (xOf lo hi)) && decide ((lo, hi) ∈ loHi) ||
  (decide (lo = 9) && (fnLook wd).isNone && !(axesL.any fun u => decide (tl u = wd)) && !decide (mkS wd ∈ kindsKeys)))
/-- the text of a call -/
def calL (a0 wd a1 : List Nat) (as : List Ar) : List Nat := a0 ++ (wd ++ (a1 ++ 40 :: (txA false as ++ [41])))
/-- the places that are told, behind one argument -/
def spA : Nat → List Ar → List Nat
  | i, [] => [i]
  | i, a :: as => i :: (i + 1 + a.1.length) :: spA (i + 1 + a.cs.length) as
def spO (p : Nat) : List Ar → List Nat
  | [] => [p, p + 1]
  | a :: as => p :: (p + 1 + a.1.length) :: spA (p + 1 + a.cs.length) as
def wantN (lo hi many : Nat) (sp : List Nat) : Option Nat :=
  if lo ≤ many ∧ many ≤ hi then none else if lo = 9 then sp[0]? else if many < lo then sp.getLast? else sp[if hi = 0 then 1 else 2 * hi]?
def RsW : Rs → Option Nat → Prop
  | .ok _, none => True
  | .no p, some q => p = q
  | _, _ => False
theorem spN_all {p : Nat → Bool} {c : Nat} {r : List Nat} (hc : p c = false) : ∀ l : List Nat, l.all p = true → spN p (l ++ c :: r) = l.length
  | [], _ => by
    show (if p c = true then _ else 0) = 0
    rw [hc, if_neg Bool.false_ne_true]
  | d :: l, h => by
    rw [List.all_cons, Bool.and_eq_true] at h
    show (if p d = true then spN p (l ++ c :: r) + 1 else 0) = l.length + 1
    rw [if_pos h.1, spN_all hc l h.2]
theorem tk_word {wd : List Nat} {c : Nat} {r : List Nat} (h : wdOk wd = true) (hc : c = 32 ∨ c = 40) : tkN (wd ++ c :: r) = (.nam, wd.length) := by
  unfold wdOk at h
  rw [Bool.and_eq_true] at h
  obtain ⟨h1, h2⟩ := h
  have e := spN_all (p := isWd) (c := c) (r := r) (by rcases hc with rfl | rfl <;> rfl) wd h2
  cases wd with
  | nil => cases h1
  | cons d l =>
    have hd : isLt d = true := h1
    have et : tkN (d :: l ++ c :: r) = if isLt d = true then (.nam, nmN (d :: l ++ c :: r)) else _ := rfl
    rw [et, if_pos hd]
    unfold nmN
    rw [e, List.drop_left]
    have : hP (· == 58) (c :: r) = false := by rcases hc with rfl | rfl <;> rfl
    rw [this, Bool.false_and, if_neg Bool.false_ne_true]
theorem lt_nbl {c : Nat} (h : isLt c = true) : isBl c = false := by
  cases q : isBl c with
  | false => rfl
  | true =>
    unfold isBl at q
    simp only [Bool.or_eq_true, beq_iff_eq] at q
    rcases q with (rfl | rfl) | rfl <;> cases h
theorem tks_word {a0 wd : List Nat} {c i F : Nat} {r : List Nat} (ha : a0 ∈ b2) (h : wdOk wd = true) (hc : c = 32 ∨ c = 40) :
    tksN (F + 1) i (a0 ++ (wd ++ c :: r)) = (.nam, wd, i + a0.length) :: tksN F (i + a0.length + wd.length) (c :: r) := by
  have e := tk_word (r := r) h hc
  have hs : spN isBl (a0 ++ (wd ++ c :: r)) = a0.length := by
    cases wd with
    | nil => cases h
    | cons d l =>
      unfold wdOk at h
      rw [Bool.and_eq_true] at h
      have hd : isLt d = true := h.1
      refine spN_all (lt_nbl hd) a0 ?_
      simp only [b2, List.mem_cons, List.not_mem_nil, or_false] at ha
      rcases ha with rfl | rfl <;> rfl
  have e2 : tksN (F + 1) i (a0 ++ (wd ++ c :: r)) = ((tkN ((a0 ++ (wd ++ c :: r)).drop (spN isBl (a0 ++ (wd ++ c :: r))))).1, ((a0 ++ (wd ++ c :: r)).drop (spN isBl (a0 ++ (wd ++ c :: r)))).take (tkN ((a0 ++ (wd ++ c :: r)).drop (spN isBl (a0 ++ (wd ++ c :: r))))).2, i + spN isBl (a0 ++ (wd ++ c :: r))) ::
      if (tkN ((a0 ++ (wd ++ c :: r)).drop (spN isBl (a0 ++ (wd ++ c :: r))))).1.ends = true then [] else
        tksN F (i + spN isBl (a0 ++ (wd ++ c :: r)) + (((a0 ++ (wd ++ c :: r)).drop (spN isBl (a0 ++ (wd ++ c :: r)))).take (tkN ((a0 ++ (wd ++ c :: r)).drop (spN isBl (a0 ++ (wd ++ c :: r))))).2).length)
          ((a0 ++ (wd ++ c :: r)).drop (spN isBl (a0 ++ (wd ++ c :: r)) + (((a0 ++ (wd ++ c :: r)).drop (spN isBl (a0 ++ (wd ++ c :: r)))).take (tkN ((a0 ++ (wd ++ c :: r)).drop (spN isBl (a0 ++ (wd ++ c :: r))))).2).length)) := rfl
  rw [e2, hs, ← List.drop_drop, List.drop_left, e]
  show (Ki.nam, (wd ++ c :: r).take wd.length, i + a0.length) :: (if false = true then [] else tksN F (i + a0.length + ((wd ++ c :: r).take wd.length).length) ((wd ++ c :: r).drop ((wd ++ c :: r).take wd.length).length)) = _
  rw [List.take_left, List.drop_left, if_neg Bool.false_ne_true]
theorem tks_par {a1 : List Nat} {i F : Nat} {r : List Nat} (ha : a1 ∈ b2) : tksN (F + 1) i (a1 ++ 40 :: r) = (.sgn, [40], i + a1.length) :: tksN F (i + a1.length + 1) r := by
  simp only [b2, List.mem_cons, List.not_mem_nil, or_false] at ha
  rcases ha with rfl | rfl <;> kernel_rfl
end K20
/-! K20Ed -/
namespace K20
open PySem PySem.Spec PyProof.Rows L2 TL
theorem op_nam (ex : Str → List Tk → Rs) (z : Str) (wd : List Nat) (p : Nat) (u : Tk) (r : List Tk) :
    opN ex z ((.nam, wd, p) :: u :: r) = if isCallN (.nam, wd, p) (u :: r) = true then (clN ex z ((.nam, wd, p) :: u :: r)).bind bhN else ssN ex z ((.nam, wd, p) :: u :: r) := rfl
theorem xp_nam (n : Nat) (z : Str) (wd : List Nat) (p : Nat) (u : Tk) (r : List Tk) : xpD (n + 1) z ((.nam, wd, p) :: u :: r) = (opN (xpD n) z ((.nam, wd, p) :: u :: r)).bind endN := rfl
/-- what follows the call, when the call is taken: the end -/
theorem tl_end {p : Nat} : (((Rs.ok [(.fin, [], p)]).bind bhN).bind endN).bind atEnd = .ok [(.fin, [], p)] := by kernel_rfl
theorem tl_no {p : Nat} : (((Rs.no p).bind bhN).bind endN).bind atEnd = .no p := rfl
theorem call_ev {lo hi : Nat} {a0 wd a1 : List Nat} {as : List Ar} (h0 : a0 ∈ b2) (hw : wdIs lo hi wd = true) (h1 : a1 ∈ b2) (hg : ∀ a ∈ as, a.Gd) (hm : as.length ≤ 4) {z : Str} (hz : tl z = calL a0 wd a1 as) :
    RsW (rpN 3 z (tokL z)) (wantN lo hi as.length (spO (a0.length + wd.length + a1.length) as)) := by
  unfold wdIs at hw
  rw [Bool.and_eq_true] at hw
  obtain ⟨hw, hx⟩ := hw
  have hlen : z.length = (calL a0 wd a1 as).length := by rw [len_tl, hz]
  -- the tokens
  obtain ⟨c, r1, hc, e1⟩ : ∃ c r1, (c = 32 ∨ c = 40) ∧ a1 ++ 40 :: (txA false as ++ [41]) = c :: r1 := by
    simp only [b2, List.mem_cons, List.not_mem_nil, or_false] at h1
    rcases h1 with rfl | rfl
    · exact ⟨40, _, .inr rfl, rfl⟩
    · exact ⟨32, _, .inl rfl, rfl⟩
  obtain ⟨F, hF, hFl⟩ : ∃ F, z.length + 1 = F + 2 ∧ (txA false as ++ [41]).length < F + 0 := by
    have hwl : 1 ≤ wd.length := by
      cases wd with
      | nil => cases hw
      | cons d l => exact Nat.succ_pos _
    refine ⟨z.length - 1, ?_, ?_⟩
    · rw [hlen]
      unfold calL
      simp only [List.length_append, List.length_cons]
      omega
    · rw [hlen]
      unfold calL
      simp only [List.length_append, List.length_cons, List.length_nil]
      omega
  have et : tokL z = (.nam, wd, a0.length) :: (.sgn, [40], a0.length + wd.length + a1.length) :: tksN F (a0.length + wd.length + a1.length + 1) (txA false as ++ [41]) := by
    unfold tokL
    rw [hz, hF]
    unfold calL
    rw [e1, tks_word h0 hw hc, ← e1, tks_par h1, Nat.zero_add]
  rw [et]
  generalize hp : a0.length + wd.length + a1.length = p at *
  have hzp : (tl z).drop (p + 1) = txA false as ++ [41] := by
    rw [hz]
    unfold calL
    have : a0 ++ (wd ++ (a1 ++ 40 :: (txA false as ++ [41]))) = (a0 ++ (wd ++ (a1 ++ [40]))) ++ (txA false as ++ [41]) := by simp only [List.append_assoc, List.cons_append, List.nil_append]
    rw [this]
    refine List.drop_left' ?_
    simp only [List.length_append, List.length_cons, List.length_nil]
    omega
  unfold rpN
  rw [xp_nam, op_nam]
  rw [Bool.or_eq_true] at hx
  rcases hx with hx | hx
  · rw [Bool.and_eq_true] at hx
    have hf := of_decide_eq_true hx.1
    have hl := of_decide_eq_true hx.2
    have hcall : isCallN (.nam, wd, a0.length) ((.sgn, [40], p) :: tksN F (p + 1) (txA false as ++ [41])) = true := by
      show (true && ((fnLook wd).isSome && (true && true))) = true
      rw [hf]
      rfl
    rw [hcall, if_pos rfl]
    cases as with
    | nil =>
      have e2 : tksN F (p + 1) (txA false [] ++ [41]) = [sg1 41 (p + 1), (.fin, [], p + 1 + 1)] := tks_end (by exact hFl)
      rw [e2]
      have ecl : clN (xpD 2) z ((.nam, wd, a0.length) :: (.sgn, [40], p) :: [sg1 41 (p + 1), (.fin, [], p + 1 + 1)]) = if (decide ((xOf lo hi).2 = some 0) || (decide ((xOf lo hi).1 = 0) && true)) = true then .ok [(.fin, [], p + 1 + 1)] else .no (p + 1) := by
        unfold clN
        dsimp only
        rw [hf]
        rfl
      rw [ecl]
      simp only [loHi, List.mem_cons, List.not_mem_nil, or_false] at hl
      rcases hl with hl | hl | hl | hl | hl | hl | hl <;> cases hl
      · exact trivial
      · rfl
      · exact trivial
      · rfl
      · rfl
      · rfl
      · rfl
    | cons a as =>
      have hza : (tl z).drop (p + 1) = a.cs ++ (txA true as ++ [41]) := by
        rw [hzp]
        show ([] ++ (a.cs ++ txA true as)) ++ [41] = _
        rw [List.nil_append, List.append_assoc]
      have eta : txA false (a :: as) ++ [41] = a.cs ++ (txA true as ++ [41]) := hzp.symm.trans hza
      rw [eta] at hFl ⊢
      obtain ⟨F', k, wd2, m, g1, g2, g3, g4⟩ := arg_ev (F := F) (hg a List.mem_cons_self) hza hFl
      have hall := ar_all (x := xOf lo hi) as 9 1 (p + 1 + a.cs.length) F' (fun b hb => hg b (List.mem_cons_of_mem _ hb)) (by rw [List.length_cons] at hm; omega) (by rw [drops hza, List.drop_left]) g1
      have ecl : clN (xpD 2) z ((.nam, wd, a0.length) :: (.sgn, [40], p) :: tksN F (p + 1) (a.cs ++ (txA true as ++ [41]))) = if (decide ((xOf lo hi).2 = some 0) || (decide ((xOf lo hi).1 = 0) && false)) = true then .no (p + 1 + a.1.length) else dueN (xOf lo hi) 1 (p + 1 + a.cs.length) as := by
        have e4 := g4 0
        rw [g2] at e4 ⊢
        unfold clN
        dsimp only
        rw [hf]
        show (if (decide ((xOf lo hi).2 = some 0) || (decide ((xOf lo hi).1 = 0) && hsN [")"] (k, wd2, p + 1 + a.1.length))) = true then exN ")" ((k, wd2, p + 1 + a.1.length) :: m) else (xpD 2 z ((k, wd2, p + 1 + a.1.length) :: m)).bind (arN (xpD 2) z (xOf lo hi) 9 1)) = _
        rw [g3, e4]
        have ex1 : exN ")" ((k, wd2, p + 1 + a.1.length) :: m) = .no (p + 1 + a.1.length) := by
          show (if hsN [")"] (k, wd2, p + 1 + a.1.length) = true then _ else _) = _
          rw [g3, if_neg Bool.false_ne_true]
        rw [ex1, ← hall]
        rfl
      rw [ecl]
      simp only [loHi, List.mem_cons, List.not_mem_nil, or_false] at hl
      match as, hm with
      | [], _ => rcases hl with hl | hl | hl | hl | hl | hl | hl <;> cases hl <;> first | exact trivial | rfl
      | [b], _ => rcases hl with hl | hl | hl | hl | hl | hl | hl <;> cases hl <;> first | exact trivial | rfl
      | [b, c], _ => rcases hl with hl | hl | hl | hl | hl | hl | hl <;> cases hl <;> first | exact trivial | rfl
      | [b, c, d], _ => rcases hl with hl | hl | hl | hl | hl | hl | hl <;> cases hl <;> first | exact trivial | rfl
      | b :: c :: d :: e :: r, hm => 
        simp only [List.length_cons] at hm
        omega
  · rw [Bool.and_eq_true, Bool.and_eq_true, Bool.and_eq_true] at hx
    obtain ⟨⟨⟨hx1, hx2⟩, hx3⟩, hx4⟩ := hx
    have hl := of_decide_eq_true hx1
    rw [Option.isNone_iff_eq_none] at hx2
    rw [Bool.not_eq_true'] at hx3 hx4
    have hcall : isCallN (.nam, wd, a0.length) ((.sgn, [40], p) :: tksN F (p + 1) (txA false as ++ [41])) = false := by
      show (true && ((fnLook wd).isSome && (true && true))) = false
      rw [hx2]
      rfl
    rw [hcall, if_neg Bool.false_ne_true]
    have hcol : colN z (.nam, wd, a0.length) = false := by
      have : (tl z).drop (a0.length + wd.length) = c :: r1 := by
        rw [hz]
        unfold calL
        rw [e1, ← List.append_assoc]
        exact List.drop_left' (List.length_append)
      show hP (· == 58) ((tl z).drop (a0.length + wd.length)) = false
      rw [this]
      rcases hc with rfl | rfl <;> rfl
    have ets : tsN z ((.nam, wd, a0.length) :: (.sgn, [40], p) :: tksN F (p + 1) (txA false as ++ [41])) = .no p := by
      unfold tsN
      dsimp only
      rw [hcol, hx4]
      rfl
    have est : stN (xpD 2) z ((.nam, wd, a0.length) :: (.sgn, [40], p) :: tksN F (p + 1) (txA false as ++ [41])) = .no p := by
      unfold stN
      dsimp only
      rw [hx3, ets]
      rfl
    have ess : ssN (xpD 2) z ((.nam, wd, a0.length) :: (.sgn, [40], p) :: tksN F (p + 1) (txA false as ++ [41])) = .no p := by
      unfold ssN
      rw [est]
      rfl
    rw [ess]
    have ewn : wantN lo hi as.length (spO p as) = some p := by
      unfold wantN
      rw [if_neg (by omega), if_pos hl]
      cases as <;> rfl
    rw [ewn]
    rfl
end K20
/-! K20La -/
namespace K20
open PySem PySem.Spec PyProof.Rows L2 TL
/-- a source of draws -/
def Wl (H : Hp) (p : Addr) : Prop := ∃ a b c : Int, H p = some (.lst [.int a, .int b, .int c])
theorem Wl.at {H H' : Hp} {p : Addr} (h : Wl H p) (s : Same H H') : Wl H' p := by
  obtain ⟨a, b, c, e⟩ := h
  exact ⟨a, b, c, s _ _ e⟩
theorem Wl.ne {H : Hp} {p q : Addr} (h : Wl H p) (e : H q = none) : q ≠ p := by
  rintro rfl
  obtain ⟨a, b, c, z⟩ := h
  rw [e] at z
  cases z
theorem fmod_rng (a : Int) {b : Int} (hb : 0 < b) : 0 ≤ a.fmod b ∧ a.fmod b < b := ⟨Int.fmod_nonneg_of_pos a hb, Int.fmod_lt_of_pos a hb⟩
section
variable {P : Program} {w : World} {K : PySem.W.Frag} {mg : Str → Option Value} {base : Heap}
def spDraw : Sp := fun vs H Q _ => ∃ (p : Addr) (n : Nat), vs = [.ref p, .int (n : Int)] ∧ Wl H p ∧ 1 ≤ n ∧ n < 1000000000 ∧
  ∀ H' (k : Nat), SameB p H H' → Wl H' p → k < n → Q (.int (k : Int)) H'
theorem ok_Ldraw (T : Tx w K mg) : Ok P w K mg base CX0 1 (He.fAd K d_Ldraw.at_) p_Ldraw spDraw := by
  obtain ⟨fd, F⟩ := f_Ldraw T
  refine ⟨fd, ?_, b_Ldraw F, F.kp⟩
  refine F.ok sc_Ldraw (fun vs H Q E h => ?_) (fun cdv A outer s H vs Q E hr h => ?_)
  · obtain ⟨p, n, rfl, _⟩ := h
    rfl
  · obtain ⟨p, n, rfl, ⟨a, b, c, hp⟩, hn, hn2, kk⟩ := h
    have nd := sc_Ldraw.nd
    refine ⟨_, PSs.nox (pss_cons (ps_if (pt_cmpR op_ge (pe_ix ix_list (pv 0) pe_int (fun _ _ => rfl)) (pe_op op_pow pe_int pe_int) (nomark _))
        (pss_cons (ps_set (i := 2) nd rfl (.inl rfl) (pe_op op_modN (pe_callTy call_int1 (by rfl) (n_int T) boot_int (pa_cons (pe_ix ix_list (pv 0) pe_int (fun _ _ => rfl)) pa_nil)) (pv 1)))
        (pss_cons (ps_asg (pe_op op_fdivW (pe_ix ix_list (pv 0) pe_int (fun _ _ => rfl)) (pv 1)) (pg_sub (pv 0) pe_int set_list))
        (pss_one (ps_ret (pv 2))))) pss_nil)
      (pss_cons (ps_asg (pe_op op_add (pe_ix ix_list (pv 0) pe_int (fun _ _ => rfl)) pe_int) (pg_sub (pv 0) pe_int set_list))
      (pss_cons (ps_set (i := 3) nd rfl (.inl rfl) (pe_op op_modN (pe_callTy call_int1 (by rfl) (n_int T) boot_int (pa_cons (pe_op op_mul (pe_op op_add (pe_op op_add (pe_op op_modN (pe_callTy call_int1 (by rfl) (n_int T) boot_int (pa_cons (pe_ix ix_list (pv 0) pe_int (fun _ _ => rfl)) pa_nil)) pe_int)
          (pe_op op_mul pe_int (pe_ix ix_list (pv 0) pe_int (fun _ _ => rfl)))) pe_int) pe_int) pa_nil)) pe_int))
      (pss_cons (ps_set (i := 3) nd rfl (.inl rfl) (pe_op op_modN (pe_callTy call_int1 (by rfl) (n_int T) boot_int (pa_cons (pe_op op_mul (pv 3) (pe_op op_add (pe_op op_fdivN (pv 3) pe_int) pe_int)) pa_nil)) pe_int))
      (pss_one (ps_ret (pe_op op_modN (pe_op op_modN (pe_callTy call_int1 (by rfl) (n_int T) boot_int (pa_cons (pe_op op_mul (pv 3) (pe_op op_add (pe_op op_fdivN (pv 3) pe_int) pe_int)) pa_nil)) pe_int) (pv 1)))))))), ?_⟩
    have hn0 : (0 : Int) < (n : Int) := by omega
    have fin : ∀ (x : Int) (H' : Hp), SameB p H H' → Wl H' p → Q (.int (x.fmod (n : Int))) H' := by
      intro x H' s1 w1
      obtain ⟨h2, h3⟩ := fmod_rng x hn0
      have := kk H' (x.fmod (n : Int)).toNat s1 w1 (by omega)
      rw [Int.toNat_of_nonneg h2] at this
      exact this
    refine ⟨_, rfl, p, _, 0, _, rfl, rfl, SqL.of hp, rfl, _, _, rfl, rfl, ⟨by decide, by decide, by decide⟩, _, _, rfl, rfl, _, rfl, ?_⟩
    refine ite2 (fun y => ?_) (fun y => ?_)
    · refine ⟨_, rfl, p, _, 0, _, rfl, rfl, SqL.of hp, rfl, .inl ⟨_, rfl, _, rfl, _, _, rfl, rfl, by omega, ?_⟩⟩
      refine ⟨_, rfl, p, _, 0, _, rfl, rfl, SqL.of hp, rfl, _, rfl, _, _, rfl, rfl, wide_div (b := 30) hn0 (by omega) (by decide) (by decide), ?_⟩
      refine ⟨_, rfl, p, _, 0, 0, rfl, rfl, hp, rfl, _, rfl, ?_⟩
      exact fin a _ .up ⟨_, b, c, upd_same⟩
    · refine ⟨_, rfl, p, _, 2, _, rfl, rfl, SqL.of hp, rfl, _, _, rfl, rfl, ?_⟩
      refine ⟨_, rfl, p, _, 2, 2, rfl, rfl, hp, rfl, ?_⟩
      have hp2 : upd H p (.lst [.int a, .int b, .int (c + 1)]) p = some (.lst [.int a, .int b, .int (c + 1)]) := upd_same
      have hq2 : SameB p H (upd H p (.lst [.int a, .int b, .int (c + 1)])) := .up
      generalize hH2 : upd H p (.lst [.int a, .int b, .int (c + 1)]) = H2 at hp2 hq2
      have hH2' : upd H p (.lst ([V.int a, .int b, .int c].set 2 (.int (c + 1)))) = H2 := hH2
      have hs : SqL K (upd H p (.lst ([V.int a, .int b, .int c].set 2 (.int (c + 1))))) p [.int a, .int b, .int (c + 1)] := SqL.of (by rw [hH2']; exact hp2)
      refine ⟨_, rfl, p, _, 1, V.int b, rfl, rfl, hs, rfl, .inl ⟨_, rfl, _, _, rfl, rfl, (show (2147483629 : Int) ≠ 0 by decide), ?_⟩⟩
      refine ⟨_, rfl, p, _, 2, V.int (c + 1), rfl, rfl, hs, rfl, _, _, rfl, rfl, .inl ⟨by decide, by decide⟩, ?_⟩
      refine ⟨_, _, rfl, rfl, _, _, rfl, rfl, _, _, rfl, rfl, .inr ⟨by decide, by decide⟩, .inl ⟨_, rfl, _, _, rfl, rfl, (show (2147483647 : Int) ≠ 0 by decide), ?_⟩⟩
      obtain ⟨m1, m2⟩ := fmod_rng ((b.fmod 2147483629 + 60013 * (c + 1) + 11) * 48271) (b := 2147483647) (by decide)
      generalize ((b.fmod 2147483629 + 60013 * (c + 1) + 11) * 48271).fmod 2147483647 = x1 at m1 m2 ⊢
      refine ⟨_, rfl, _, rfl, _, _, rfl, rfl, ⟨by decide, by decide⟩, _, _, rfl, rfl, _, _, rfl, rfl, .inl ⟨Int.lt_of_lt_of_le (by decide) (fmod_rng _ (by decide)).1, Int.lt_trans (fmod_rng _ (by decide)).2 (by decide)⟩, .inl ⟨_, rfl, _, _, rfl, rfl, (show (2147483587 : Int) ≠ 0 by decide), ?_⟩⟩
      obtain ⟨m3, m4⟩ := fmod_rng (x1 * (x1.fdiv 1013 + 40692)) (b := 2147483587) (by decide)
      generalize (x1 * (x1.fdiv 1013 + 40692)).fmod 2147483587 = x2 at m3 m4 ⊢
      refine ⟨_, rfl, _, rfl, _, _, rfl, rfl, ⟨by decide, by decide⟩, _, _, rfl, rfl, _, _, rfl, rfl, .inl ⟨Int.lt_of_lt_of_le (by decide) (fmod_rng _ (by decide)).1, Int.lt_trans (fmod_rng _ (by decide)).2 (by decide)⟩, .inl ⟨_, rfl, _, _, rfl, rfl, (show (2147483563 : Int) ≠ 0 by decide), _, rfl, _, _, rfl, rfl, by omega, ?_⟩⟩
      exact fin _ _ (by rw [hH2']; exact hq2) ⟨a, b, c + 1, by rw [hH2', hp2]⟩
/-- one of a list -/
def spOne : Sp := fun vs H Q _ => ∃ (p q : Addr) (xs : List V), vs = [.ref p, .ref q] ∧ Wl H p ∧ q ≠ p ∧ H q = some (.lst xs) ∧ 1 ≤ xs.length ∧ xs.length ≤ 1000 ∧
  ∀ H' (x : V), SameB p H H' → Wl H' p → x ∈ xs → Q x H'
theorem ok_Lone (T : Tx w K mg) : Ok P w K mg base CX0 2 (He.fAd K d_Lone.at_) p_Lone spOne := by
  obtain ⟨fd, F⟩ := f_Lone T
  obtain ⟨fD, GD, bD, kD⟩ := ok_Ldraw (P := P) (base := base) T
  refine ⟨fd, ?_, b_Lone F, F.kp⟩
  refine F.ok sc_Lone (fun vs H Q E h => ?_) (fun cdv A outer s H vs Q E hr h => ?_)
  · obtain ⟨p, q, xs, rfl, _⟩ := h
    rfl
  · obtain ⟨p, q, xs, rfl, hw, hqp, hq, h1, h2, kk⟩ := h
    refine ⟨_, PSs.nox (pss_one (ps_ret (pe_ix ix_list (pv 1) (pe_call (E := E0) GD (hr.mono (by decide)) (by rfl) (g_Ldraw T) kD bD .nil pass0 (pa_cons (pv 0) (pa_cons (pe_callB call_len (by rfl) (n_len T) PySem.boot_len (pa_cons (pv 1) pa_nil)) pa_nil))) (fun _ _ => rfl)))), ?_⟩
    refine ⟨_, rfl, _, rfl, _, rfl, _, xs.length, rfl, .inl ⟨_, SqL.of hq, rfl⟩, p, xs.length, rfl, hw, h1, by omega, fun H' k s1 w1 hk => ?_⟩
    have hq1 := s1 q _ hqp hq
    have hx : xs[k]? = some (xs[k]'hk) := List.getElem?_eq_getElem hk
    exact ⟨q, xs, (k : Int), xs[k]'hk, rfl, rfl, SqL.of hq1, atI_nat hx, kk H' _ s1 w1 (List.getElem_mem hk)⟩
/-- a new source of draws -/
def spState (K : PySem.W.Frag) : Sp := fun vs H Q _ => ∃ (a : Addr) (k : Nat) (ns : List Int), vs = [.ref a, .int (k : Int)] ∧ SqL K H a (ns.map V.int) ∧ k < 1000 ∧ ∀ H' p, Same H H' → H p = none → Wl H' p → Q (.ref p) H'
theorem ok_Lstate (T : Tx w K mg) : Ok P w K mg base CX0 1 (He.fAd K d_Lstate.at_) p_Lstate (spState K) := by
  obtain ⟨fd, F⟩ := f_Lstate T
  refine ⟨fd, ?_, b_Lstate F, F.kp⟩
  refine F.ok sc_Lstate (fun vs H Q E h => ?_) (fun cdv A outer s H vs Q E hr h => ?_)
  · obtain ⟨a, k, ns, rfl, _⟩ := h
    rfl
  · obtain ⟨a, k, ns, rfl, ha, hk, kk⟩ := h
    have nd := sc_Lstate.nd
    refine ⟨_, PSs.nox (pss_cons (ps_set (i := 2) nd rfl (.inl rfl) (pe_ifExp (pt_cmpR op_lt (pv 1) (pe_callB call_len (by rfl) (n_len T) PySem.boot_len (pa_cons (pv 0) pa_nil)) (nomark _)) (pe_ix ix_list (pv 0) (pv 1) (fun _ _ => rfl)) (pe_op op_add (pe_op op_mul pe_int (pv 1)) pe_int)))
      (pss_one (ps_ret (pe_lst (pa_cons (pe_callB call_abs (by rfl) (n_abs T) boot_abs (pa_cons (pv 2) pa_nil)) (pa_cons (pe_op op_add (pe_callB call_abs (by rfl) (n_abs T) boot_abs (pa_cons (pv 2) pa_nil)) (pe_op op_mul pe_int (pv 1))) (pa_cons pe_int pa_nil))))))), ?_⟩
    refine ⟨_, rfl, _, rfl, _, (ns.map V.int).length, rfl, .inl ⟨_, ha, rfl⟩, _, _, rfl, rfl, _, rfl, ?_⟩
    refine ite2 (fun y => ?_) (fun y => ?_)
    · have hk2 : k < ns.length := by
        have h1 := of_decide_eq_true y
        rw [List.length_map] at h1
        omega
      have hx : (ns.map V.int)[k]? = some (.int ns[k]) := by
        rw [List.getElem?_map, List.getElem?_eq_getElem hk2]
        rfl
      exact ⟨_, rfl, _, rfl, a, _, (k : Int), _, rfl, rfl, ha, atI_nat hx, _, rfl, _, rfl, _, rfl, _, rfl, _, rfl, _, _, rfl, rfl, .inl ⟨by decide, by decide⟩, _, _, rfl, rfl, (by show 3 ≤ sizeLine; decide), fun p hp => kk _ p (same_new hp) hp ⟨_, _, _, upd_same⟩⟩
    · exact ⟨_, rfl, _, _, rfl, rfl, .inl ⟨by decide, by decide⟩, _, _, rfl, rfl, _, rfl, _, rfl, _, rfl, _, rfl, _, rfl, _, _, rfl, rfl, .inl ⟨by decide, by decide⟩, _, _, rfl, rfl, (by show 3 ≤ sizeLine; decide), fun p hp => kk _ p (same_new hp) hp ⟨_, _, _, upd_same⟩⟩
end
end K20
/-! K20Lb -/
namespace K20
open PySem PySem.Spec PyProof.Rows L2 TL
theorem tl_add (a b : Str) : tl (a ++ b) = tl a ++ tl b := by
  show (a.cps ++ b.cps).toList = _
  rw [Array.toList_append]
theorem len_add (a b : Str) : (a ++ b).length = a.length + b.length := by
  rw [len_tl, tl_add, List.length_append, ← len_tl, ← len_tl]
theorem SameB.updN {p L : Addr} {H H1 : Hp} {o : HO} (s : SameB p H H1) (hL : H L = none) : SameB p H (upd H1 L o) := fun a u hne e => by
  rw [upd_ne (ne_of_none e hL)]
  exact s a u hne e
/-! ### the text of the arguments and the places, one more at the end -/
def sepL (as : List Ar) : List Nat := if as.isEmpty then [] else [44]
theorem txA_true : ∀ (as : List Ar) (b : Ar), txA true (as ++ [b]) = txA true as ++ (44 :: b.cs)
  | [], b => by
    show [44] ++ (b.cs ++ []) = [] ++ (44 :: b.cs)
    rw [List.append_nil]
    rfl
  | a :: as, b => by
    show [44] ++ (a.cs ++ txA true (as ++ [b])) = ([44] ++ (a.cs ++ txA true as)) ++ (44 :: b.cs)
    rw [txA_true as b, List.append_assoc, List.append_assoc]
theorem txA_snoc (as : List Ar) (b : Ar) : txA false (as ++ [b]) = (txA false as ++ sepL as) ++ b.cs := by
  cases as with
  | nil =>
    show [] ++ (b.cs ++ []) = ([] ++ []) ++ b.cs
    rw [List.append_nil]
    rfl
  | cons a as =>
    show [] ++ (a.cs ++ txA true (as ++ [b])) = (([] ++ (a.cs ++ txA true as)) ++ [44]) ++ b.cs
    rw [txA_true]
    simp only [List.nil_append, List.append_assoc, List.cons_append]
/-- the places but the last -/
def spJ : Nat → List Ar → List Nat
  | _, [] => []
  | i, a :: as => i :: (i + 1 + a.1.length) :: spJ (i + 1 + a.cs.length) as
def spI (p : Nat) : List Ar → List Nat
  | [] => [p]
  | a :: as => p :: (p + 1 + a.1.length) :: spJ (p + 1 + a.cs.length) as
theorem spA_end : ∀ (as : List Ar) (i : Nat), spA i as = spJ i as ++ [i + (txA true as).length]
  | [], i => rfl
  | a :: as, i => by
    show i :: (i + 1 + a.1.length) :: spA (i + 1 + a.cs.length) as = (i :: (i + 1 + a.1.length) :: spJ (i + 1 + a.cs.length) as) ++ [i + ([44] ++ (a.cs ++ txA true as)).length]
    rw [spA_end as]
    have : i + 1 + a.cs.length + (txA true as).length = i + ([44] ++ (a.cs ++ txA true as)).length := by
      simp only [List.length_append, List.length_cons, List.length_nil]
      omega
    rw [this]
    rfl
theorem spO_end (p : Nat) (as : List Ar) : spO p as = spI p as ++ [p + 1 + (txA false as).length] := by
  cases as with
  | nil => rfl
  | cons a as =>
    show p :: (p + 1 + a.1.length) :: spA (p + 1 + a.cs.length) as = (p :: (p + 1 + a.1.length) :: spJ (p + 1 + a.cs.length) as) ++ [p + 1 + ([] ++ (a.cs ++ txA true as)).length]
    rw [spA_end]
    have : p + 1 + a.cs.length + (txA true as).length = p + 1 + ([] ++ (a.cs ++ txA true as)).length := by
      simp only [List.length_append, List.length_nil]
      omega
    rw [this]
    rfl
theorem spJ_snoc : ∀ (as : List Ar) (i : Nat) (b : Ar), spJ i (as ++ [b]) = spJ i as ++ [i + (txA true as).length, i + (txA true as).length + 1 + b.1.length]
  | [], i, b => rfl
  | a :: as, i, b => by
    show i :: (i + 1 + a.1.length) :: spJ (i + 1 + a.cs.length) (as ++ [b]) = (i :: (i + 1 + a.1.length) :: spJ (i + 1 + a.cs.length) as) ++ [i + ([44] ++ (a.cs ++ txA true as)).length, i + ([44] ++ (a.cs ++ txA true as)).length + 1 + b.1.length]
    rw [spJ_snoc as]
    have : i + 1 + a.cs.length + (txA true as).length = i + ([44] ++ (a.cs ++ txA true as)).length := by
      simp only [List.length_append, List.length_cons, List.length_nil]
      omega
    rw [this]
    rfl
def spS (p : Nat) (as : List Ar) : List Nat := if as.isEmpty then [] else [p + 1 + (txA false as).length]
theorem spI_snoc (p : Nat) (as : List Ar) (b : Ar) : spI p (as ++ [b]) = (spI p as ++ spS p as) ++ [p + 1 + (txA false as ++ sepL as).length + b.1.length] := by
  cases as with
  | nil => rfl
  | cons a as =>
    show p :: (p + 1 + a.1.length) :: spJ (p + 1 + a.cs.length) (as ++ [b]) = ((p :: (p + 1 + a.1.length) :: spJ (p + 1 + a.cs.length) as) ++ [p + 1 + ([] ++ (a.cs ++ txA true as)).length]) ++ [p + 1 + (([] ++ (a.cs ++ txA true as)) ++ [44]).length + b.1.length]
    rw [spJ_snoc]
    have h1 : p + 1 + a.cs.length + (txA true as).length = p + 1 + ([] ++ (a.cs ++ txA true as)).length := by
      simp only [List.length_append, List.length_nil]
      omega
    have h2 : p + 1 + a.cs.length + (txA true as).length + 1 + b.1.length = p + 1 + (([] ++ (a.cs ++ txA true as)) ++ [44]).length + b.1.length := by
      simp only [List.length_append, List.length_nil, List.length_cons]
      omega
    rw [h2, h1]
    simp only [List.append_assoc, List.cons_append, List.nil_append]
theorem cs_len {a : Ar} (h : a.Gd) : a.cs.length ≤ 8 := by
  obtain ⟨p, x, q⟩ := a
  obtain ⟨h1, h2, h3⟩ := h
  have e1 : ∀ l ∈ b2, l.length ≤ 1 := by decide
  have e2 : ∀ l ∈ a9, l.length ≤ 6 := by decide
  have g1 : p.length ≤ 1 := e1 _ h1
  have g2 : q.length ≤ 1 := e1 _ h3
  have g3 : x.length ≤ 6 := e2 _ h2
  show (p ++ (x ++ q)).length ≤ 8
  simp only [List.length_append]
  omega
theorem txT_len : ∀ (as : List Ar), (∀ a ∈ as, a.Gd) → (txA true as).length ≤ 9 * as.length
  | [], _ => Nat.le_refl _
  | a :: as, h => by
    have h1 := cs_len (h a List.mem_cons_self)
    have h2 := txT_len as fun b hb => h b (List.mem_cons_of_mem _ hb)
    show ([44] ++ (a.cs ++ txA true as)).length ≤ 9 * (as.length + 1)
    simp only [List.length_append, List.length_cons, List.length_nil]
    omega
theorem txF_len : ∀ (as : List Ar), (∀ a ∈ as, a.Gd) → (txA false as).length ≤ 9 * as.length
  | [], _ => Nat.le_refl _
  | a :: as, h => by
    have h1 := cs_len (h a List.mem_cons_self)
    have h2 := txT_len as fun b hb => h b (List.mem_cons_of_mem _ hb)
    show ([] ++ (a.cs ++ txA true as)).length ≤ 9 * (as.length + 1)
    simp only [List.length_append, List.length_nil]
    omega
theorem spJ_len : ∀ (as : List Ar) (i : Nat), (spJ i as).length = 2 * as.length
  | [], _ => rfl
  | a :: as, i => by
    show (spJ _ as).length + 1 + 1 = 2 * (as.length + 1)
    rw [spJ_len as]
    omega
theorem spI_len (p : Nat) (as : List Ar) : (spI p as).length ≤ 2 * as.length + 1 := by
  cases as with
  | nil => exact Nat.le_refl _
  | cons a as =>
    show (spJ _ as).length + 1 + 1 ≤ 2 * (as.length + 1) + 1
    rw [spJ_len]
    omega
def nV (l : List Nat) : List V := l.map fun n : Nat => V.int (n : Int)
theorem nV_add (a b : List Nat) : nV (a ++ b) = nV a ++ nV b := List.map_append
/-! ### what is picked -/
theorem pick2 {x : V} (h : x ∈ [V.str (Str.ofString ""), .str (Str.ofString " ")]) : ∃ y : Str, x = .str y ∧ tl y ∈ b2 := by
  simp only [List.mem_cons, List.not_mem_nil, or_false] at h
  rcases h with rfl | rfl <;> exact ⟨_, rfl, by decide +kernel⟩
theorem pick3 {x : V} (h : x ∈ [V.str (Str.ofString ""), .str (Str.ofString ""), .str (Str.ofString " ")]) : ∃ y : Str, x = .str y ∧ tl y ∈ b2 := by
  simp only [List.mem_cons, List.not_mem_nil, or_false] at h
  rcases h with rfl | rfl | rfl <;> exact ⟨_, rfl, by decide +kernel⟩
theorem pick9 {x : V} (h : x ∈ [V.str (Str.ofString "a"), .str (Str.ofString "'b, c'"), .str (Str.ofString "1"), .str (Str.ofString "$d"), .str (Str.ofString "/"), .str (Str.ofString "e[1]"), .str (Str.ofString "name()"), .str (Str.ofString "-2"), .str (Str.ofString "*")]) : ∃ y : Str, x = .str y ∧ tl y ∈ a9 := by
  simp only [List.mem_cons, List.not_mem_nil, or_false] at h
  rcases h with rfl | rfl | rfl | rfl | rfl | rfl | rfl | rfl | rfl <;> exact ⟨_, rfl, by decide +kernel⟩
theorem b2_len {y : Str} (h : tl y ∈ b2) : y.length ≤ 1 := by
  rw [len_tl]
  exact (show ∀ l ∈ b2, l.length ≤ 1 by decide) _ h
theorem a9_len {y : Str} (h : tl y ∈ a9) : y.length ≤ 6 := by
  rw [len_tl]
  exact (show ∀ l ∈ a9, l.length ≤ 6 by decide) _ h
end K20
/-! K20Lc -/
namespace K20
open PySem PySem.Spec PyProof.Rows L2 TL
section
variable {P : Program} {w : World} {K : PySem.W.Frag} {mg : Str → Option Value} {base : Heap}
def spCall : Sp := fun vs H Q _ => ∃ (p : Addr) (wd : Str) (n : Nat), vs = [.ref p, .str wd, .int (n : Int)] ∧ Wl H p ∧ wd.length ≤ 100 ∧ n ≤ 4 ∧
  ∀ H' (t L : Addr) (z : Str) (a0 a1 : List Nat) (as : List Ar), SameB p H H' → Wl H' p → H t = none → H' t = some (.tup [.str z, .ref L]) → H' L = some (.lst (nV (spO (a0.length + (tl wd).length + a1.length) as))) →
    a0 ∈ b2 → a1 ∈ b2 → (∀ a ∈ as, a.Gd) → as.length = n → tl z = calL a0 (tl wd) a1 as → Q (.ref t) H'
theorem ok_Lcall (T : Tx w K mg) : Ok P w K mg base CX0 3 (He.fAd K d_Lcall.at_) p_Lcall spCall := by
  obtain ⟨fd, F⟩ := f_Lcall T
  obtain ⟨fO, GO, bO, kO⟩ := ok_Lone (P := P) (base := base) T
  refine ⟨fd, ?_, b_Lcall F, F.kp⟩
  refine F.ok sc_Lcall (fun vs H Q E h => ?_) (fun cdv A outer s H vs Q E hr h => ?_)
  · obtain ⟨p, wd, n, rfl, _⟩ := h
    rfl
  · obtain ⟨p, wd, n, rfl, hw, hwl, hn, kk⟩ := h
    have nd := sc_Lcall.nd
    refine ⟨_, PSs.nox (pss_cons (ps_set (i := 3) nd rfl (.inl rfl) (pe_op op_add_str (pe_call (E := E0) GO (hr.mono (by decide)) (by rfl) (g_Lone T) kO bO .nil pass0 (pa_cons (pv 0) (pa_cons (pe_lst (pa_cons pe_str (pa_cons pe_str pa_nil))) pa_nil))) (pv 1)))
      (pss_cons (ps_set (i := 3) nd rfl (.inl rfl) (pe_op op_add_str (pv 3) (pe_call (E := E0) GO (hr.mono (by decide)) (by rfl) (g_Lone T) kO bO .nil pass0 (pa_cons (pv 0) (pa_cons (pe_lst (pa_cons pe_str (pa_cons pe_str (pa_cons pe_str pa_nil)))) pa_nil)))))
      (pss_cons (ps_set (i := 4) nd rfl (.inl rfl) (pe_lst (pa_cons (pe_callB call_len (by rfl) (n_len T) PySem.boot_len (pa_cons (pv 3) pa_nil)) pa_nil)))
      (pss_cons (ps_set (i := 3) nd rfl (.inl rfl) (pe_op op_add_str (pv 3) pe_str))
      (pss_cons (ps_for PassesOwn.never rfl (pi_range1 (by rfl) (n_range T) (pa_cons (pv 2) pa_nil)) (pg_name (i := 5) nd rfl (.inl rfl))
        (Evl.pss_cut (ps_if (pt_cmpR op_gt (pv 5) pe_int (nomark _))
            (pss_cons (ps_expr (pe_bm PySem.F.plainAttrs_list PySem.F.slot_list_append PySem.F.type_list_append mt_append (pv 4) (pa_cons (pe_callB call_len (by rfl) (n_len T) PySem.boot_len (pa_cons (pv 3) pa_nil)) pa_nil)))
            (pss_one (ps_set (i := 3) nd rfl (.inl rfl) (pe_op op_add_str (pv 3) pe_str)))) pss_nil)
        (pss_cons (ps_set (i := 3) nd rfl (.inl rfl) (pe_op op_add_str (pv 3) (pe_call (E := E0) GO (hr.mono (by decide)) (by rfl) (g_Lone T) kO bO .nil pass0 (pa_cons (pv 0) (pa_cons (pe_lst (pa_cons pe_str (pa_cons pe_str pa_nil))) pa_nil)))))
        (pss_cons (ps_expr (pe_bm PySem.F.plainAttrs_list PySem.F.slot_list_append PySem.F.type_list_append mt_append (pv 4) (pa_cons (pe_callB call_len (by rfl) (n_len T) PySem.boot_len (pa_cons (pv 3) pa_nil)) pa_nil)))
        (pss_cons (ps_set (i := 3) nd rfl (.inl rfl) (pe_op op_add_str (pv 3) (pe_call (E := E0) GO (hr.mono (by decide)) (by rfl) (g_Lone T) kO bO .nil pass0 (pa_cons (pv 0) (pa_cons (pe_lst (pa_cons pe_str (pa_cons pe_str (pa_cons pe_str (pa_cons pe_str (pa_cons pe_str (pa_cons pe_str (pa_cons pe_str (pa_cons pe_str (pa_cons pe_str pa_nil)))))))))) pa_nil)))))
        (pss_one (ps_set (i := 3) nd rfl (.inl rfl) (pe_op op_add_str (pv 3) (pe_call (E := E0) GO (hr.mono (by decide)) (by rfl) (g_Lone T) kO bO .nil pass0 (pa_cons (pv 0) (pa_cons (pe_lst (pa_cons pe_str (pa_cons pe_str pa_nil))) pa_nil)))))))))))
      (pss_cons (ps_expr (pe_bm PySem.F.plainAttrs_list PySem.F.slot_list_append PySem.F.type_list_append mt_append (pv 4) (pa_cons (pe_callB call_len (by rfl) (n_len T) PySem.boot_len (pa_cons (pv 3) pa_nil)) pa_nil)))
      (pss_one (ps_ret (pe_tup (pa_cons (pe_op op_add_str (pv 3) pe_str) (pa_cons (pv 4) pa_nil))))))))))), ?_⟩
    -- text
    refine ⟨_, rfl, by decide, fun q hq => ?_⟩
    have hqp := hw.ne hq
    have sq : Same H (upd H q (.lst [.str (Str.ofString ""), .str (Str.ofString " ")])) := same_new hq
    refine ⟨p, q, [.str (Str.ofString ""), .str (Str.ofString " ")], rfl, hw.at sq, hqp, upd_same, by decide, by decide, fun H1 x1 s1 hw1 hx1 => ?_⟩
    obtain ⟨y0, rfl, hy0⟩ := pick2 hx1
    have l0 := b2_len hy0
    have b1 : SameB p H H1 := (SameB.of sq).trans s1
    refine ⟨_, rfl, _, _, rfl, rfl, (by rw [sizeLine_eq]; omega), ?_⟩
    refine ⟨_, rfl, _, rfl, by decide, fun q2 hq2 => ?_⟩
    have hqp2 := hw1.ne hq2
    have sq2 : Same H1 (upd H1 q2 (.lst [.str (Str.ofString ""), .str (Str.ofString ""), .str (Str.ofString " ")])) := same_new hq2
    refine ⟨p, q2, [.str (Str.ofString ""), .str (Str.ofString ""), .str (Str.ofString " ")], rfl, hw1.at sq2, hqp2, upd_same, by decide, by decide, fun H2 x2 s2 hw2 hx2 => ?_⟩
    obtain ⟨y1, rfl, hy1⟩ := pick3 hx2
    have l1 := b2_len hy1
    have b2' : SameB p H H2 := (b1.trans (.of sq2)).trans s2
    have e01 : (y0 ++ wd).length = y0.length + wd.length := len_add _ _
    refine ⟨_, _, rfl, rfl, (by rw [sizeLine_eq]; omega), ?_⟩
    have e012 : ((y0 ++ wd) ++ y1).length = y0.length + wd.length + y1.length := by rw [len_add, e01]
    refine ⟨_, rfl, _, ((y0 ++ wd) ++ y1).length, rfl, ⟨(by rw [sizeLine_eq]; omega), rfl⟩, (by show 1 ≤ sizeLine; decide), fun L hL => ?_⟩
    have hLH : H L = none := by
      cases q : H L with
      | none => rfl
      | some u =>
        by_cases hLp : L = p
        · subst hLp
          exact absurd rfl (hw2.ne hL)
        · have := b2' _ _ hLp q
          rw [hL] at this
          cases this
    have hLp : L ≠ p := hw2.ne hL
    have sL : Same H2 (upd H2 L (.lst [.int (((y0 ++ wd) ++ y1).length : Int)])) := same_new hL
    have eL : upd H2 L (.lst [.int (((y0 ++ wd) ++ y1).length : Int)]) L = some (.lst (nV [((y0 ++ wd) ++ y1).length])) := upd_same
    have b3 : SameB p H (upd H2 L (.lst [.int (((y0 ++ wd) ++ y1).length : Int)])) := b2'.trans (.of sL)
    have hw3 := hw2.at sL
    generalize upd H2 L (.lst [.int (((y0 ++ wd) ++ y1).length : Int)]) = H3 at sL eL b3 hw3 ⊢
    refine ⟨_, rfl, _, _, rfl, rfl, (by rw [sizeLine_eq, e012]; show _ + 1 ≤ _; omega), ?_⟩
    have hP : ((y0 ++ wd) ++ y1).length = (tl y0).length + (tl wd).length + (tl y1).length := by
      rw [e012, len_tl y0, len_tl wd, len_tl y1]
    have e3 : tl (((y0 ++ wd) ++ y1) ++ Str.ofString "(") = tl y0 ++ (tl wd ++ (tl y1 ++ [40])) := by
      have : tl (Str.ofString "(") = [40] := rfl
      rw [tl_add, tl_add, tl_add, this]
      simp only [List.append_assoc]
    rw [hP] at eL
    generalize (((y0 ++ wd) ++ y1) ++ Str.ofString "(") = z3 at e3 ⊢
    obtain ⟨hd, hhd⟩ : ∃ l, l = tl y0 ++ (tl wd ++ (tl y1 ++ [40])) := ⟨_, rfl⟩
    rw [← hhd] at e3
    obtain ⟨P0, hP0⟩ : ∃ m, m = (tl y0).length + (tl wd).length + (tl y1).length := ⟨_, rfl⟩
    rw [← hP0] at eL
    have hhl : hd.length = P0 + 1 := by
      rw [hhd, hP0]
      simp only [List.length_append, List.length_cons, List.length_nil]
      omega
    have hPs : P0 ≤ 200 := by
      rw [hP0, ← len_tl, ← len_tl, ← len_tl]
      omega
    refine ⟨_, rfl, (n : Int), rfl, by omega, by omega, ?_⟩
    refine for_it walk_range (fun k σ H4 => ∃ (z : Str) (as : List Ar) (v5 : Option V), SameB p H H4 ∧ Wl H4 p ∧ σ = [some (.ref p), some (.str wd), some (.int (n : Int)), some (.str z), some (.ref L), v5] ∧ H4 L = some (.lst (nV (spI P0 as))) ∧ (∀ a ∈ as, a.Gd) ∧ as.length = k ∧ tl z = hd ++ txA false as)
      ⟨z3, [], _, b3, hw3, rfl, eL, (fun _ h => by cases h), rfl, by rw [e3]; exact (List.append_nil hd).symm⟩ (fun _ _ _ _ _ => trivial) ?_ ?_
    · rintro k x σ H4' H4 hk ⟨z, as, v5, b4, hw4, rfl, e4, hg, hk2, hz⟩ ⟨rfl, rfl⟩
      have hk4 : k < 4 := by
        have : k < ((n : Int)).toNat := hk
        omega
      have htx := txF_len as hg
      have hzl : z.length ≤ 300 := by
        rw [len_tl, hz, List.length_append]
        omega
      refine ⟨fun σ H5 => ∃ (z' : Str) (u5 : Option V), σ = [some (.ref p), some (.str wd), some (.int (n : Int)), some (.str z'), some (.ref L), u5] ∧ SameB p H H5 ∧ Wl H5 p ∧ H5 L = some (.lst (nV (spI P0 as ++ spS P0 as))) ∧ tl z' = hd ++ (txA false as ++ sepL as), ?_, ?_⟩
      · refine ⟨_, rfl, _, _, rfl, rfl, _, rfl, ?_⟩
        cases as with
        | nil =>
          have hk0 : k = 0 := hk2.symm
          subst hk0
          refine iteF ?_
          exact ⟨z, _, rfl, b4, hw4, e4, hz⟩
        | cons a as =>
          have hk1 : 0 < k := by rw [← hk2]; exact Nat.succ_pos _
          refine iteT ?_ (decide_eq_true (by omega))
          refine ⟨_, rfl, .inl ⟨rfl, _, SqL.of e4⟩, _, rfl, _, z.length, rfl, ⟨(by rw [sizeLine_eq]; omega), rfl⟩, L, _, _, rfl, rfl, e4, ?_, ?_⟩
          · have := spI_len P0 (a :: as)
            unfold nV
            rw [List.length_map, sizeLine_eq]
            omega
          have b5 : SameB p H (upd H4 L (.lst (nV (spI P0 (a :: as)) ++ [V.int (z.length : Int)]))) := b4.updN hLH
          have hw5 : Wl (upd H4 L (.lst (nV (spI P0 (a :: as)) ++ [V.int (z.length : Int)]))) p := by
            obtain ⟨u1, u2, u3, hu⟩ := hw4
            exact ⟨u1, u2, u3, by rw [upd_ne (Ne.symm hLp)]; exact hu⟩
          have e5 : upd H4 L (.lst (nV (spI P0 (a :: as)) ++ [V.int (z.length : Int)])) L = some (.lst (nV (spI P0 (a :: as) ++ spS P0 (a :: as)))) := by
            rw [upd_same, nV_add]
            have : z.length = P0 + 1 + (txA false (a :: as)).length := by rw [len_tl, hz, List.length_append, hhl]
            rw [this]
            rfl
          refine ⟨_, rfl, _, _, rfl, rfl, (by rw [sizeLine_eq]; show _ + 1 ≤ _; omega), ?_⟩
          refine ⟨_, _, rfl, b5, hw5, e5, ?_⟩
          have : tl (Str.ofString ",") = [44] := rfl
          rw [tl_add, hz, this, List.append_assoc]
          rfl
      · rintro σ H5 ⟨z', u5, rfl, b5, hw5, e5, hz'⟩
        have hzl' : z'.length ≤ 300 := by
          have : (sepL as).length ≤ 1 := by
            unfold sepL
            split
            · exact Nat.zero_le _
            · exact Nat.le_refl _
          rw [len_tl, hz', List.length_append, List.length_append]
          omega
        -- the blanks ahead
        refine ⟨_, rfl, _, rfl, by decide, fun q3 hq3 => ?_⟩
        have hqp3 := hw5.ne hq3
        have sq3 : Same H5 (upd H5 q3 (.lst [.str (Str.ofString ""), .str (Str.ofString " ")])) := same_new hq3
        have hqL3 : q3 ≠ L := fun e => by
          rw [e, e5] at hq3
          cases hq3
        refine ⟨p, q3, [.str (Str.ofString ""), .str (Str.ofString " ")], rfl, hw5.at sq3, hqp3, upd_same, by decide, by decide, fun H6 x6 s6 hw6 hx6 => ?_⟩
        obtain ⟨y6, rfl, hy6⟩ := pick2 hx6
        have l6 := b2_len hy6
        have b6 : SameB p H H6 := (b5.trans (.of sq3)).trans s6
        have e6 : H6 L = some (.lst (nV (spI P0 as ++ spS P0 as))) := s6 _ _ hLp (sq3 _ _ e5)
        refine ⟨_, _, rfl, rfl, (by rw [sizeLine_eq]; omega), ?_⟩
        have t6 : tl (z' ++ y6) = hd ++ ((txA false as ++ sepL as) ++ tl y6) := by rw [tl_add, hz', List.append_assoc]
        have n6 : (z' ++ y6).length ≤ 301 := by
          rw [len_add]
          omega
        have n6' : (z' ++ y6).length = P0 + 1 + (txA false as ++ sepL as).length + (tl y6).length := by
          rw [len_tl, t6, List.length_append, List.length_append, hhl]
          omega
        generalize z' ++ y6 = z6 at t6 n6 n6' ⊢
        -- the place
        refine ⟨_, rfl, .inl ⟨rfl, _, SqL.of e6⟩, _, rfl, _, z6.length, rfl, ⟨(by rw [sizeLine_eq]; omega), rfl⟩, L, _, _, rfl, rfl, e6, ?_, ?_⟩
        · have h1 := spI_len P0 as
          have h2 : (spS P0 as).length ≤ 1 := by
            unfold spS
            split
            · exact Nat.zero_le _
            · exact Nat.le_refl _
          unfold nV
          rw [List.length_map, List.length_append, sizeLine_eq]
          omega
        have b7 : SameB p H (upd H6 L (.lst (nV (spI P0 as ++ spS P0 as) ++ [V.int (z6.length : Int)]))) := b6.updN hLH
        have hw7 : Wl (upd H6 L (.lst (nV (spI P0 as ++ spS P0 as) ++ [V.int (z6.length : Int)]))) p := by
          obtain ⟨u1, u2, u3, hu⟩ := hw6
          exact ⟨u1, u2, u3, by rw [upd_ne (Ne.symm hLp)]; exact hu⟩
        have e7 : upd H6 L (.lst (nV (spI P0 as ++ spS P0 as) ++ [V.int (z6.length : Int)])) L = some (.lst (nV ((spI P0 as ++ spS P0 as) ++ [P0 + 1 + (txA false as ++ sepL as).length + (tl y6).length]))) := by
          rw [upd_same, n6', nV_add (spI P0 as ++ spS P0 as)]
          rfl
        generalize upd H6 L (.lst (nV (spI P0 as ++ spS P0 as) ++ [V.int (z6.length : Int)])) = H7 at b7 hw7 e7 ⊢
        -- the argument
        refine ⟨_, rfl, _, rfl, by decide, fun q8 hq8 => ?_⟩
        have hqp8 := hw7.ne hq8
        have sq8 : Same H7 (upd H7 q8 (.lst [V.str (Str.ofString "a"), .str (Str.ofString "'b, c'"), .str (Str.ofString "1"), .str (Str.ofString "$d"), .str (Str.ofString "/"), .str (Str.ofString "e[1]"), .str (Str.ofString "name()"), .str (Str.ofString "-2"), .str (Str.ofString "*")])) := same_new hq8
        refine ⟨p, q8, [V.str (Str.ofString "a"), .str (Str.ofString "'b, c'"), .str (Str.ofString "1"), .str (Str.ofString "$d"), .str (Str.ofString "/"), .str (Str.ofString "e[1]"), .str (Str.ofString "name()"), .str (Str.ofString "-2"), .str (Str.ofString "*")], rfl, hw7.at sq8, hqp8, upd_same, (by show 1 ≤ 9; decide), (by show 9 ≤ 1000; decide), fun H9 x9 s9 hw9 hx9 => ?_⟩
        obtain ⟨y9, rfl, hy9⟩ := pick9 hx9
        have l9 := a9_len hy9
        have b9 : SameB p H H9 := (b7.trans (.of sq8)).trans s9
        have e9 := s9 _ _ hLp (sq8 _ _ e7)
        refine ⟨_, _, rfl, rfl, (by rw [sizeLine_eq]; omega), ?_⟩
        have n9 : (z6 ++ y9).length ≤ 307 := by
          rw [len_add]
          omega
        -- the blanks behind
        refine ⟨_, rfl, _, rfl, by decide, fun q10 hq10 => ?_⟩
        have hqp10 := hw9.ne hq10
        have sq10 : Same H9 (upd H9 q10 (.lst [.str (Str.ofString ""), .str (Str.ofString " ")])) := same_new hq10
        refine ⟨p, q10, [.str (Str.ofString ""), .str (Str.ofString " ")], rfl, hw9.at sq10, hqp10, upd_same, by decide, by decide, fun H11 x11 s11 hw11 hx11 => ?_⟩
        obtain ⟨y11, rfl, hy11⟩ := pick2 hx11
        have l11 := b2_len hy11
        have b11 : SameB p H H11 := (b9.trans (.of sq10)).trans s11
        have e11 := s11 _ _ hLp (sq10 _ _ e9)
        refine ⟨_, _, rfl, rfl, (by rw [sizeLine_eq]; omega), ?_⟩
        refine ⟨(z6 ++ y9) ++ y11, as ++ [(tl y6, tl y9, tl y11)], _, b11, hw11, rfl, ?_, ?_, ?_, ?_⟩
        · rw [spI_snoc]
          exact e11
        · intro a ha
          rcases List.mem_append.mp ha with h | h
          · exact hg a h
          · rw [List.mem_singleton] at h
            rw [h]
            exact ⟨hy6, hy9, hy11⟩
        · rw [List.length_append, hk2]
          rfl
        · rw [tl_add, tl_add, t6, txA_snoc]
          show ((hd ++ ((txA false as ++ sepL as) ++ tl y6)) ++ tl y9) ++ tl y11 = hd ++ ((txA false as ++ sepL as) ++ (tl y6 ++ (tl y9 ++ tl y11)))
          simp only [List.append_assoc]
    · rintro σ H4 ⟨z, as, v5, b4, hw4, rfl, e4, hg, hk2, hz⟩
      have hk2' : as.length = n := hk2
      have htx := txF_len as hg
      have hzl : z.length = P0 + 1 + (txA false as).length := by rw [len_tl, hz, List.length_append, hhl]
      refine ⟨_, rfl, .inl ⟨rfl, _, SqL.of e4⟩, _, rfl, _, z.length, rfl, ⟨(by rw [sizeLine_eq]; omega), rfl⟩, L, _, _, rfl, rfl, e4, ?_, ?_⟩
      · have := spI_len P0 as
        unfold nV
        rw [List.length_map, sizeLine_eq]
        omega
      have b5 : SameB p H (upd H4 L (.lst (nV (spI P0 as) ++ [V.int (z.length : Int)]))) := b4.updN hLH
      have hw5 : Wl (upd H4 L (.lst (nV (spI P0 as) ++ [V.int (z.length : Int)]))) p := by
        obtain ⟨u1, u2, u3, hu⟩ := hw4
        exact ⟨u1, u2, u3, by rw [upd_ne (Ne.symm hLp)]; exact hu⟩
      have e5 : upd H4 L (.lst (nV (spI P0 as) ++ [V.int (z.length : Int)])) L = some (.lst (nV (spO P0 as))) := by
        rw [upd_same, spO_end, nV_add, hzl]
        rfl
      generalize upd H4 L (.lst (nV (spI P0 as) ++ [V.int (z.length : Int)])) = H5 at b5 hw5 e5 ⊢
      refine ⟨_, rfl, _, _, rfl, rfl, (by rw [sizeLine_eq]; show _ + 1 ≤ _; omega), _, rfl, (by show 2 ≤ sizeLine; decide), fun t ht => ?_⟩
      have st : Same H5 (upd H5 t (.tup [.str (z ++ Str.ofString ")"), .ref L])) := same_new ht
      have htH : H t = none := by
        cases q : H t with
        | none => rfl
        | some u =>
          have := b5 _ _ (hw5.ne ht) q
          rw [ht] at this
          cases this
      refine kk _ t L (z ++ Str.ofString ")") (tl y0) (tl y1) as (b5.trans (.of st)) (hw5.at st) htH upd_same (by rw [← hP0]; exact st _ _ e5) hy0 hy1 hg hk2' ?_
      have : tl (Str.ofString ")") = [41] := rfl
      rw [tl_add, hz, hhd, this]
      unfold calL
      simp only [List.append_assoc, List.cons_append, List.nil_append]
end
end K20
/-! K20Ld -/
namespace K20
open PySem PySem.Spec PyProof.Rows L2 TL
/-! ### isinstance of a caught error with fields -/
def rIsX (K : PySem.W.Frag) (cls : Value) (d : Option Addr) (a : Addr) : List V → Hp → VK → Prop := fun xs H Q => ∃ (c : V) (cv : Value) (b : Bool) (D dd : Addr) (fs : List (Str × V)), xs = [.ref a, c] ∧ (∀ u, RelV c u → u = cv) ∧ cls = .ref D ∧ ExcC K D ∧ d = some dd ∧ H dd = some (.xd fs) ∧ PySem.W.kitOne K (.ref D) cv = some b ∧ Q (.bl b) H
theorem call_isX {X : Cx} {a : Addr} {oe : Obj} {cls : Value} {d : Option Addr} {pn : List (Addr × Obj)} (hz : Zc cls d oe) (hf : ∃ vs, oe.data = .fields vs) : CallR (X.suite a ((a, oe) :: pn)) (.builtin "isinstance") (rIsX X.K cls d a) := by
  intro pins s σ H xs us Q I r h
  obtain ⟨c, cv, b, D, dd, fs, rfl, hcv, ec, C, ed, ea, e, q⟩ := h
  subst ec
  subst ed
  cases r with
  | cons rx rr =>
    cases rr with
    | cons rt rr =>
      cases rr
      cases rx
      have ec := hcv _ rt
      subst ec
      obtain ⟨hget, _⟩ := I.pin (a, oe) (List.mem_append.mpr (.inl List.mem_cons_self))
      obtain ⟨vs, hv⟩ := hf
      have hx : ObjOk X.prog X.w H s.heap dd (.xd fs) := I.hok dd _ ea
      obtain ⟨mA, hns, hr⟩ := hx
      obtain ⟨od, ho, hl⟩ := lookIn_ns hns
      have J : PySem.W.InstAt s.heap a oe D (some od) := ⟨hget, hz.1, by unfold PySem.W.notCls; rw [hv] <;> rfl, by rw [hz.2]; exact ho⟩
      have hcl : (PySem.W.clsIn X.K D).isSome = true := by
        obtain ⟨cd, hc, _⟩ := PySem.W.any_some C.hd
        rw [hc]
        rfl
      exact PySem.W.kia_one (PySem.W.kitx_exc hcl C.hg C.hk C.hs C.ha C.hn C.ht C.hm) I.kIn J e (fun z => nomatch z) fun tk => ⟨.bl b, H, I.kept (t' := tk) fun _ _ z => z, rfl, q⟩
/-! ### a call of a local name, what it raises with the slots -/
def tCallLS (i : Nat) (f : Addr) (sp : Sp) (E : L2.St → XK) (t : TA) : TE := fun σ H Q => σ[i]? = some (some (.ref f)) ∧ t σ H fun vs H1 => sp vs H1 Q (E σ)
section
variable {X : Cx} {CX : CXT} {k i : Nat} {f : Addr} {fd : FuncData} {ps : List Str} {sp : Sp} {E : L2.St → XK} {x : Str} {p pos : Pos} {e : Expr} {es : List Expr} {t : TA}
theorem pe_callLS (F : FnOk X.prog X.w X.K X.mg X.base CX k f fd ps sp) (hr : Room k X.A) (hN : X.N[i]? = some x) (hv : Vis X.env.scope x) (hk : PySem.W.keepIn X.K (.ref f) = true) (hb : Binds X.K fd ps []) (hx : ∀ σ, PassesAt CX X σ (E σ)) (ha : PA X (e :: es) t)
    (hdb : (x == ("__debug__" : Str)) = false := by decide) (hcd : (x == ("__classdict__" : Str)) = false := by decide)
    (he : starEach (e :: es) X.env = (false, eval e X.env) :: starEach es X.env := by rfl) (hpl : (backTo pos (starEach es X.env)).any (·.1) = false := by rfl) : PE X (.Call (.Name x p) (e :: es) [] pos) (tCallLS i f sp E t) := by
  refine ⟨fun pins s σ H Q I h => ?_⟩
  obtain ⟨hs, ht⟩ := h
  refine wpAny_Call_Name_kw (thn ((pe_var (pos := p) hN hv hdb hcd).run pins s σ H (fun v H1 => v = .ref f ∧ H1 = H) I ⟨.ref f, hs, rfl, rfl⟩) fun u s1 ⟨v, H1, I1, r1, q1⟩ => ?_)
  obtain ⟨rfl, rfl⟩ := q1
  cases r1
  refine PySem.W.callWith_K (h₀ := X.base) I.ok.mod.kin hk (thn (ha.run pos pins s1 σ _ _ I1 ht) fun us s2 ⟨vs, H2, I2, r, q⟩ => ⟨I2.kIn, ?_⟩) he hpl
  exact run_fnS F hr hb (hx σ) I2 r q
end
/-- two promises of a def -/
theorem FnOk.both {P : Program} {w : World} {K : PySem.W.Frag} {mg : Str → Option Value} {base : Heap} {CX : CXT} {k : Nat} {f : Addr} {fd : FuncData} {ps : List Str} {sp1 sp2 : Sp} (F : FnOk P w K mg base CX k f fd ps sp1) (G : FnOk P w K mg base CX k f fd ps sp2) :
    FnOk P w K mg base CX k f fd ps (fun vs H Q E => sp1 vs H Q E ∨ sp2 vs H Q E) :=
  ⟨fun vs H Q E h => h.elim (F.len vs H Q E) (G.len vs H Q E), fun A outer s H args us vs Q E hr he hb hv h => h.elim (F.run A outer s H args us vs Q E hr he hb hv) (G.run A outer s H args us vs Q E hr he hb hv)⟩
theorem excB_ok {K : PySem.W.Frag} {D : Addr} (h : excB K D = true) : ExcC K D := by
  unfold excB at h
  simp only [Bool.and_eq_true, decide_eq_true_eq] at h
  obtain ⟨h1, h2, h3, h4, h5, h6, h7, h8⟩ := h
  exact ⟨h1, h2, h3, h4, h5, h6, h7, h8⟩
end K20
/-! K20Le -/
namespace K20
open PySem PySem.Spec PyProof.Rows L2 TL
/-- what an error comes to -/
def saE (K : PySem.W.Frag) (Q : VK) : XK := fun cls d H => (∃ dd y, cls = .ref (CB K) ∧ d = some dd ∧ H dd = some (.xd [("why", y)]) ∧ Q (.str (Str.ofString "bad")) H) ∨
  (∃ dd y, ∃ p : Nat, cls = .ref (CN K) ∧ d = some dd ∧ H dd = some (.xd [("at", .int (p : Int)), ("why", y)]) ∧ ∀ t, H t = none → Q (.ref t) (upd H t (.tup [.str (Str.ofString "at"), .int (p : Int)])))
def spSa (K : PySem.W.Frag) (f : Addr) (sp : Sp) : Sp := fun vs H Q _ => ∃ x, vs = [.ref f, x] ∧ ∀ (Q' : VK) (E' : XK), (∀ y H', Q (.str (Str.ofString "told")) H' → Q' y H') → (∀ cls d H', saE K Q cls d H' → E' cls d H') → sp [x] H Q' E'
section
variable {P : Program} {w : World} {K : PySem.W.Frag} {mg : Str → Option Value} {base : Heap}
def tSuite (K : PySem.W.Frag) (a : Addr) (cls : Value) (d : Option Addr) : TS := tSeq (tIfS (tB (tCB (rIsX K cls d a) (tCons (tVar 2) (tCons (tC (.ref (CB K))) tNil)))) (tRet (tC (.str (Str.ofString "bad")))) tNext)
  (tRet (tIf (tB (tCB (rIsX K cls d a) (tCons (tVar 2) (tCons (tC (.ref (CN K))) tNil)))) (tTup (tCons (tC (.str (Str.ofString "at"))) (tCons (tXf a cls d (CN K) "at" (tVar 2)) tNil))) (tC (.str (Str.ofString "other")))))
def tTryS (K : PySem.W.Frag) (f : Addr) (sp : Sp) : TS := fun D σ H => tDrop (tCallLS 0 f sp (WE (wAs K (.ref (He.ga K "TreeError")) 2 (fun a cls d => tSuite K a cls d) (fun _ _ _ _ => False) D)) (tCons (tVar 1) tNil)) D σ H
theorem ok_said (T : Tx w K mg) {f : Addr} {fd0 fd : FuncData} {ps0 : List Str} {sp : Sp} (F0 : FnOk P w K mg base (L2.CX P w) 25 f fd0 ps0 sp) (k0 : PySem.W.keepIn K (.ref f) = true) (b0 : Binds K fd0 ps0 []) (F : FnP K d_Lsaid fd) : FnOk P w K mg base CX0 26 (He.fAd K d_Lsaid.at_) fd p_Lsaid (spSa K f sp) := by
  refine F.ok sc_Lsaid (fun vs H Q E h => ?_) (fun cdv A outer s H vs Q E hr h => ?_)
  · obtain ⟨x, rfl, _⟩ := h
    rfl
  · obtain ⟨x, rfl, k⟩ := h
    have nd := sc_Lsaid.nd
    have M := mores T
    obtain ⟨_, _, _, _, _, _, _, _, _, _, _, _, _, hI⟩ := M
    unfold isB at hI
    simp only [Bool.and_eq_true, decide_eq_true_eq] at hI
    obtain ⟨xB, xN, kBB, kNB, kNN, _⟩ := hI
    refine ⟨_, PSs.nox (pss_cons (t := tTryS K f sp) (by exact (ps_try_as (i := 2) (tb := fun W => tDrop (tCallLS 0 f sp (WE W) (tCons (tVar 1) tNil))) (ts := fun a cls d => tSuite K a cls d) (Wout := fun _ _ _ _ => False) rfl rfl nd rfl rfl ⟨rfl, by decide, .inl (g_TreeError T)⟩ takes0
        (fun W pn xe tk hpo => pss_one (ps_expr (by exact (pe_callLS (i := 0) F0 (hr.mono (by decide)) rfl (.inl rfl) k0 b0 (fun σ => passAt tk σ) (by exact (pa_cons (pv 1) pa_nil))))))
        (fun a oe cls d pn hz hf => pss_cons (ps_if (pt_val (pe_callB (call_isX hz hf) (by rfl) (n_isinstance T) boot_isinstance (pa_cons (pv 2) (pa_cons (pe_glob (v := .ref (He.ga K "BadValue")) (by rfl) (g_BadValue T) rfl) pa_nil)))) (pss_one (ps_ret pe_str)) pss_nil)
          (pss_one (ps_ret (pe_ifExp (pt_val (pe_callB (call_isX hz hf) (by rfl) (n_isinstance T) boot_isinstance (pa_cons (pv 2) (pa_cons (pe_glob (v := .ref (He.ga K "NotPath")) (by rfl) (g_NotPath T) rfl) pa_nil))))
            (pe_tup (pa_cons pe_str (pa_cons (pe_xf (oex_of (more_of T).2.1).2 (na_NotPath_at T) hz hf (pv 2)) pa_nil))) pe_str))))))
      (pss_one (ps_ret pe_str))), ?_⟩
    refine ⟨rfl, _, rfl, k _ _ (fun y H' q => q) (fun cls d H' e => ?_)⟩
    rcases e with ⟨dd, y, rfl, rfl, hx, q⟩ | ⟨dd, y, p, rfl, rfl, hx, q⟩
    · refine ⟨true, exm_BadValue_TreeError T, fun _ a ha => ?_, fun h => by cases h⟩
      refine ⟨_, rfl, _, _, true, _, dd, _, rfl, fun u h => h, rfl, excB_ok xB, rfl, hx, kBB, _, rfl, ?_⟩
      refine iteT ?_
      exact q
    · refine ⟨true, exm_NotPath_TreeError T, fun _ a ha => ?_, fun h => by cases h⟩
      refine ⟨_, rfl, _, _, false, _, dd, _, rfl, fun u h => h, rfl, excB_ok xN, rfl, hx, kNB, _, rfl, ?_⟩
      refine iteF ?_
      refine ⟨_, rfl, _, _, true, _, dd, _, rfl, fun u h => h, rfl, excB_ok xN, rfl, hx, kNN, _, rfl, ?_⟩
      refine iteT ?_
      exact ⟨_, rfl, rfl, rfl, dd, _, _, rfl, hx, rfl, (by show 2 ≤ sizeLine; decide), fun t ht => q t ht⟩
/-- what said tells of a text of signs -/
def spSaT (K : PySem.W.Frag) : Sp := fun vs H Q _ => ∃ z : Str, vs = [.ref (He.fAd K d_tree_of.at_), .str z] ∧ Gd z ∧ (match rpN 3 z (tokL z) with
  | .dk => False
  | .ok _ => ∀ H', Same H H' → Q (.str (Str.ofString "told")) H'
  | .no p => ∀ H' t, Same H H' → H t = none → H' t = some (.tup [.str (Str.ofString "at"), .int (p : Int)]) → Q (.ref t) H')
/-- and of what is no text -/
def asks (K : PySem.W.Frag) : List Addr := [He.fAd K d_tokens.at_, He.fAd K d_tree_of.at_, He.fAd K d_canonical.at_, He.fAd K d_abbreviated.at_]
def spSaO (K : PySem.W.Frag) (f : Addr) : Sp := fun vs H Q _ => ∃ (x : V) (t : Value), vs = [.ref f, x] ∧ TyY K H x t ∧ PySem.W.kitOne K t (.type "str") = some false ∧ ∀ H', Same H H' → Q (.str (Str.ofString "bad")) H'
theorem saO_of {f : Addr} {sp : Sp} (hs : ∀ x H Q E, spOdd K [x] H Q E → sp [x] H Q E) : ∀ vs H Q E, spSaO K f vs H Q E → spSa K f sp vs H Q E := by
  rintro vs H Q E ⟨x, t, rfl, h1, h2, h3⟩
  refine ⟨x, rfl, fun Q' E' hQ hE => hs x H Q' E' ⟨x, t, rfl, h1, h2, fun d y hd => ?_⟩⟩
  exact hE _ _ _ (.inl ⟨d, y, rfl, rfl, upd_same, h3 _ (same_new hd)⟩)
theorem saT_of : ∀ vs H Q E, spSaT K vs H Q E → spSa K (He.fAd K d_tree_of.at_) (spTr K 3) vs H Q E := by
  rintro vs H Q E ⟨z, rfl, g, h⟩
  refine ⟨.str z, rfl, fun Q' E' hQ hE => .inl ⟨z, rfl, g, ?_⟩⟩
  cases hx : rpN 3 z (tokL z) with
  | dk => rw [hx] at h; exact h.elim
  | ok l =>
    rw [hx] at h
    exact fun H' y s => hQ y H' (h H' s)
  | no p =>
    rw [hx] at h
    rintro H' e ⟨s, he, y, hy⟩
    refine hE _ _ _ (.inr ⟨e, y, p, rfl, rfl, hy, fun t ht => ?_⟩)
    refine h _ t (s.trans (same_new ht)) ?_ upd_same
    cases q : H t with
    | none => rfl
    | some u =>
      have := s _ _ q
      rw [ht] at this
      cases this
def spSaid (K : PySem.W.Frag) : Sp := fun vs H Q E => spSaT K vs H Q E ∨ ∃ f ∈ asks K, spSaO K f vs H Q E
theorem ok_Lsaid (T : Tx w K mg) : Ok P w K mg base CX0 26 (He.fAd K d_Lsaid.at_) p_Lsaid (spSaid K) := by
  obtain ⟨fd, F⟩ := f_Lsaid T
  obtain ⟨fA, GA, bA, kA⟩ := ok_tokens_odd (P := P) (base := base) T
  obtain ⟨fB, GB, bB, kB⟩ := ok_tree_of (P := P) (base := base) T 3
  obtain ⟨fC, GC, bC, kC⟩ := ok_canonical_odd (P := P) (base := base) T
  obtain ⟨fD, GD, bD, kD⟩ := ok_abbreviated_odd (P := P) (base := base) T
  refine ⟨fd, ?_, b_Lsaid F, F.kp⟩
  have hB := ok_said (P := P) (base := base) T GB kB bB F
  have h1 := hB.imp saT_of
  have h2 := (ok_said (P := P) (base := base) T (GA.mono (by decide)) kA bA F).imp (saO_of fun _ _ _ _ h => h)
  have h3 := hB.imp (saO_of (f := He.fAd K d_tree_of.at_) fun _ _ _ _ h => .inr h)
  have h4 := (ok_said (P := P) (base := base) T (GC.mono (by decide)) kC bC F).imp (saO_of fun _ _ _ _ h => h)
  have h5 := (ok_said (P := P) (base := base) T (GD.mono (by decide)) kD bD F).imp (saO_of fun _ _ _ _ h => h)
  refine (FnOk.both h1 (FnOk.both h2 (FnOk.both h3 (FnOk.both h4 h5)))).imp fun vs H Q E h => ?_
  rcases h with h | ⟨f, hf, h⟩
  · exact .inl h
  · refine .inr ?_
    simp only [asks, List.mem_cons, List.not_mem_nil, or_false] at hf
    rcases hf with rfl | rfl | rfl | rfl
    · exact .inl h
    · exact .inr (.inl h)
    · exact .inr (.inr (.inl h))
    · exact .inr (.inr (.inr h))
end
end K20
/-! K20Lf -/
namespace K20
open PySem PySem.Spec PyProof.Rows L2 TL
abbrev Rw : Type := Str × Nat × Nat
def rwV (r : Rw) : List V := [.str r.1, .int (r.2.1 : Int), .int (r.2.2 : Int)]
def RowsAt (H : Hp) : List V → List Rw → Prop
  | [], [] => True
  | v :: vs, r :: rs => (∃ a, v = .ref a ∧ H a = some (.tup (rwV r))) ∧ RowsAt H vs rs
  | _, _ => False
theorem RowsAt.keep {H H' : Hp} (k : Same H H') : ∀ {vs : List V} {rs : List Rw}, RowsAt H vs rs → RowsAt H' vs rs
  | [], [], _ => trivial
  | _ :: _, _ :: _, ⟨⟨a, e, h⟩, r⟩ => ⟨⟨a, e, k _ _ h⟩, RowsAt.keep k r⟩
  | [], _ :: _, h => h.elim
  | _ :: _, [], h => h.elim
theorem RowsAt.add {H : Hp} : ∀ {vs us : List V} {rs ss : List Rw}, RowsAt H vs rs → RowsAt H us ss → RowsAt H (vs ++ us) (rs ++ ss)
  | [], _, [], _, _, h => h
  | _ :: _, _, _ :: _, _, ⟨a, r⟩, h => ⟨a, RowsAt.add r h⟩
  | [], _, _ :: _, _, h, _ => h.elim
  | _ :: _, _, [], _, h, _ => h.elim
theorem RowsAt.len {H : Hp} : ∀ {vs : List V} {rs : List Rw}, RowsAt H vs rs → vs.length = rs.length
  | [], [], _ => rfl
  | _ :: _, _ :: _, ⟨_, r⟩ => by
    show _ + 1 = _ + 1
    rw [RowsAt.len r]
  | [], _ :: _, h => h.elim
  | _ :: _, [], h => h.elim
theorem RowsAt.get {H : Hp} : ∀ {vs : List V} {rs : List Rw}, RowsAt H vs rs → ∀ {k : Nat} {x : V}, vs[k]? = some x → ∃ r a, rs[k]? = some r ∧ x = .ref a ∧ H a = some (.tup (rwV r))
  | [], [], _, k, x, h => by cases h
  | v :: vs, r :: rs, ⟨⟨a, e, h1⟩, h2⟩, 0, x, h => by
    have : v = x := Option.some.inj h
    subst this
    exact ⟨r, a, rfl, e, h1⟩
  | v :: vs, r :: rs, ⟨_, h2⟩, k + 1, x, h => RowsAt.get h2 (k := k) h
  | [], _ :: _, h, _, _, _ => h.elim
  | _ :: _, [], h, _, _, _ => h.elim
def rw0 : List Rw := [(Str.ofString "true false last position current", 0, 0)]
def rw1 : List Rw := [(Str.ofString "contains key starts-with substring-after substring-before", 2, 2)]
def rw2 : List Rw := [(Str.ofString "generate-id local-name name normalize-space number string string-length", 0, 1)]
def rw3 : List Rw := [(Str.ofString "boolean ceiling count document floor id not round sum", 1, 1), (Str.ofString "concat", 2, 9)]
def rw4 : List Rw := [(Str.ofString "substring", 2, 3), (Str.ofString "translate", 3, 3)]
def rw5 : List Rw := [(Str.ofString "lang namespace-uri foo position-x text2 format-number", 9, 0)]
def rowsL : List Rw := ((((rw0 ++ rw1) ++ rw2) ++ rw3) ++ rw4) ++ rw5
section
variable {P : Program} {w : World} {K : PySem.W.Frag} {mg : Str → Option Value} {base : Heap}
def spWords : Sp := fun vs H Q _ => vs = [] ∧ ∀ H' L ts, Same H H' → H' L = some (.lst ts) → RowsAt H' ts rowsL → Q (.ref L) H'
theorem ok_Lwords (T : Tx w K mg) : Ok P w K mg base CX0 1 (He.fAd K d_Lwords.at_) p_Lwords spWords := by
  obtain ⟨fd, F⟩ := f_Lwords T
  refine ⟨fd, ?_, b_Lwords F, F.kp⟩
  refine F.ok sc_Lwords (fun vs H Q E h => ?_) (fun cdv A outer s H vs Q E hr h => ?_)
  · obtain ⟨rfl, _⟩ := h
    rfl
  · obtain ⟨rfl, kk⟩ := h
    have nd := sc_Lwords.nd
    refine ⟨_, PSs.nox (pss_cons (ps_set (i := 0) nd rfl (.inl rfl) (pe_lst (pa_cons (pe_tup (pa_cons pe_str (pa_cons pe_int (pa_cons pe_int pa_nil)))) pa_nil))) (pss_cons (ps_set (i := 0) nd rfl (.inl rfl) (pe_op op_cat (pv 0) (pe_lst (pa_cons (pe_tup (pa_cons pe_str (pa_cons pe_int (pa_cons pe_int pa_nil)))) pa_nil)))) (pss_cons (ps_set (i := 0) nd rfl (.inl rfl) (pe_op op_cat (pv 0) (pe_lst (pa_cons (pe_tup (pa_cons pe_str (pa_cons pe_int (pa_cons pe_int pa_nil)))) pa_nil)))) (pss_cons (ps_set (i := 0) nd rfl (.inl rfl) (pe_op op_cat (pv 0) (pe_lst (pa_cons (pe_tup (pa_cons pe_str (pa_cons pe_int (pa_cons pe_int pa_nil)))) (pa_cons (pe_tup (pa_cons pe_str (pa_cons pe_int (pa_cons pe_int pa_nil)))) pa_nil))))) (pss_cons (ps_set (i := 0) nd rfl (.inl rfl) (pe_op op_cat (pv 0) (pe_lst (pa_cons (pe_tup (pa_cons pe_str (pa_cons pe_int (pa_cons pe_int pa_nil)))) (pa_cons (pe_tup (pa_cons pe_str (pa_cons pe_int (pa_cons pe_int pa_nil)))) pa_nil))))) (pss_one (ps_ret (pe_op op_cat (pv 0) (pe_lst (pa_cons (pe_tup (pa_cons pe_str (pa_cons pe_int (pa_cons pe_int pa_nil)))) pa_nil)))))))))), ?_⟩
    have s0 : Same H H := Same.refl _
    refine ⟨(by show 3 ≤ sizeLine; decide), fun q1 hq1 => ?_⟩
    have t1 : Same H (upd H q1 (.tup [.str (Str.ofString "true false last position current"), .int 0, .int 0])) := same_new hq1
    have e1 : upd H q1 (.tup [.str (Str.ofString "true false last position current"), .int 0, .int 0]) q1 = some (.tup (rwV (Str.ofString "true false last position current", 0, 0))) := upd_same
    have S1 := s0.trans t1
    generalize upd H q1 (.tup [.str (Str.ofString "true false last position current"), .int 0, .int 0]) = H1 at t1 e1 S1 ⊢
    refine ⟨(by show 1 ≤ sizeLine; decide), fun q2 hq2 => ?_⟩
    have t2 : Same H1 (upd H1 q2 (.lst [V.ref q1])) := same_new hq2
    have f2 : upd H1 q2 (.lst [V.ref q1]) q2 = some (.lst [V.ref q1]) := upd_same
    have g2 : RowsAt (upd H1 q2 (.lst [V.ref q1])) [V.ref q1] rw0 := ⟨⟨_, rfl, t2 _ _ e1⟩, trivial⟩
    have S2 := S1.trans t2
    generalize upd H1 q2 (.lst [V.ref q1]) = H2 at t2 f2 g2 S2 ⊢
    have eL : H2 q2 = some (.lst [V.ref q1]) := f2
    have rA : RowsAt H2 [V.ref q1] rw0 := g2
    refine ⟨_, rfl, ?_⟩
    refine ⟨(by show 3 ≤ sizeLine; decide), fun q3 hq3 => ?_⟩
    have t3 : Same H2 (upd H2 q3 (.tup [.str (Str.ofString "contains key starts-with substring-after substring-before"), .int 2, .int 2])) := same_new hq3
    have e3 : upd H2 q3 (.tup [.str (Str.ofString "contains key starts-with substring-after substring-before"), .int 2, .int 2]) q3 = some (.tup (rwV (Str.ofString "contains key starts-with substring-after substring-before", 2, 2))) := upd_same
    have S3 := S2.trans t3
    replace eL := t3 _ _ eL
    replace rA := rA.keep t3
    generalize upd H2 q3 (.tup [.str (Str.ofString "contains key starts-with substring-after substring-before"), .int 2, .int 2]) = H3 at t3 e3 S3 eL rA ⊢
    refine ⟨(by show 1 ≤ sizeLine; decide), fun q4 hq4 => ?_⟩
    have t4 : Same H3 (upd H3 q4 (.lst [V.ref q3])) := same_new hq4
    have f4 : upd H3 q4 (.lst [V.ref q3]) q4 = some (.lst [V.ref q3]) := upd_same
    have g4 : RowsAt (upd H3 q4 (.lst [V.ref q3])) [V.ref q3] rw1 := ⟨⟨_, rfl, t4 _ _ e3⟩, trivial⟩
    have S4 := S3.trans t4
    replace eL := t4 _ _ eL
    replace rA := rA.keep t4
    generalize upd H3 q4 (.lst [V.ref q3]) = H4 at t4 f4 g4 S4 eL rA ⊢
    have rB := rA.add g4
    refine ⟨q2, q4, _, _, rfl, rfl, eL, f4, (by have := rB.len; rw [List.length_append] at this; rw [this, sizeLine_eq]; decide), fun q5 hq5 => ?_⟩
    have t5 := same_new hq5 (o := .lst ([V.ref q1] ++ [V.ref q3]))
    have e5 : upd H4 q5 (.lst ([V.ref q1] ++ [V.ref q3])) q5 = some (.lst ([V.ref q1] ++ [V.ref q3])) := upd_same
    replace rB := rB.keep t5
    have S5 := S4.trans t5
    clear eL rA
    generalize upd H4 q5 (.lst ([V.ref q1] ++ [V.ref q3])) = H5 at t5 e5 rB S5 ⊢
    have eL := e5
    have rA := rB
    clear rB
    refine ⟨_, rfl, ?_⟩
    refine ⟨(by show 3 ≤ sizeLine; decide), fun q6 hq6 => ?_⟩
    have t6 : Same H5 (upd H5 q6 (.tup [.str (Str.ofString "generate-id local-name name normalize-space number string string-length"), .int 0, .int 1])) := same_new hq6
    have e6 : upd H5 q6 (.tup [.str (Str.ofString "generate-id local-name name normalize-space number string string-length"), .int 0, .int 1]) q6 = some (.tup (rwV (Str.ofString "generate-id local-name name normalize-space number string string-length", 0, 1))) := upd_same
    have S6 := S5.trans t6
    replace eL := t6 _ _ eL
    replace rA := rA.keep t6
    generalize upd H5 q6 (.tup [.str (Str.ofString "generate-id local-name name normalize-space number string string-length"), .int 0, .int 1]) = H6 at t6 e6 S6 eL rA ⊢
    refine ⟨(by show 1 ≤ sizeLine; decide), fun q7 hq7 => ?_⟩
    have t7 : Same H6 (upd H6 q7 (.lst [V.ref q6])) := same_new hq7
    have f7 : upd H6 q7 (.lst [V.ref q6]) q7 = some (.lst [V.ref q6]) := upd_same
    have g7 : RowsAt (upd H6 q7 (.lst [V.ref q6])) [V.ref q6] rw2 := ⟨⟨_, rfl, t7 _ _ e6⟩, trivial⟩
    have S7 := S6.trans t7
    replace eL := t7 _ _ eL
    replace rA := rA.keep t7
    generalize upd H6 q7 (.lst [V.ref q6]) = H7 at t7 f7 g7 S7 eL rA ⊢
    have rB := rA.add g7
    refine ⟨q5, q7, _, _, rfl, rfl, eL, f7, (by have := rB.len; rw [List.length_append] at this; rw [this, sizeLine_eq]; decide), fun q8 hq8 => ?_⟩
    have t8 := same_new hq8 (o := .lst (([V.ref q1] ++ [V.ref q3]) ++ [V.ref q6]))
    have e8 : upd H7 q8 (.lst (([V.ref q1] ++ [V.ref q3]) ++ [V.ref q6])) q8 = some (.lst (([V.ref q1] ++ [V.ref q3]) ++ [V.ref q6])) := upd_same
    replace rB := rB.keep t8
    have S8 := S7.trans t8
    clear eL rA
    generalize upd H7 q8 (.lst (([V.ref q1] ++ [V.ref q3]) ++ [V.ref q6])) = H8 at t8 e8 rB S8 ⊢
    have eL := e8
    have rA := rB
    clear rB
    refine ⟨_, rfl, ?_⟩
    refine ⟨(by show 3 ≤ sizeLine; decide), fun q9 hq9 => ?_⟩
    have t9 : Same H8 (upd H8 q9 (.tup [.str (Str.ofString "boolean ceiling count document floor id not round sum"), .int 1, .int 1])) := same_new hq9
    have e9 : upd H8 q9 (.tup [.str (Str.ofString "boolean ceiling count document floor id not round sum"), .int 1, .int 1]) q9 = some (.tup (rwV (Str.ofString "boolean ceiling count document floor id not round sum", 1, 1))) := upd_same
    have S9 := S8.trans t9
    replace eL := t9 _ _ eL
    replace rA := rA.keep t9
    generalize upd H8 q9 (.tup [.str (Str.ofString "boolean ceiling count document floor id not round sum"), .int 1, .int 1]) = H9 at t9 e9 S9 eL rA ⊢
    refine ⟨(by show 3 ≤ sizeLine; decide), fun q10 hq10 => ?_⟩
    have t10 : Same H9 (upd H9 q10 (.tup [.str (Str.ofString "concat"), .int 2, .int 9])) := same_new hq10
    have e10 : upd H9 q10 (.tup [.str (Str.ofString "concat"), .int 2, .int 9]) q10 = some (.tup (rwV (Str.ofString "concat", 2, 9))) := upd_same
    replace e9 := t10 _ _ e9
    have S10 := S9.trans t10
    replace eL := t10 _ _ eL
    replace rA := rA.keep t10
    generalize upd H9 q10 (.tup [.str (Str.ofString "concat"), .int 2, .int 9]) = H10 at t10 e10 S10 e9 eL rA ⊢
    refine ⟨(by show 2 ≤ sizeLine; decide), fun q11 hq11 => ?_⟩
    have t11 : Same H10 (upd H10 q11 (.lst [V.ref q9, V.ref q10])) := same_new hq11
    have f11 : upd H10 q11 (.lst [V.ref q9, V.ref q10]) q11 = some (.lst [V.ref q9, V.ref q10]) := upd_same
    have g11 : RowsAt (upd H10 q11 (.lst [V.ref q9, V.ref q10])) [V.ref q9, V.ref q10] rw3 := ⟨⟨_, rfl, t11 _ _ e9⟩, ⟨⟨_, rfl, t11 _ _ e10⟩, trivial⟩⟩
    have S11 := S10.trans t11
    replace eL := t11 _ _ eL
    replace rA := rA.keep t11
    generalize upd H10 q11 (.lst [V.ref q9, V.ref q10]) = H11 at t11 f11 g11 S11 eL rA ⊢
    have rB := rA.add g11
    refine ⟨q8, q11, _, _, rfl, rfl, eL, f11, (by have := rB.len; rw [List.length_append] at this; rw [this, sizeLine_eq]; decide), fun q12 hq12 => ?_⟩
    have t12 := same_new hq12 (o := .lst ((([V.ref q1] ++ [V.ref q3]) ++ [V.ref q6]) ++ [V.ref q9, V.ref q10]))
    have e12 : upd H11 q12 (.lst ((([V.ref q1] ++ [V.ref q3]) ++ [V.ref q6]) ++ [V.ref q9, V.ref q10])) q12 = some (.lst ((([V.ref q1] ++ [V.ref q3]) ++ [V.ref q6]) ++ [V.ref q9, V.ref q10])) := upd_same
    replace rB := rB.keep t12
    have S12 := S11.trans t12
    clear eL rA
    generalize upd H11 q12 (.lst ((([V.ref q1] ++ [V.ref q3]) ++ [V.ref q6]) ++ [V.ref q9, V.ref q10])) = H12 at t12 e12 rB S12 ⊢
    have eL := e12
    have rA := rB
    clear rB
    refine ⟨_, rfl, ?_⟩
    refine ⟨(by show 3 ≤ sizeLine; decide), fun q13 hq13 => ?_⟩
    have t13 : Same H12 (upd H12 q13 (.tup [.str (Str.ofString "substring"), .int 2, .int 3])) := same_new hq13
    have e13 : upd H12 q13 (.tup [.str (Str.ofString "substring"), .int 2, .int 3]) q13 = some (.tup (rwV (Str.ofString "substring", 2, 3))) := upd_same
    have S13 := S12.trans t13
    replace eL := t13 _ _ eL
    replace rA := rA.keep t13
    generalize upd H12 q13 (.tup [.str (Str.ofString "substring"), .int 2, .int 3]) = H13 at t13 e13 S13 eL rA ⊢
    refine ⟨(by show 3 ≤ sizeLine; decide), fun q14 hq14 => ?_⟩
    have t14 : Same H13 (upd H13 q14 (.tup [.str (Str.ofString "translate"), .int 3, .int 3])) := same_new hq14
    have e14 : upd H13 q14 (.tup [.str (Str.ofString "translate"), .int 3, .int 3]) q14 = some (.tup (rwV (Str.ofString "translate", 3, 3))) := upd_same
    replace e13 := t14 _ _ e13
    have S14 := S13.trans t14
    replace eL := t14 _ _ eL
    replace rA := rA.keep t14
    generalize upd H13 q14 (.tup [.str (Str.ofString "translate"), .int 3, .int 3]) = H14 at t14 e14 S14 e13 eL rA ⊢
    refine ⟨(by show 2 ≤ sizeLine; decide), fun q15 hq15 => ?_⟩
    have t15 : Same H14 (upd H14 q15 (.lst [V.ref q13, V.ref q14])) := same_new hq15
    have f15 : upd H14 q15 (.lst [V.ref q13, V.ref q14]) q15 = some (.lst [V.ref q13, V.ref q14]) := upd_same
    have g15 : RowsAt (upd H14 q15 (.lst [V.ref q13, V.ref q14])) [V.ref q13, V.ref q14] rw4 := ⟨⟨_, rfl, t15 _ _ e13⟩, ⟨⟨_, rfl, t15 _ _ e14⟩, trivial⟩⟩
    have S15 := S14.trans t15
    replace eL := t15 _ _ eL
    replace rA := rA.keep t15
    generalize upd H14 q15 (.lst [V.ref q13, V.ref q14]) = H15 at t15 f15 g15 S15 eL rA ⊢
    have rB := rA.add g15
    refine ⟨q12, q15, _, _, rfl, rfl, eL, f15, (by have := rB.len; rw [List.length_append] at this; rw [this, sizeLine_eq]; decide), fun q16 hq16 => ?_⟩
    have t16 := same_new hq16 (o := .lst (((([V.ref q1] ++ [V.ref q3]) ++ [V.ref q6]) ++ [V.ref q9, V.ref q10]) ++ [V.ref q13, V.ref q14]))
    have e16 : upd H15 q16 (.lst (((([V.ref q1] ++ [V.ref q3]) ++ [V.ref q6]) ++ [V.ref q9, V.ref q10]) ++ [V.ref q13, V.ref q14])) q16 = some (.lst (((([V.ref q1] ++ [V.ref q3]) ++ [V.ref q6]) ++ [V.ref q9, V.ref q10]) ++ [V.ref q13, V.ref q14])) := upd_same
    replace rB := rB.keep t16
    have S16 := S15.trans t16
    clear eL rA
    generalize upd H15 q16 (.lst (((([V.ref q1] ++ [V.ref q3]) ++ [V.ref q6]) ++ [V.ref q9, V.ref q10]) ++ [V.ref q13, V.ref q14])) = H16 at t16 e16 rB S16 ⊢
    have eL := e16
    have rA := rB
    clear rB
    refine ⟨_, rfl, ?_⟩
    refine ⟨(by show 3 ≤ sizeLine; decide), fun q17 hq17 => ?_⟩
    have t17 : Same H16 (upd H16 q17 (.tup [.str (Str.ofString "lang namespace-uri foo position-x text2 format-number"), .int 9, .int 0])) := same_new hq17
    have e17 : upd H16 q17 (.tup [.str (Str.ofString "lang namespace-uri foo position-x text2 format-number"), .int 9, .int 0]) q17 = some (.tup (rwV (Str.ofString "lang namespace-uri foo position-x text2 format-number", 9, 0))) := upd_same
    have S17 := S16.trans t17
    replace eL := t17 _ _ eL
    replace rA := rA.keep t17
    generalize upd H16 q17 (.tup [.str (Str.ofString "lang namespace-uri foo position-x text2 format-number"), .int 9, .int 0]) = H17 at t17 e17 S17 eL rA ⊢
    refine ⟨(by show 1 ≤ sizeLine; decide), fun q18 hq18 => ?_⟩
    have t18 : Same H17 (upd H17 q18 (.lst [V.ref q17])) := same_new hq18
    have f18 : upd H17 q18 (.lst [V.ref q17]) q18 = some (.lst [V.ref q17]) := upd_same
    have g18 : RowsAt (upd H17 q18 (.lst [V.ref q17])) [V.ref q17] rw5 := ⟨⟨_, rfl, t18 _ _ e17⟩, trivial⟩
    have S18 := S17.trans t18
    replace eL := t18 _ _ eL
    replace rA := rA.keep t18
    generalize upd H17 q18 (.lst [V.ref q17]) = H18 at t18 f18 g18 S18 eL rA ⊢
    have rB := rA.add g18
    refine ⟨q16, q18, _, _, rfl, rfl, eL, f18, (by have := rB.len; rw [List.length_append] at this; rw [this, sizeLine_eq]; decide), fun q19 hq19 => ?_⟩
    have t19 := same_new hq19 (o := .lst ((((([V.ref q1] ++ [V.ref q3]) ++ [V.ref q6]) ++ [V.ref q9, V.ref q10]) ++ [V.ref q13, V.ref q14]) ++ [V.ref q17]))
    have e19 : upd H18 q19 (.lst ((((([V.ref q1] ++ [V.ref q3]) ++ [V.ref q6]) ++ [V.ref q9, V.ref q10]) ++ [V.ref q13, V.ref q14]) ++ [V.ref q17])) q19 = some (.lst ((((([V.ref q1] ++ [V.ref q3]) ++ [V.ref q6]) ++ [V.ref q9, V.ref q10]) ++ [V.ref q13, V.ref q14]) ++ [V.ref q17])) := upd_same
    replace rB := rB.keep t19
    have S19 := S18.trans t19
    clear eL rA
    generalize upd H18 q19 (.lst ((((([V.ref q1] ++ [V.ref q3]) ++ [V.ref q6]) ++ [V.ref q9, V.ref q10]) ++ [V.ref q13, V.ref q14]) ++ [V.ref q17])) = H19 at t19 e19 rB S19 ⊢
    have eL := e19
    have rA := rB
    clear rB
    exact kk _ _ _ S19 eL rA
end
end K20
/-! K20Lg -/
namespace K20
open PySem PySem.Spec PyProof.Rows L2 TL
/-! ### a call of a word with none to four arguments: what is told is what is due -/
def dueP : Option Nat → PyData
  | none => .str (Str.ofString "told")
  | some q => .tuple [.str (Str.ofString "at"), .int (q : Int)]
theorem dueP_ok (o : Option Nat) : SeqAt.shaped (dueP o) = true := by
  cases o with
  | none => decide +kernel
  | some q => 
    show (PyData.canLay0 (.tuple [.str (Str.ofString "at"), .int (q : Int)]) && decide (PyData.depth (.tuple [.str (Str.ofString "at"), .int (q : Int)]) ≤ 64)) = true
    have h1 : PyData.canLay0 (.tuple [.str (Str.ofString "at"), .int (q : Int)]) = true := by kernel_rfl
    have h2 : PyData.depth (.tuple [.str (Str.ofString "at"), .int (q : Int)]) = PyData.depth (.tuple [.str (Str.ofString "at"), .int 0]) := by kernel_rfl
    rw [h1, h2]
    decide +kernel
theorem dueP_eq (o : Option Nat) : PyData.eqv (dueP o) (dueP o) = true := SeqAt.eqv_refl _ (SeqAt.canLay_of_shaped (dueP_ok o))
/-- such a value -/
def DueAt (H : Hp) (v : V) : Option Nat → Prop
  | none => v = .str (Str.ofString "told")
  | some q => ∃ t, v = .ref t ∧ H t = some (.tup [.str (Str.ofString "at"), .int (q : Int)])
theorem DueAt.keep {H H' : Hp} (s : Same H H') {v : V} : ∀ {o : Option Nat}, DueAt H v o → DueAt H' v o
  | none, h => h
  | some _, ⟨t, e, h⟩ => ⟨t, e, s _ _ h⟩
theorem DueAt.dp {K : PySem.W.Frag} {H : Hp} {v : V} : ∀ {o : Option Nat}, DueAt H v o → Dp K H v (dueP o)
  | none, h => by
    cases h
    exact .str _
  | some q, ⟨t, e, h⟩ => by
    cases e
    exact Dp.tup (SqT.of h) (.cons (.str _) (.cons (.int _) .nil))
theorem all_b2 {l : List Nat} (h : l ∈ b2) : l.all isSg = true := (show ∀ l ∈ b2, l.all isSg = true by decide) _ h
theorem all_a9 {l : List Nat} (h : l ∈ a9) : l.all isSg = true := (show ∀ l ∈ a9, l.all isSg = true by decide) _ h
theorem all_cs {a : Ar} (h : a.Gd) : a.cs.all isSg = true := by
  unfold Ar.cs
  rw [List.all_append, List.all_append, all_b2 h.1, all_a9 h.2.1, all_b2 h.2.2]
  rfl
theorem all_tx : ∀ (as : List Ar) (b : Bool), (∀ a ∈ as, a.Gd) → (txA b as).all isSg = true
  | [], _, _ => rfl
  | a :: as, b, h => by
    show ((if b then [44] else []) ++ (a.cs ++ txA true as)).all isSg = true
    rw [List.all_append, List.all_append, all_cs (h a List.mem_cons_self), all_tx as true fun c hc => h c (List.mem_cons_of_mem _ hc)]
    cases b <;> rfl
theorem call_gd {a0 wd a1 : List Nat} {as : List Ar} {z : Str} (h0 : a0 ∈ b2) (hw : wd.all isSg = true) (hl : wd.length ≤ 100) (h1 : a1 ∈ b2) (hg : ∀ a ∈ as, a.Gd) (hm : as.length ≤ 4) (hz : tl z = calL a0 wd a1 as) : Gd z := by
  constructor
  · have : (tl z).all isSg = true := by
      rw [hz]
      unfold calL
      rw [List.all_append, List.all_append, List.all_append, List.all_cons, List.all_append, all_b2 h0, all_b2 h1, hw, all_tx as false hg]
      rfl
    exact List.all_eq_true.mp this
  · have e1 : ∀ l ∈ b2, l.length ≤ 1 := by decide
    have g0 := e1 _ h0
    have g1 := e1 _ h1
    have g2 := txF_len as hg
    rw [len_tl, hz]
    unfold calL
    simp only [List.length_append, List.length_cons, List.length_nil]
    omega
theorem nV_get {l : List Nat} {k q : Nat} (h : l[k]? = some q) : (nV l)[k]? = some (.int (q : Int)) := by
  unfold nV
  rw [List.getElem?_map, h]
  rfl
theorem spO_last (p : Nat) (as : List Ar) : ∃ q, (spO p as).getLast? = some q ∧ atI (nV (spO p as)) (-1) = some (.int (q : Int)) := by
  rw [spO_end]
  refine ⟨p + 1 + (txA false as).length, List.getLast?_concat, ?_⟩
  rw [nV_add]
  exact atI_last _ _
theorem spO_len (p : Nat) (as : List Ar) : 2 * as.length + 1 ≤ (spO p as).length ∧ 2 ≤ (spO p as).length := by
  cases as with
  | nil => exact ⟨by show 1 ≤ 2; decide, by show 2 ≤ 2; decide⟩
  | cons a as =>
    have h : (spO p (a :: as)).length = 2 * as.length + 3 := by
      show (spA _ as).length + 1 + 1 = _
      rw [spA_end, List.length_append, spJ_len]
      rfl
    rw [h, List.length_cons]
    omega
section
variable {P : Program} {w : World} {K : PySem.W.Frag} {mg : Str → Option Value} {base : Heap}
def spCr : Sp := fun vs H Q _ => ∃ (p : Addr) (wd : Str) (lo hi : Nat), vs = [.ref p, .str wd, .int (lo : Int), .int (hi : Int)] ∧ Wl H p ∧ wdIs lo hi (tl wd) = true ∧ wd.length ≤ 100 ∧ (tl wd).all isSg = true ∧
  ∀ H', SameB p H H' → Wl H' p → Q (.bl true) H'
theorem ok_Lcall_right (T : Tx w K mg) : Ok P w K mg base CX0 27 (He.fAd K d_Lcall_right.at_) p_Lcall_right spCr := by
  obtain ⟨fd, F⟩ := f_Lcall_right T
  obtain ⟨fC, GC, bC, kC⟩ := ok_Lcall (P := P) (base := base) T
  obtain ⟨fS, GS, bS, kS⟩ := ok_Lsaid (P := P) (base := base) T
  refine ⟨fd, ?_, b_Lcall_right F, F.kp⟩
  refine F.ok sc_Lcall_right (fun vs H Q E h => ?_) (fun cdv A outer s H vs Q E hr h => ?_)
  · obtain ⟨p, wd, lo, hi, rfl, _⟩ := h
    rfl
  · obtain ⟨p, wd, lo, hi, rfl, hw, hwi, hwl, hwg, kk⟩ := h
    have nd := sc_Lcall_right.nd
    refine ⟨_, PSs.nox (pss_cons (ps_for PassesOwn.never rfl (pi_range1 (by rfl) (n_range T) (pa_cons pe_int pa_nil)) (pg_name (i := 4) nd rfl (.inl rfl))
        (pss_cons (ps_asg (pe_call (E := E0) GC (hr.mono (by decide)) (by rfl) (g_Lcall T) kC bC .nil pass0 (pa_cons (pv 0) (pa_cons (pv 1) (pa_cons (pv 4) pa_nil)))) (pg_tup (by rfl) (pgs_cons (pg_name (i := 5) nd rfl (.inl rfl)) (pgs_cons (pg_name (i := 6) nd rfl (.inl rfl)) pgs_nil))))
        (Evl.pss_cut (ps_set (i := 7) nd rfl (.inl rfl) (pe_call (E := E0) GS (hr.mono (by decide)) (by rfl) (g_Lsaid T) kS bS .nil pass0 (pa_cons (pe_glob (v := .ref (He.ga K "tree_of")) (by rfl) (g_tree_of T) rfl) (pa_cons (pv 5) pa_nil))))
        (Evl.pss_cut (ps_if (pt_chain op_le op_le (pv 2) (pv 4) (pv 3)) (pss_one (ps_set (i := 8) nd rfl (.inl rfl) pe_str))
            (pss_one (ps_if (pt_cmpR op_eq (pv 2) pe_int (nomark _)) (pss_one (ps_set (i := 8) nd rfl (.inl rfl) (pe_tup (pa_cons pe_str (pa_cons (pe_ix ix_list (pv 6) pe_int (fun _ _ => rfl)) pa_nil)))))
              (pss_one (ps_if (pt_cmpR op_lt (pv 4) (pv 2) (nomark _)) (pss_one (ps_set (i := 8) nd rfl (.inl rfl) (pe_tup (pa_cons pe_str (pa_cons (pe_ix ix_list (pv 6) (pe_un un_neg pe_int) (fun _ _ => rfl)) pa_nil)))))
                (pss_one (ps_set (i := 8) nd rfl (.inl rfl) (pe_tup (pa_cons pe_str (pa_cons (pe_ifExp (pt_cmpR op_eq (pv 3) pe_int (nomark _)) (pe_ix ix_list (pv 6) pe_int (fun _ _ => rfl)) (pe_ix ix_list (pv 6) (pe_op op_mul pe_int (pv 3)) (fun _ _ => rfl))) pa_nil))))))))))
        (pss_one (ps_if (pt_cmpR (op_neD hr.units) (pv 7) (pv 8) (nomark _)) (pss_one (ps_ret pe_bl)) pss_nil))))))
      (pss_one (ps_ret pe_bl))), ?_⟩
    refine ⟨5, rfl, by decide, by decide, ?_⟩
    refine for_it walk_range (fun k σ H4 => SameB p H H4 ∧ Wl H4 p ∧ ∃ v4 v5 v6 v7 v8 : Option V, σ = [some (.ref p), some (.str wd), some (.int (lo : Int)), some (.int (hi : Int)), v4, v5, v6, v7, v8])
      ⟨SameB.refl _ _, hw, _, _, _, _, _, rfl⟩ (fun _ _ _ _ _ => trivial) ?_ ?_
    · rintro k x σ H4' H4 hk ⟨b4, hw4, v4, v5, v6, v7, v8, rfl⟩ ⟨rfl, rfl⟩
      have hk5 : k < 5 := hk
      have ek : (0 : Int) + (k : Int) = ((k : Nat) : Int) := by omega
      show tSeq _ _ _ ([some (V.ref p), some (.str wd), some (.int (lo : Int)), some (.int (hi : Int)), some (.int (0 + (k : Int))), v5, v6, v7, v8]) _
      rw [ek]
      refine ⟨_, rfl, _, rfl, _, rfl, p, wd, k, rfl, hw4, hwl, by omega, fun H5 t L z a0 a1 as b5 hw5 ht0 ht hL h0 h1 hg hm hz => ?_⟩
      refine ⟨t, _, rfl, SqT.of ht, rfl, _, _, rfl, _, _, rfl, rfl, ?_⟩
      have hgd : Gd z := call_gd h0 hwg (by rw [← len_tl]; exact hwl) h1 hg (by omega) hz
      have hev := call_ev h0 hwi h1 hg (by omega) hz
      obtain ⟨p0, hp0⟩ : ∃ q, q = a0.length + (tl wd).length + a1.length := ⟨_, rfl⟩
      rw [← hp0] at hL hev
      rw [hm] at hev
      generalize hwn : wantN lo hi k (spO p0 as) = want at hev
      refine ⟨fun σ H6 => ∃ (v : V) (u8 : Option V), σ = [some (.ref p), some (.str wd), some (.int (lo : Int)), some (.int (hi : Int)), some (.int (k : Int)), some (.str z), some (.ref L), some v, u8] ∧ Same H5 H6 ∧ DueAt H6 v want, ?_, ?_⟩
      · refine ⟨_, rfl, .inl ⟨z, rfl, hgd, ?_⟩⟩
        cases hrp : rpN 3 z (tokL z) with
        | dk =>
          rw [hrp] at hev
          exact hev.elim
        | ok l =>
          rw [hrp] at hev
          cases want with
          | none => exact fun H6 s6 => ⟨_, _, rfl, s6, rfl⟩
          | some q => exact hev.elim
        | no q =>
          rw [hrp] at hev
          cases want with
          | none => exact hev.elim
          | some q' =>
            have : q = q' := hev
            subst this
            exact fun H6 t6 s6 _ ht6 => ⟨_, _, rfl, s6, t6, rfl, ht6⟩
      · rintro σ H6 ⟨v, u8, rfl, s6, hv⟩
        have hL6 := s6 _ _ hL
        refine ⟨fun σ H7 => ∃ (u : V), σ = [some (.ref p), some (.str wd), some (.int (lo : Int)), some (.int (hi : Int)), some (.int (k : Int)), some (.str z), some (.ref L), some v, some u] ∧ Same H6 H7 ∧ DueAt H7 u want, ?_, ?_⟩
        · refine ⟨_, rfl, _, rfl, _, _, rfl, rfl, _, rfl, ?_⟩
          refine ite2 (fun y1 => ?_) (fun y1 => ?_)
          · refine ⟨_, rfl, _, _, rfl, rfl, _, rfl, ?_⟩
            refine ite2 (fun y2 => ?_) (fun y2 => ?_)
            · have hw0 : want = none := by
                have e1 := of_decide_eq_true y1
                have e2 := of_decide_eq_true y2
                rw [← hwn]
                unfold wantN
                rw [if_pos ⟨by omega, by omega⟩]
              exact ⟨_, rfl, Same.refl _, by rw [hw0]; rfl⟩
            · have hno : ¬ (lo ≤ k ∧ k ≤ hi) := by
                have := of_decide_eq_false (Bool.eq_false_iff.mpr y2)
                omega
              refine ⟨_, rfl, rfl, _, rfl, ?_⟩
              refine ite2 (fun y3 => ?_) (fun y3 => ?_)
              · have hlo : lo = 9 := by
                  have := V.int.inj (of_decide_eq_true y3)
                  omega
                have hw0 : want = some p0 := by
                  rw [← hwn]
                  unfold wantN
                  rw [if_neg hno, if_pos hlo]
                  cases as <;> rfl
                have hx0 : (nV (spO p0 as))[0]? = some (.int (p0 : Int)) := by cases as <;> rfl
                exact ⟨_, rfl, L, _, 0, _, rfl, rfl, SqL.of hL6, atI_nat hx0, (by show 2 ≤ sizeLine; decide), fun t ht => ⟨_, rfl, same_new ht, by rw [hw0]; exact ⟨t, rfl, upd_same⟩⟩⟩
              · have hlo : ¬ lo = 9 := fun e => y3 (decide_eq_true (by rw [e]; rfl))
                refine ⟨_, rfl, _, rfl, _, _, rfl, rfl, _, rfl, ?_⟩
                refine ite2 (fun y4 => ?_) (fun y4 => ?_)
                · have hlt : k < lo := by
                    have := of_decide_eq_true y4
                    omega
                  obtain ⟨q, hq1, hq2⟩ := spO_last p0 as
                  have hw0 : want = some q := by
                    rw [← hwn]
                    unfold wantN
                    rw [if_neg hno, if_neg hlo, if_pos hlt, hq1]
                  exact ⟨_, rfl, _, rfl, L, _, -1, _, rfl, rfl, SqL.of hL6, hq2, (by show 2 ≤ sizeLine; decide), fun t ht => ⟨_, rfl, same_new ht, by rw [hw0]; exact ⟨t, rfl, upd_same⟩⟩⟩
                · have hlt : ¬ k < lo := by
                    have := of_decide_eq_false (Bool.eq_false_iff.mpr y4)
                    omega
                  have hw0 : want = (spO p0 as)[if hi = 0 then 1 else 2 * hi]? := by
                    rw [← hwn]
                    unfold wantN
                    rw [if_neg hno, if_neg hlo, if_neg hlt]
                  have hlk : hi < k := by
                    have e1 : ¬ (lo ≤ k ∧ k ≤ hi) := hno
                    omega
                  have hsome : ∃ q, (spO p0 as)[if hi = 0 then 1 else 2 * hi]? = some q := by
                    refine ⟨_, List.getElem?_eq_getElem ?_⟩
                    have hl2 := spO_len p0 as
                    split <;> omega
                  obtain ⟨q, hq⟩ := hsome
                  rw [hq] at hw0
                  refine ⟨_, rfl, rfl, _, rfl, ?_⟩
                  refine ite2 (fun y5 => ?_) (fun y5 => ?_)
                  · have h0 : hi = 0 := by
                      have := V.int.inj (of_decide_eq_true y5)
                      omega
                    rw [if_pos h0] at hq
                    exact ⟨_, rfl, L, _, 1, _, rfl, rfl, SqL.of hL6, atI_nat (nV_get hq), (by show 2 ≤ sizeLine; decide), fun t ht => ⟨_, rfl, same_new ht, by rw [hw0]; exact ⟨t, rfl, upd_same⟩⟩⟩
                  · have h0 : ¬ hi = 0 := fun e => y5 (decide_eq_true (by rw [e]; rfl))
                    rw [if_neg h0] at hq
                    have hat : atI (nV (spO p0 as)) ((2 : Int) * (hi : Int)) = some (.int (q : Int)) := by
                      rw [show (2 : Int) * (hi : Int) = ((2 * hi : Nat) : Int) by omega]
                      exact atI_nat (nV_get hq)
                    exact ⟨_, rfl, _, rfl, _, _, rfl, rfl, .inl ⟨by decide, by decide⟩, L, _, _, _, rfl, rfl, SqL.of hL6, hat, (by show 2 ≤ sizeLine; decide), fun t ht => ⟨_, rfl, same_new ht, by rw [hw0]; exact ⟨t, rfl, upd_same⟩⟩⟩
          · have hno : ¬ (lo ≤ k ∧ k ≤ hi) := by
              have := of_decide_eq_false (Bool.eq_false_iff.mpr y1)
              omega
            refine ⟨false, rfl, ?_⟩
            refine iteF ?_
            refine ⟨_, rfl, rfl, _, rfl, ?_⟩
            refine ite2 (fun y3 => ?_) (fun y3 => ?_)
            · have hlo : lo = 9 := by
                have := V.int.inj (of_decide_eq_true y3)
                omega
              have hw0 : want = some p0 := by
                rw [← hwn]
                unfold wantN
                rw [if_neg hno, if_pos hlo]
                cases as <;> rfl
              have hx0 : (nV (spO p0 as))[0]? = some (.int (p0 : Int)) := by cases as <;> rfl
              exact ⟨_, rfl, L, _, 0, _, rfl, rfl, SqL.of hL6, atI_nat hx0, (by show 2 ≤ sizeLine; decide), fun t ht => ⟨_, rfl, same_new ht, by rw [hw0]; exact ⟨t, rfl, upd_same⟩⟩⟩
            · have hlo : ¬ lo = 9 := fun e => y3 (decide_eq_true (by rw [e]; rfl))
              refine ⟨_, rfl, _, rfl, _, _, rfl, rfl, _, rfl, ?_⟩
              refine ite2 (fun y4 => ?_) (fun y4 => ?_)
              · have hlt : k < lo := by
                  have := of_decide_eq_true y4
                  omega
                obtain ⟨q, hq1, hq2⟩ := spO_last p0 as
                have hw0 : want = some q := by
                  rw [← hwn]
                  unfold wantN
                  rw [if_neg hno, if_neg hlo, if_pos hlt, hq1]
                exact ⟨_, rfl, _, rfl, L, _, -1, _, rfl, rfl, SqL.of hL6, hq2, (by show 2 ≤ sizeLine; decide), fun t ht => ⟨_, rfl, same_new ht, by rw [hw0]; exact ⟨t, rfl, upd_same⟩⟩⟩
              · have hlt : ¬ k < lo := by
                  have := of_decide_eq_false (Bool.eq_false_iff.mpr y4)
                  omega
                have hw0 : want = (spO p0 as)[if hi = 0 then 1 else 2 * hi]? := by
                  rw [← hwn]
                  unfold wantN
                  rw [if_neg hno, if_neg hlo, if_neg hlt]
                have hlk : hi < k := by
                  have e1 : ¬ (lo ≤ k ∧ k ≤ hi) := hno
                  omega
                have hsome : ∃ q, (spO p0 as)[if hi = 0 then 1 else 2 * hi]? = some q := by
                  refine ⟨_, List.getElem?_eq_getElem ?_⟩
                  have hl2 := spO_len p0 as
                  split <;> omega
                obtain ⟨q, hq⟩ := hsome
                rw [hq] at hw0
                refine ⟨_, rfl, rfl, _, rfl, ?_⟩
                refine ite2 (fun y5 => ?_) (fun y5 => ?_)
                · have h0 : hi = 0 := by
                    have := V.int.inj (of_decide_eq_true y5)
                    omega
                  rw [if_pos h0] at hq
                  exact ⟨_, rfl, L, _, 1, _, rfl, rfl, SqL.of hL6, atI_nat (nV_get hq), (by show 2 ≤ sizeLine; decide), fun t ht => ⟨_, rfl, same_new ht, by rw [hw0]; exact ⟨t, rfl, upd_same⟩⟩⟩
                · have h0 : ¬ hi = 0 := fun e => y5 (decide_eq_true (by rw [e]; rfl))
                  rw [if_neg h0] at hq
                  have hat : atI (nV (spO p0 as)) ((2 : Int) * (hi : Int)) = some (.int (q : Int)) := by
                    rw [show (2 : Int) * (hi : Int) = ((2 * hi : Nat) : Int) by omega]
                    exact atI_nat (nV_get hq)
                  exact ⟨_, rfl, _, rfl, _, _, rfl, rfl, .inl ⟨by decide, by decide⟩, L, _, _, _, rfl, rfl, SqL.of hL6, hat, (by show 2 ≤ sizeLine; decide), fun t ht => ⟨_, rfl, same_new ht, by rw [hw0]; exact ⟨t, rfl, upd_same⟩⟩⟩
        · rintro σ H7 ⟨u, rfl, s7, hu⟩
          have hv7 := hv.keep s7
          refine ⟨_, rfl, _, rfl, _, _, hv7.dp, hu.dp, dueP_ok _, dueP_ok _, _, rfl, ?_⟩
          rw [dueP_eq]
          refine iteF ?_
          have s57 := s6.trans s7
          exact ⟨(b4.trans b5).trans (.of s57), hw5.at s57, _, _, _, _, _, rfl⟩
    · rintro σ H4 ⟨b4, hw4, v4, v5, v6, v7, v8, rfl⟩
      exact kk H4 b4 hw4
end
end K20
/-! K20Lh -/
namespace K20
open PySem PySem.Spec PyProof.Rows L2 TL
def okW (r : Rw) : Bool := (Txt.split r.1 (Str.ofString " ")).all fun wd => wdIs r.2.1 r.2.2 (tl wd) && (decide (wd.length ≤ 100) && (tl wd).all isSg)
theorem rows_ok : ∀ r ∈ rowsL, okW r = true := by decide +kernel
theorem rows_len : ∀ r ∈ rowsL, r.1.length ≤ 1000 := by decide +kernel
theorem row_word {r : Rw} (hr : r ∈ rowsL) {wd : Str} (hw : wd ∈ Txt.split r.1 (Str.ofString " ")) : wdIs r.2.1 r.2.2 (tl wd) = true ∧ wd.length ≤ 100 ∧ (tl wd).all isSg = true := by
  have h := rows_ok r hr
  unfold okW at h
  have := List.all_eq_true.mp h wd hw
  rw [Bool.and_eq_true, Bool.and_eq_true, decide_eq_true_eq] at this
  exact this
def tBv (K : PySem.W.Frag) (v : V) : TE := fun σ H Q => ∀ d, H d = none → ∀ a, upd H d (.xd [("why", v)]) a = none → Q (.ref a) (upd (upd H d (.xd [("why", v)])) a (ExD (.ref (CB K)) (some d) a))
theorem pe_bv {X : Cx} {K : PySem.W.Frag} {mg : Str → Option Value} {w : World} {e : Expr} {p p2 : Pos} {v : V} (hK : X.K = K) (hm : X.mg = mg) (hw : X.w = w) (T : Tx w K mg) (hr : Room 3 X.A) (ha : PA X (e :: []) (tCons (tC v) tNil)) (hg : Gl X "BadValue" := by rfl)
    (hs : starEach (e :: []) X.env = (false, eval e X.env) :: starEach [] X.env := by rfl) (hpl : (backTo p2 (starEach [] X.env)).any (·.1) = false := by rfl) : PE X (.Call (.Name "BadValue" p) (e :: []) [] p2) (tBv K v) := by
  subst hK hm hw
  exact ⟨fun pins s σ H Q I h => (pe_mk (pmk_bv T hr ha hg hs hpl)).run pins s σ H Q I (bv_ok (K := X.K) (H1 := H) (y := v) (Q := fun cls d H1 => ∀ a, H1 a = none → Q (.ref a) (upd H1 a (ExD cls d a))) fun d hd a ha => h d hd a ha)⟩
theorem sqL_keep {K : PySem.W.Frag} {H H' : Hp} {a : Addr} {xs : List V} (h : SqL K H a xs) (s : Same H H') : SqL K H' a xs := by
  rcases h with h | h
  · refine .inl ?_
    rcases h with h | ⟨o, h⟩
    · exact .inl (s _ _ h)
    · exact .inr ⟨o, s _ _ h⟩
  · exact .inr h
section
variable {P : Program} {w : World} {K : PySem.W.Frag} {mg : Str → Option Value} {base : Heap}
def spLaw (K : PySem.W.Frag) : Sp := fun vs H Q _ => ∃ (a : Addr) (ns : List Int), vs = [.ref a] ∧ SqL K H a (ns.map V.int) ∧ ∀ H', Q (.bl true) H'
theorem ok_law (T : Tx w K mg) {fd : FuncData} (F : FnP K d_law fd) : FnOk P w K mg base CX0 28 (He.fAd K d_law.at_) fd p_law (spLaw K) := by
  obtain ⟨fS, GS, bS, kS⟩ := ok_Lsaid (P := P) (base := base) T
  obtain ⟨fT, GT, bT, kT⟩ := ok_Lstate (P := P) (base := base) T
  obtain ⟨fW, GW, bW, kW⟩ := ok_Lwords (P := P) (base := base) T
  obtain ⟨fC, GC, bC, kC⟩ := ok_Lcall_right (P := P) (base := base) T
  refine F.ok sc_law (fun vs H Q E h => ?_) (fun cdv A outer s H vs Q E hr h => ?_)
  · obtain ⟨a, ns, rfl, _⟩ := h
    rfl
  · obtain ⟨a, ns, rfl, ha, kk⟩ := h
    have nd := sc_law.nd
    refine ⟨_, PSs.nox (pss_cons (ps_set (i := 1) nd rfl (.inl rfl) (pe_lst (pa_cons (pe_glob (v := .ref (He.ga K "tokens")) (by rfl) (g_tokens T) rfl) (pa_cons (pe_glob (v := .ref (He.ga K "tree_of")) (by rfl) (g_tree_of T) rfl) (pa_cons (pe_glob (v := .ref (He.ga K "canonical")) (by rfl) (g_canonical T) rfl) (pa_cons (pe_glob (v := .ref (He.ga K "abbreviated")) (by rfl) (g_abbreviated T) rfl) pa_nil))))))
      (pss_cons (ps_for PassesOwn.never rfl (pi_list (pe_lst (pa_cons pe_non (pa_cons pe_bl (pa_cons pe_int (pa_cons (pe_op op_pow pe_int pe_int) (pa_cons (pe_lst pa_nil) (pa_cons (pe_lst (pa_cons pe_str pa_nil)) (pa_cons (pe_tup pa_nil) (pa_cons (pe_tup (pa_cons pe_str pa_nil)) (pa_cons pe_dnewK
            (pa_cons (pe_bv (K := K) (mg := mg) (w := w) rfl rfl rfl T (hr.mono (by decide)) (pa_cons pe_str pa_nil)) (pa_cons (pe_lst (pa_cons (pe_lst pa_nil) pa_nil)) pa_nil))))))))))))) (pg_name (i := 2) nd rfl (.inr rfl))
          (pss_one (ps_if (pt_cmpR (op_neD hr.units) (pe_lc (own := [("_law_ask", 9)]) (g := gName 9) (tt := tYes) (by rfl) nd (pi_list (pv 1)) (blkOk_by (own := [("_law_ask", 9)]) (N := N_law) (sc := defScope s_law) (by decide +kernel))
              (fun _ _ _ _ _ => pg_name (i := 9) nd rfl (Or.inl rfl)) (fun _ _ _ _ _ => pts_nil)
              (fun _ _ _ _ _ => pe_call (E := E0) GS (hr.mono (by decide)) (by rfl) (g_Lsaid T) kS bS .nil pass0 (pa_cons (pv 9) (pa_cons (pv 2) pa_nil))))
              (pe_op op_rep (pe_lst (pa_cons pe_str pa_nil)) pe_int) (nomark _)) (pss_one (ps_ret pe_bl)) pss_nil)))
      (pss_cons (ps_for PassesOwn.never rfl (pi_range1 (by rfl) (n_range T) (pa_cons (pe_callB (call_max2 rfl) (by rfl) (n_max T) boot_max (pa_cons pe_int (pa_cons (pe_callB (call_min2 rfl) (by rfl) (n_min T) boot_min (pa_cons pe_int (pa_cons (pe_callB call_len (by rfl) (n_len T) PySem.boot_len (pa_cons (pv 0) pa_nil)) pa_nil))) pa_nil))) pa_nil)) (pg_name (i := 3) nd rfl (.inl rfl))
          (pss_cons (ps_set (i := 4) nd rfl (.inl rfl) (pe_call (E := E0) GT (hr.mono (by decide)) (by rfl) (g_Lstate T) kT bT .nil pass0 (pa_cons (pv 0) (pa_cons (pv 3) pa_nil))))
          (pss_one (ps_for PassesOwn.never rfl (pi_list (pe_call0 (E := E0) GW (hr.mono (by decide)) (by rfl) (g_Lwords T) kW bW .nil pass0)) (pg_tup (by rfl) (pgs_cons (pg_name (i := 5) nd rfl (.inl rfl)) (pgs_cons (pg_name (i := 6) nd rfl (.inl rfl)) (pgs_cons (pg_name (i := 7) nd rfl (.inl rfl)) pgs_nil))))
            (pss_one (ps_for PassesOwn.never rfl (pi_list (pe_m1 PySem.F.slot_str_split PySem.F.type_str_split mt_split (pv 5) pe_str)) (pg_name (i := 8) nd rfl (.inl rfl))
              (pss_one (ps_if (pt_not (pt_val (pe_call (E := E0) GC (hr.mono (by decide)) (by rfl) (g_Lcall_right T) kC bC .nil pass0 (pa_cons (pv 4) (pa_cons (pv 8) (pa_cons (pv 6) (pa_cons (pv 7) pa_nil))))))) (pss_one (ps_ret pe_bl)) pss_nil))))))))
      (pss_one (ps_ret pe_bl))))), ?_⟩
    obtain ⟨_, _, _, _, _, _, _, _, _, _, _, _, _, hI⟩ := mores T
    unfold isB at hI
    simp only [Bool.and_eq_true, decide_eq_true_eq] at hI
    obtain ⟨xB, _, _, _, _, kBs⟩ := hI
    refine ⟨(by show 4 ≤ sizeLine; decide), fun A hA => ?_⟩
    show tSeq _ _ _ _ (upd H A (.lst ((asks K).map V.ref)))
    have s1 : Same H (upd H A (.lst ((asks K).map V.ref))) := same_new hA
    have eA : upd H A (.lst ((asks K).map V.ref)) A = some (.lst ((asks K).map V.ref)) := upd_same
    have tot := s1
    generalize upd H A (.lst ((asks K).map V.ref)) = G1 at s1 tot eA ⊢
    refine ⟨_, _, rfl, rfl, ⟨by decide, by decide, by decide⟩, ?_⟩
    refine ⟨(by decide), fun q1 hq1 => ?_⟩
    have s2 : Same G1 (upd G1 q1 (.lst [])) := same_new hq1
    have eq1 : upd G1 q1 (.lst []) q1 = some (.lst []) := upd_same
    replace eA := s2 _ _ eA
    replace tot := tot.trans s2
    generalize upd G1 q1 (.lst []) = G2 at s2 tot eA eq1 ⊢
    refine ⟨(by show 1 ≤ sizeLine; decide), fun q2 hq2 => ?_⟩
    have s3 : Same G2 (upd G2 q2 (.lst [.str (Str.ofString "a")])) := same_new hq2
    have eq2 : upd G2 q2 (.lst [.str (Str.ofString "a")]) q2 = some (.lst [.str (Str.ofString "a")]) := upd_same
    replace eA := s3 _ _ eA
    replace eq1 := s3 _ _ eq1
    replace tot := tot.trans s3
    generalize upd G2 q2 (.lst [.str (Str.ofString "a")]) = G3 at s3 tot eA eq1 eq2 ⊢
    refine ⟨(by decide), fun q3 hq3 => ?_⟩
    have s4 : Same G3 (upd G3 q3 (.tup [])) := same_new hq3
    have eq3 : upd G3 q3 (.tup []) q3 = some (.tup []) := upd_same
    replace eA := s4 _ _ eA
    replace eq1 := s4 _ _ eq1
    replace eq2 := s4 _ _ eq2
    replace tot := tot.trans s4
    generalize upd G3 q3 (.tup []) = G4 at s4 tot eA eq1 eq2 eq3 ⊢
    refine ⟨(by show 1 ≤ sizeLine; decide), fun q4 hq4 => ?_⟩
    have s5 : Same G4 (upd G4 q4 (.tup [.str (Str.ofString "a")])) := same_new hq4
    have eq4 : upd G4 q4 (.tup [.str (Str.ofString "a")]) q4 = some (.tup [.str (Str.ofString "a")]) := upd_same
    replace eA := s5 _ _ eA
    replace eq1 := s5 _ _ eq1
    replace eq2 := s5 _ _ eq2
    replace eq3 := s5 _ _ eq3
    replace tot := tot.trans s5
    generalize upd G4 q4 (.tup [.str (Str.ofString "a")]) = G5 at s5 tot eA eq1 eq2 eq3 eq4 ⊢
    intro q5 hq5
    have s6 : Same G5 (upd G5 q5 (.dK [])) := same_new hq5
    have eq5 : upd G5 q5 (.dK []) q5 = some (.dK []) := upd_same
    replace eA := s6 _ _ eA
    replace eq1 := s6 _ _ eq1
    replace eq2 := s6 _ _ eq2
    replace eq3 := s6 _ _ eq3
    replace eq4 := s6 _ _ eq4
    replace tot := tot.trans s6
    generalize upd G5 q5 (.dK []) = G6 at s6 tot eA eq1 eq2 eq3 eq4 eq5 ⊢
    intro q6 hq6
    have s7 : Same G6 (upd G6 q6 (.xd [("why", .str (Str.ofString "x"))])) := same_new hq6
    have eq6 : upd G6 q6 (.xd [("why", .str (Str.ofString "x"))]) q6 = some (.xd [("why", .str (Str.ofString "x"))]) := upd_same
    replace eA := s7 _ _ eA
    replace eq1 := s7 _ _ eq1
    replace eq2 := s7 _ _ eq2
    replace eq3 := s7 _ _ eq3
    replace eq4 := s7 _ _ eq4
    replace eq5 := s7 _ _ eq5
    replace tot := tot.trans s7
    generalize upd G6 q6 (.xd [("why", .str (Str.ofString "x"))]) = G7 at s7 tot eA eq1 eq2 eq3 eq4 eq5 eq6 ⊢
    intro q7 hq7
    have s8 : Same G7 (upd G7 q7 (ExD (.ref (CB K)) (some q6) q7)) := same_new hq7
    have eq7 : upd G7 q7 (ExD (.ref (CB K)) (some q6) q7) q7 = some (ExD (.ref (CB K)) (some q6) q7) := upd_same
    replace eA := s8 _ _ eA
    replace eq1 := s8 _ _ eq1
    replace eq2 := s8 _ _ eq2
    replace eq3 := s8 _ _ eq3
    replace eq4 := s8 _ _ eq4
    replace eq5 := s8 _ _ eq5
    replace eq6 := s8 _ _ eq6
    replace tot := tot.trans s8
    generalize upd G7 q7 (ExD (.ref (CB K)) (some q6) q7) = G8 at s8 tot eA eq1 eq2 eq3 eq4 eq5 eq6 eq7 ⊢
    refine ⟨(by decide), fun q8 hq8 => ?_⟩
    have s9 : Same G8 (upd G8 q8 (.lst [])) := same_new hq8
    have eq8 : upd G8 q8 (.lst []) q8 = some (.lst []) := upd_same
    replace eA := s9 _ _ eA
    replace eq1 := s9 _ _ eq1
    replace eq2 := s9 _ _ eq2
    replace eq3 := s9 _ _ eq3
    replace eq4 := s9 _ _ eq4
    replace eq5 := s9 _ _ eq5
    replace eq6 := s9 _ _ eq6
    replace eq7 := s9 _ _ eq7
    replace tot := tot.trans s9
    generalize upd G8 q8 (.lst []) = G9 at s9 tot eA eq1 eq2 eq3 eq4 eq5 eq6 eq7 eq8 ⊢
    refine ⟨(by show 1 ≤ sizeLine; decide), fun q9 hq9 => ?_⟩
    have s10 : Same G9 (upd G9 q9 (.lst [.ref q8])) := same_new hq9
    have eq9 : upd G9 q9 (.lst [.ref q8]) q9 = some (.lst [.ref q8]) := upd_same
    replace eA := s10 _ _ eA
    replace eq1 := s10 _ _ eq1
    replace eq2 := s10 _ _ eq2
    replace eq3 := s10 _ _ eq3
    replace eq4 := s10 _ _ eq4
    replace eq5 := s10 _ _ eq5
    replace eq6 := s10 _ _ eq6
    replace eq7 := s10 _ _ eq7
    replace eq8 := s10 _ _ eq8
    replace tot := tot.trans s10
    generalize upd G9 q9 (.lst [.ref q8]) = G10 at s10 tot eA eq1 eq2 eq3 eq4 eq5 eq6 eq7 eq8 eq9 ⊢
    refine ⟨(by show 11 ≤ sizeLine; decide), fun L hL => ?_⟩
    have s11 : Same G10 (upd G10 L (.lst [V.non, .bl true, .int 0, .int ((10 : Int) ^ (30 : Int).toNat), .ref q1, .ref q2, .ref q3, .ref q4, .ref q5, .ref q7, .ref q9])) := same_new hL
    have eL : upd G10 L (.lst [V.non, .bl true, .int 0, .int ((10 : Int) ^ (30 : Int).toNat), .ref q1, .ref q2, .ref q3, .ref q4, .ref q5, .ref q7, .ref q9]) L = some (.lst [V.non, .bl true, .int 0, .int ((10 : Int) ^ (30 : Int).toNat), .ref q1, .ref q2, .ref q3, .ref q4, .ref q5, .ref q7, .ref q9]) := upd_same
    replace eA := s11 _ _ eA
    replace eq1 := s11 _ _ eq1
    replace eq2 := s11 _ _ eq2
    replace eq3 := s11 _ _ eq3
    replace eq4 := s11 _ _ eq4
    replace eq5 := s11 _ _ eq5
    replace eq6 := s11 _ _ eq6
    replace eq7 := s11 _ _ eq7
    replace eq8 := s11 _ _ eq8
    replace eq9 := s11 _ _ eq9
    replace tot := tot.trans s11
    generalize upd G10 L (.lst [V.non, .bl true, .int 0, .int ((10 : Int) ^ (30 : Int).toNat), .ref q1, .ref q2, .ref q3, .ref q4, .ref q5, .ref q7, .ref q9]) = G11 at s11 tot eA eq1 eq2 eq3 eq4 eq5 eq6 eq7 eq8 eq9 eL ⊢
    have hodd : ∀ x ∈ [V.non, .bl true, .int 0, .int ((10 : Int) ^ (30 : Int).toNat), .ref q1, .ref q2, .ref q3, .ref q4, .ref q5, .ref q7, .ref q9], ∀ H', Same G11 H' → ∃ t, TyY K H' x t ∧ PySem.W.kitOne K t (.type "str") = some false := by
      intro x hx H' s
      simp only [List.mem_cons, List.not_mem_nil, or_false] at hx
      rcases hx with rfl | rfl | rfl | rfl | rfl | rfl | rfl | rfl | rfl | rfl | rfl
      · exact ⟨.type "NoneType", .inl (.base .non), kit_ty (by decide)⟩
      · exact ⟨.type "bool", .inl (.base (.bl true)), kit_ty (by decide)⟩
      · exact ⟨.type "int", .inl (.base (.int 0)), kit_ty (by decide)⟩
      · exact ⟨.type "int", .inl (.base (.int _)), kit_ty (by decide)⟩
      · exact ⟨.type "list", .inl (.base (.lst (s _ _ eq1))), kit_ty (by decide)⟩
      · exact ⟨.type "list", .inl (.base (.lst (s _ _ eq2))), kit_ty (by decide)⟩
      · exact ⟨.type "tuple", .inl (.base (.tup (s _ _ eq3))), kit_ty (by decide)⟩
      · exact ⟨.type "tuple", .inl (.base (.tup (s _ _ eq4))), kit_ty (by decide)⟩
      · exact ⟨.type "dict", .inl (.base (.dK (s _ _ eq5))), kit_ty (by decide)⟩
      · exact ⟨.ref (CB K), .inr ⟨q7, CB K, q6, _, rfl, rfl, s _ _ eq7, excB_ok xB, s _ _ eq6⟩, kBs⟩
      · exact ⟨.type "list", .inl (.base (.lst (s _ _ eq9))), kit_ty (by decide)⟩
    generalize [V.non, .bl true, .int 0, .int ((10 : Int) ^ (30 : Int).toNat), .ref q1, .ref q2, .ref q3, .ref q4, .ref q5, .ref q7, .ref q9] = odds at eL hodd
    refine ⟨L, rfl, ⟨_, SqL.of eL⟩, ?_⟩
    refine for_it (walk_list (K := K) (a := L) (xs := odds)) (fun k σ H4 => Same G11 H4 ∧ ∃ v2 : Option V, σ = [some (.ref a), some (.ref A), v2, none, none, none, none, none, none, none])
      ⟨Same.refl _, none, rfl⟩ (fun k σ H4 _ h => SqL.of (h.1 _ _ eL)) ?_ ?_
    · rintro k x σ H4' H4 hk ⟨s4, v2, rfl⟩ ⟨rfl, hx⟩
      have hxm : x ∈ odds := List.mem_of_getElem? hx
      have hA4 := s4 _ _ eA
      refine ⟨_, rfl, A, rfl, ⟨_, SqL.of hA4⟩, fun D hD => ?_⟩
      refine lc_it (walk_list (K := K) (a := A) (xs := (asks K).map V.ref)) (fun t H6 => Same H4 H6 ∧ H6 D = some (.lst (List.replicate t (.str (Str.ofString "bad")))))
        ⟨same_new hD, upd_same⟩ (fun t H6 _ h => SqL.of (h.1 _ _ hA4)) ?_ ?_
      · rintro t y H6' H6 ht ⟨s6, hD6⟩ ⟨rfl, hy⟩
        obtain ⟨f, hf, rfl⟩ := List.mem_map.mp (List.mem_of_getElem? hy)
        obtain ⟨ty, h1, h2⟩ := hodd x hxm H6 (s4.trans s6)
        refine ⟨rfl, _, rfl, _, rfl, .inr ⟨f, hf, x, ty, rfl, h1, h2, fun H7 s7 => ?_⟩⟩
        have ht4 : t < 4 := ht
        refine ⟨_, s7 _ _ hD6, by rw [List.length_replicate, sizeLine_eq]; omega, same_upd0 (s6.trans s7) hD, ?_⟩
        rw [upd_same, List.replicate_succ']
      · rintro H6 ⟨s6, hD6⟩
        refine ⟨(by show 1 ≤ sizeLine; decide), fun q hq => ?_⟩
        refine ⟨q, 4, [.str (Str.ofString "bad")], rfl, rfl, upd_same, by decide, by decide, (by show 1 * 4 ≤ sizeLine; decide), fun p hp => ?_⟩
        have t1 := same_new hq (o := .lst [.str (Str.ofString "bad")])
        have t2 := same_new hp (o := .lst (List.replicate (4 : Int).toNat [V.str (Str.ofString "bad")]).flatten)
        have hD8 := t2 _ _ (t1 _ _ hD6)
        have hp8 : upd (upd H6 q (.lst [.str (Str.ofString "bad")])) p (.lst (List.replicate (4 : Int).toNat [V.str (Str.ofString "bad")]).flatten) p = some (.lst [.str (Str.ofString "bad"), .str (Str.ofString "bad"), .str (Str.ofString "bad"), .str (Str.ofString "bad")]) := upd_same
        have hd : SeqAt.shaped (.list [.str (Str.ofString "bad"), .str (Str.ofString "bad"), .str (Str.ofString "bad"), .str (Str.ofString "bad")]) = true := by decide +kernel
        refine ⟨.list [.str (Str.ofString "bad"), .str (Str.ofString "bad"), .str (Str.ofString "bad"), .str (Str.ofString "bad")], .list [.str (Str.ofString "bad"), .str (Str.ofString "bad"), .str (Str.ofString "bad"), .str (Str.ofString "bad")],
          Dp.lst (SqL.of hD8) (.cons (.str _) (.cons (.str _) (.cons (.str _) (.cons (.str _) .nil)))), Dp.lst (SqL.of hp8) (.cons (.str _) (.cons (.str _) (.cons (.str _) (.cons (.str _) .nil)))), hd, hd, _, rfl, ?_⟩
        rw [SeqAt.eqv_refl _ (SeqAt.canLay_of_shaped hd)]
        refine iteF ?_
        exact ⟨((s4.trans s6).trans t1).trans t2, _, rfl⟩
    · rintro σ H4 ⟨s4, v2, rfl⟩
      have ha4 := sqL_keep ha (tot.trans s4)
      have hM : ∀ n : Int, 1 ≤ (if (if n < 5 then n else 5) > 1 then (if n < 5 then n else 5) else 1) ∧ (if (if n < 5 then n else 5) > 1 then (if n < 5 then n else 5) else (1 : Int)) ≤ 5 := by
        intro n
        split <;> split <;> omega
      refine ⟨_, rfl, _, (ns.map V.int).length, rfl, .inl ⟨_, ha4, rfl⟩, _, _, rfl, _, _, rfl, ?_⟩
      obtain ⟨m1, m2⟩ := hM (((ns.map V.int).length : Nat) : Int)
      generalize (if (if (((ns.map V.int).length : Nat) : Int) < 5 then (((ns.map V.int).length : Nat) : Int) else 5) > 1 then (if (((ns.map V.int).length : Nat) : Int) < 5 then (((ns.map V.int).length : Nat) : Int) else 5) else (1 : Int)) = M at m1 m2 ⊢
      refine ⟨M, rfl, by omega, by omega, ?_⟩
      refine for_it walk_range (fun k σ H5 => Same H4 H5 ∧ ∃ v2 v3 v4 v5 v6 v7 v8 v9 : Option V, σ = [some (.ref a), some (.ref A), v2, v3, v4, v5, v6, v7, v8, v9])
        ⟨Same.refl _, _, _, _, _, _, _, _, _, rfl⟩ (fun _ _ _ _ _ => trivial) ?_ ?_
      · rintro k x σ H5' H5 hk ⟨s5, v2, v3, v4, v5, v6, v7, v8, v9, rfl⟩ ⟨rfl, rfl⟩
        have hk5 : k < 5 := by
          have : k < M.toNat := hk
          omega
        have ek : (0 : Int) + (k : Int) = ((k : Nat) : Int) := by omega
        refine ⟨_, rfl, _, rfl, a, k, ns, by show [V.ref a, V.int (0 + (k : Int))] = _; rw [ek], sqL_keep ha4 s5, by omega, fun H6 p s6 hp hw6 => ?_⟩
        have hpn : H5 p = none := hp
        refine ⟨rfl, fun H7 L7 ts s7 hL7 hts => ?_⟩
        have hw7 := hw6.at s7
        have hLp : L7 ≠ p := by
          rintro rfl
          obtain ⟨u1, u2, u3, hu⟩ := hw7
          rw [hL7] at hu
          have e0 : ts = [V.int u1, .int u2, .int u3] := HO.lst.inj (Option.some.inj hu)
          obtain ⟨r, b, _, e1, _⟩ := hts.get (k := 0) (x := V.int u1) (by rw [e0]; rfl)
          cases e1
        have htl : ts.length = rowsL.length := hts.len
        refine ⟨L7, rfl, ⟨_, SqL.of hL7⟩, ?_⟩
        refine for_it (walk_list (K := K) (a := L7) (xs := ts)) (fun j σ H8 => SameB p H7 H8 ∧ Wl H8 p ∧ ∃ v2 v3 v5 v6 v7 v8 v9 : Option V, σ = [some (.ref a), some (.ref A), v2, v3, some (.ref p), v5, v6, v7, v8, v9])
          ⟨SameB.refl _ _, hw7, _, _, _, _, _, _, _, rfl⟩ (fun j σ H8 _ h => SqL.of (h.1 _ _ hLp hL7)) ?_ ?_
        · rintro j y σ H8' H8 hj ⟨s8, hw8, v2, v3, v5, v6, v7, v8, v9, rfl⟩ ⟨rfl, hy⟩
          obtain ⟨r, t, hr, rfl, ht⟩ := hts.get hy
          have hrm : r ∈ rowsL := List.mem_of_getElem? hr
          have htp : t ≠ p := by
            rintro rfl
            obtain ⟨u1, u2, u3, hu⟩ := hw7
            rw [ht] at hu
            cases hu
          have ht8 := s8 _ _ htp ht
          refine ⟨t, _, rfl, SqT.of ht8, rfl, _, _, rfl, _, _, rfl, _, _, rfl, rfl, ?_⟩
          have hrl := rows_len r hrm
          refine ⟨_, rfl, ⟨_, rfl⟩, _, _, rfl, rfl, rfl, (by rw [sizeLine_eq]; omega), fun W hW => ?_⟩
          have hWp : W ≠ p := hw8.ne hW
          have sW := same_new hW (o := .lst ((Txt.split r.1 (Str.ofString " ")).map V.str))
          have eW : upd H8 W (.lst ((Txt.split r.1 (Str.ofString " ")).map V.str)) W = some (.lst ((Txt.split r.1 (Str.ofString " ")).map V.str)) := upd_same
          have hw9 := hw8.at sW
          generalize upd H8 W (.lst ((Txt.split r.1 (Str.ofString " ")).map V.str)) = H9 at sW eW hw9 ⊢
          refine ⟨W, rfl, ⟨_, SqL.of eW⟩, ?_⟩
          refine for_it (walk_list (K := K) (a := W) (xs := (Txt.split r.1 (Str.ofString " ")).map V.str)) (fun i σ H10 => SameB p H9 H10 ∧ Wl H10 p ∧ ∃ v2 v3 v8 v9 : Option V, σ = [some (.ref a), some (.ref A), v2, v3, some (.ref p), some (.str r.1), some (.int (r.2.1 : Int)), some (.int (r.2.2 : Int)), v8, v9])
            ⟨SameB.refl _ _, hw9, _, _, _, _, rfl⟩ (fun i σ H10 _ h => SqL.of (h.1 _ _ hWp eW)) ?_ ?_
          · rintro i y σ H10' H10 hi ⟨s10, hw10, v2, v3, v8, v9, rfl⟩ ⟨rfl, hy⟩
            obtain ⟨wd, hwd, rfl⟩ := List.mem_map.mp (List.mem_of_getElem? hy)
            obtain ⟨w1, w2, w3⟩ := row_word hrm hwd
            refine ⟨_, rfl, _, rfl, _, rfl, _, rfl, p, wd, r.2.1, r.2.2, rfl, hw10, w1, w2, w3, fun H11 s11 hw11 => ?_⟩
            refine ⟨_, rfl, ?_⟩
            refine iteF ?_
            exact ⟨s10.trans s11, hw11, _, _, _, _, rfl⟩
          · rintro σ H10 ⟨s10, hw10, v2, v3, v8, v9, rfl⟩
            exact ⟨(s8.trans (.of sW)).trans s10, hw10, _, _, _, _, _, _, _, rfl⟩
        · rintro σ H8 ⟨s8, hw8, v2, v3, v5, v6, v7, v8, v9, rfl⟩
          refine ⟨fun b o hb => ?_, _, _, _, _, _, _, _, _, rfl⟩
          have hb5 := s5 _ _ hb
          have hbp : b ≠ p := ne_of_none hb5 hpn
          exact s8 _ _ hbp (s7 _ _ (s6 _ _ hb5))
      · rintro σ H5 ⟨s5, v2, v3, v4, v5, v6, v7, v8, v9, rfl⟩
        exact kk H5
end
end K20
/-! K20Fin -/
open PySem PySem.W PySem.Calls PyProof.Rows
namespace K20
open PySem PySem.Spec PyProof.Rows L2
theorem tx_of {w : World} {K : PySem.W.Frag} {h : Heap} {mg : Str → Option Value} (X : K.In h) (G : h.Ns mainGlobals mg) (c : He.SaysT fa fn ts w K) (e : ex K = true) : Tx w K mg := by
  have h2 := congrArg Prod.snd c
  have h3 := List.cons.inj h2
  have h4 := List.cons.inj h3.2
  have h5 := List.cons.inj h4.2
  exact ⟨c.d, ⟨h, X, G⟩, h3.1, h4.1, h5.1, e⟩
end K20
theorem PySem.Challenge.cw_pathloom_k20_what_is_no_text_and_no_call_holds : PySem.Challenge.rw_pathloom_k20_what_is_no_text_and_no_call.Holds := by
  w_on; o_law
  refine HandSHeadRun.head_any (r := OpenLaw.row PySem.Challenge.rw_pathloom_k20_what_is_no_text_and_no_call) (q := view (OpenLaw.row PySem.Challenge.rw_pathloom_k20_what_is_no_text_and_no_call).prog [64]) (H := K20.hk) (ob := K20.ob) (M := 40000) (loose := K20.names)
    (d := HandSHeadRun.topDef (OpenLaw.row PySem.Challenge.rw_pathloom_k20_what_is_no_text_and_no_call).prog 64) (kwd := []) K20.ob_eq
    (by kernel_rfl) (fun s => by kernel_rfl) K20.headRun (by kernel_rfl) (by kernel_rfl) (by kernel_rfl) (by rfl) (by first | assumption | decide +kernel) (by decide +kernel) ⟨rfl, rfl, rfl, rfl, rfl, by decide +kernel⟩ ?hw ?hc
  case hw => w_witness2
  case hc =>
    refine L2.walk_ofE (l := PySem.Challenge.rw_pathloom_k20_what_is_no_text_and_no_call) (n := 63) (k := 28) (x := "_law_script") (CX := L2.CX0) rfl (by decide) (by kernel_rfl) ⟨rfl, by decide, by decide⟩ ?F (fun _ _ _ _ z => z)
    intro w mg f h Y G hmg0
    obtain ⟨K, KX, c, e⟩ := Y
    have T := K20.tx_of KX G c e
    have hmg : mg ("law" : PySem.Str) = some (.ref f) := by
      have e2 : (HandSHeadRun.topDef (OpenLaw.row PySem.Challenge.rw_pathloom_k20_what_is_no_text_and_no_call).prog 64).name = ("law" : PySem.Str) := by kernel_rfl
      rw [← e2]
      exact hmg0
    have ef := hmg.symm.trans (K20.g_law T)
    cases ef
    obtain ⟨fd, F⟩ := K20.f_law T
    have b := L2.FunD.bindsA (ps := ["_law_script"]) F fun _ _ _ _ _ _ us hl => match us, hl with | [_], _ => rfl
    exact ⟨K, fd, K20.spLaw K, KX, fun s v => b s [v] rfl, fun H a ns hl _ hS => ⟨a, ns, rfl, hS, fun _ => rfl⟩, fun base _ _ => K20.ok_law T F⟩
