import PyProof.Rows.All
import Wide.All
import OpenK.AllK
import Wide.FinOn
import HandS.ForMost
import HandS.ForExc
import HandS.Defaults
import HandS.ExcInit
import HandS.ExcField
import HandS.ClsMeth
import HandS.HeadHook1
import HandS.HeadHook2
import HandS.HeadHook3
import HandS.HeadHook4
import KE.KStateDown
import HandS.Head0
import HandS.Head1
import HandS.Head2
import HandS.HeadEnd
import HandS.FStr
import HandS.StrMore
import HandS.Style
import HandS.Translate
import HandS.Replace
import HandS.ReplaceLit
import HandS.ReplaceDef
import HandS.Walk
import PyProof.EnumMake
import PyProof.Draws
import KE.GoesMore
import HandS.Evl
import HandS.More
import HandS.List
import HandS.Conv
import HandS.Dict
import HandS.Comp
import HandS.IsInst
import HandS.ExcIs
import HandS.ExcValue
import KE.KExcIs
import HandS.Wide
import HandS.TryOnly
import HandS.CallLocal
import HandS.MapJoin
import PySem.Challenge.RW_pathloom_k20_what_is_no_text_and_no_call
set_option Elab.async false
set_option linter.all false
set_option maxRecDepth 100000
set_option maxHeartbeats 0
/-! PXText -/
namespace PX
open PySem PySem.Spec PyProof.Rows L2
/-! ### the text -/
def top (i : Nat) : Stmt := PySem.Challenge.pw_pathloom_k20_what_is_no_text_and_no_call.main.body.getD i (.Pass ⟨0, 0, 0, 0⟩)

abbrev s_TreeError_init : Stmt := inClass (top 2) 0
abbrev s_BadValue_init : Stmt := inClass (top 3) 0
abbrev s_NotPath_init : Stmt := inClass (top 4) 0
abbrev s_end_of_run : Stmt := top 11
abbrev s_words_alone : Stmt := top 12
abbrev s_is_sign : Stmt := top 13
abbrev s_end_of_signs : Stmt := top 14
abbrev s_is_plain : Stmt := top 15
abbrev s_begins_word : Stmt := top 16
abbrev s_tokens_in : Stmt := top 21
abbrev s_tokens_ahead_of_end : Stmt := top 22
abbrev s_token_at : Stmt := top 23
abbrev s_end_of_digits : Stmt := top 24
abbrev s_end_of_number : Stmt := top 25
abbrev s_quoted_token : Stmt := top 26
abbrev s_PathReader_init : Stmt := inClass (top 41) 0
abbrev s_PathReader_peek : Stmt := inClass (top 41) 1
abbrev s_PathReader_peek_behind : Stmt := inClass (top 41) 2
abbrev s_PathReader_take : Stmt := inClass (top 41) 4
abbrev s_PathReader_read_path : Stmt := inClass (top 41) 5
abbrev s_PathReader_read_expression : Stmt := inClass (top 41) 6
abbrev s_PathReader_operator_word : Stmt := inClass (top 41) 7
abbrev s_PathReader_end_behind_operand : Stmt := inClass (top 41) 8
abbrev s_PathReader_expect_behind_operand : Stmt := inClass (top 41) 9
abbrev s_PathReader_expect : Stmt := inClass (top 41) 10
abbrev s_PathReader_read_operand : Stmt := inClass (top 41) 11
abbrev s_PathReader_read_literal : Stmt := inClass (top 41) 12
abbrev s_PathReader_text_of_literal : Stmt := inClass (top 41) 13
abbrev s_PathReader_read_variable : Stmt := inClass (top 41) 14
abbrev s_PathReader_is_function : Stmt := inClass (top 41) 15
abbrev s_PathReader_read_call : Stmt := inClass (top 41) 16
abbrev s_PathReader_read_behind : Stmt := inClass (top 41) 17
abbrev s_PathReader_read_slash : Stmt := inClass (top 41) 18
abbrev s_PathReader_read_rooted : Stmt := inClass (top 41) 19
abbrev s_PathReader_begins_step : Stmt := inClass (top 41) 20
abbrev s_PathReader_read_steps : Stmt := inClass (top 41) 21
abbrev s_PathReader_read_step : Stmt := inClass (top 41) 22
abbrev s_PathReader_read_step_with : Stmt := inClass (top 41) 23
abbrev s_PathReader_read_axis : Stmt := inClass (top 41) 24
abbrev s_PathReader_read_test : Stmt := inClass (top 41) 25
abbrev s_PathReader_read_kind : Stmt := inClass (top 41) 26
abbrev s_PathReader_check_colon : Stmt := inClass (top 41) 27
abbrev s_PathReader_read_predicates : Stmt := inClass (top 41) 28
abbrev s_bind : Stmt := top 42
abbrev s_common_length : Stmt := top 43
abbrev s_shortest_number : Stmt := top 44
abbrev s_path_text : Stmt := top 47
abbrev s_rank_in : Stmt := top 48
abbrev s_binary_text : Stmt := top 49
abbrev s_bracketed : Stmt := top 50
abbrev s_operand_text : Stmt := top 51
abbrev s_primary_text : Stmt := top 52
abbrev s_quoted : Stmt := top 53
abbrev s_predicates_text : Stmt := top 54
abbrev s_location_text : Stmt := top 55
abbrev s_steps_text : Stmt := top 56
abbrev s_step_text : Stmt := top 57
abbrev s_test_text : Stmt := top 58
abbrev s_tokens : Stmt := top 60
abbrev s_tree_of : Stmt := top 61
abbrev s_reader_of : Stmt := top 62
abbrev s_canonical : Stmt := top 63
abbrev s_abbreviated : Stmt := top 64
abbrev s_Lstate : Stmt := top 66
abbrev s_Ldraw : Stmt := top 67
abbrev s_Lone : Stmt := top 68
abbrev s_Lsaid : Stmt := top 69
abbrev s_Lwords : Stmt := top 70
abbrev s_Lcall : Stmt := top 71
abbrev s_Lcall_right : Stmt := top 72
abbrev s_law : Stmt := top 73
def d_TreeError_init : He.DefD := ⟨("TreeError", some "__init__"), "__init__", "TreeError.__init__", defArgs s_TreeError_init, defBody s_TreeError_init, defScope s_TreeError_init, [.str ""], []⟩
def d_BadValue_init : He.DefD := ⟨("BadValue", some "__init__"), "__init__", "BadValue.__init__", defArgs s_BadValue_init, defBody s_BadValue_init, defScope s_BadValue_init, [.str ""], []⟩
def d_NotPath_init : He.DefD := ⟨("NotPath", some "__init__"), "__init__", "NotPath.__init__", defArgs s_NotPath_init, defBody s_NotPath_init, defScope s_NotPath_init, [], []⟩
def d_end_of_run : He.DefD := ⟨("end_of_run", none), "end_of_run", "end_of_run", defArgs s_end_of_run, defBody s_end_of_run, defScope s_end_of_run, [], []⟩
def d_words_alone : He.DefD := ⟨("words_alone", none), "words_alone", "words_alone", defArgs s_words_alone, defBody s_words_alone, defScope s_words_alone, [], []⟩
def d_is_sign : He.DefD := ⟨("is_sign", none), "is_sign", "is_sign", defArgs s_is_sign, defBody s_is_sign, defScope s_is_sign, [], []⟩
def d_end_of_signs : He.DefD := ⟨("end_of_signs", none), "end_of_signs", "end_of_signs", defArgs s_end_of_signs, defBody s_end_of_signs, defScope s_end_of_signs, [], []⟩
def d_is_plain : He.DefD := ⟨("is_plain", none), "is_plain", "is_plain", defArgs s_is_plain, defBody s_is_plain, defScope s_is_plain, [], []⟩
def d_begins_word : He.DefD := ⟨("begins_word", none), "begins_word", "begins_word", defArgs s_begins_word, defBody s_begins_word, defScope s_begins_word, [], []⟩
def d_tokens_in : He.DefD := ⟨("tokens_in", none), "tokens_in", "tokens_in", defArgs s_tokens_in, defBody s_tokens_in, defScope s_tokens_in, [], []⟩
def d_tokens_ahead_of_end : He.DefD := ⟨("tokens_ahead_of_end", none), "tokens_ahead_of_end", "tokens_ahead_of_end", defArgs s_tokens_ahead_of_end, defBody s_tokens_ahead_of_end, defScope s_tokens_ahead_of_end, [], []⟩
def d_token_at : He.DefD := ⟨("token_at", none), "token_at", "token_at", defArgs s_token_at, defBody s_token_at, defScope s_token_at, [], []⟩
def d_end_of_digits : He.DefD := ⟨("end_of_digits", none), "end_of_digits", "end_of_digits", defArgs s_end_of_digits, defBody s_end_of_digits, defScope s_end_of_digits, [], []⟩
def d_end_of_number : He.DefD := ⟨("end_of_number", none), "end_of_number", "end_of_number", defArgs s_end_of_number, defBody s_end_of_number, defScope s_end_of_number, [], []⟩
def d_quoted_token : He.DefD := ⟨("quoted_token", none), "quoted_token", "quoted_token", defArgs s_quoted_token, defBody s_quoted_token, defScope s_quoted_token, [], []⟩
def d_PathReader_init : He.DefD := ⟨("PathReader", some "__init__"), "__init__", "PathReader.__init__", defArgs s_PathReader_init, defBody s_PathReader_init, defScope s_PathReader_init, [], []⟩
def d_PathReader_peek : He.DefD := ⟨("PathReader", some "peek"), "peek", "PathReader.peek", defArgs s_PathReader_peek, defBody s_PathReader_peek, defScope s_PathReader_peek, [], []⟩
def d_PathReader_peek_behind : He.DefD := ⟨("PathReader", some "peek_behind"), "peek_behind", "PathReader.peek_behind", defArgs s_PathReader_peek_behind, defBody s_PathReader_peek_behind, defScope s_PathReader_peek_behind, [], []⟩
def d_PathReader_take : He.DefD := ⟨("PathReader", some "take"), "take", "PathReader.take", defArgs s_PathReader_take, defBody s_PathReader_take, defScope s_PathReader_take, [], []⟩
def d_PathReader_read_path : He.DefD := ⟨("PathReader", some "read_path"), "read_path", "PathReader.read_path", defArgs s_PathReader_read_path, defBody s_PathReader_read_path, defScope s_PathReader_read_path, [], []⟩
def d_PathReader_read_expression : He.DefD := ⟨("PathReader", some "read_expression"), "read_expression", "PathReader.read_expression", defArgs s_PathReader_read_expression, defBody s_PathReader_read_expression, defScope s_PathReader_read_expression, [], []⟩
def d_PathReader_operator_word : He.DefD := ⟨("PathReader", some "operator_word"), "operator_word", "PathReader.operator_word", defArgs s_PathReader_operator_word, defBody s_PathReader_operator_word, defScope s_PathReader_operator_word, [], []⟩
def d_PathReader_end_behind_operand : He.DefD := ⟨("PathReader", some "end_behind_operand"), "end_behind_operand", "PathReader.end_behind_operand", defArgs s_PathReader_end_behind_operand, defBody s_PathReader_end_behind_operand, defScope s_PathReader_end_behind_operand, [], []⟩
def d_PathReader_expect_behind_operand : He.DefD := ⟨("PathReader", some "expect_behind_operand"), "expect_behind_operand", "PathReader.expect_behind_operand", defArgs s_PathReader_expect_behind_operand, defBody s_PathReader_expect_behind_operand, defScope s_PathReader_expect_behind_operand, [], []⟩
def d_PathReader_expect : He.DefD := ⟨("PathReader", some "expect"), "expect", "PathReader.expect", defArgs s_PathReader_expect, defBody s_PathReader_expect, defScope s_PathReader_expect, [], []⟩
def d_PathReader_read_operand : He.DefD := ⟨("PathReader", some "read_operand"), "read_operand", "PathReader.read_operand", defArgs s_PathReader_read_operand, defBody s_PathReader_read_operand, defScope s_PathReader_read_operand, [], []⟩
def d_PathReader_read_literal : He.DefD := ⟨("PathReader", some "read_literal"), "read_literal", "PathReader.read_literal", defArgs s_PathReader_read_literal, defBody s_PathReader_read_literal, defScope s_PathReader_read_literal, [], []⟩
def d_PathReader_text_of_literal : He.DefD := ⟨("PathReader", some "text_of_literal"), "text_of_literal", "PathReader.text_of_literal", defArgs s_PathReader_text_of_literal, defBody s_PathReader_text_of_literal, defScope s_PathReader_text_of_literal, [], []⟩
def d_PathReader_read_variable : He.DefD := ⟨("PathReader", some "read_variable"), "read_variable", "PathReader.read_variable", defArgs s_PathReader_read_variable, defBody s_PathReader_read_variable, defScope s_PathReader_read_variable, [], []⟩
def d_PathReader_is_function : He.DefD := ⟨("PathReader", some "is_function"), "is_function", "PathReader.is_function", defArgs s_PathReader_is_function, defBody s_PathReader_is_function, defScope s_PathReader_is_function, [], []⟩
def d_PathReader_read_call : He.DefD := ⟨("PathReader", some "read_call"), "read_call", "PathReader.read_call", defArgs s_PathReader_read_call, defBody s_PathReader_read_call, defScope s_PathReader_read_call, [], []⟩
def d_PathReader_read_behind : He.DefD := ⟨("PathReader", some "read_behind"), "read_behind", "PathReader.read_behind", defArgs s_PathReader_read_behind, defBody s_PathReader_read_behind, defScope s_PathReader_read_behind, [], []⟩
def d_PathReader_read_slash : He.DefD := ⟨("PathReader", some "read_slash"), "read_slash", "PathReader.read_slash", defArgs s_PathReader_read_slash, defBody s_PathReader_read_slash, defScope s_PathReader_read_slash, [], []⟩
def d_PathReader_read_rooted : He.DefD := ⟨("PathReader", some "read_rooted"), "read_rooted", "PathReader.read_rooted", defArgs s_PathReader_read_rooted, defBody s_PathReader_read_rooted, defScope s_PathReader_read_rooted, [], []⟩
def d_PathReader_begins_step : He.DefD := ⟨("PathReader", some "begins_step"), "begins_step", "PathReader.begins_step", defArgs s_PathReader_begins_step, defBody s_PathReader_begins_step, defScope s_PathReader_begins_step, [], []⟩
def d_PathReader_read_steps : He.DefD := ⟨("PathReader", some "read_steps"), "read_steps", "PathReader.read_steps", defArgs s_PathReader_read_steps, defBody s_PathReader_read_steps, defScope s_PathReader_read_steps, [], []⟩
def d_PathReader_read_step : He.DefD := ⟨("PathReader", some "read_step"), "read_step", "PathReader.read_step", defArgs s_PathReader_read_step, defBody s_PathReader_read_step, defScope s_PathReader_read_step, [], []⟩
def d_PathReader_read_step_with : He.DefD := ⟨("PathReader", some "read_step_with"), "read_step_with", "PathReader.read_step_with", defArgs s_PathReader_read_step_with, defBody s_PathReader_read_step_with, defScope s_PathReader_read_step_with, [], []⟩
def d_PathReader_read_axis : He.DefD := ⟨("PathReader", some "read_axis"), "read_axis", "PathReader.read_axis", defArgs s_PathReader_read_axis, defBody s_PathReader_read_axis, defScope s_PathReader_read_axis, [], []⟩
def d_PathReader_read_test : He.DefD := ⟨("PathReader", some "read_test"), "read_test", "PathReader.read_test", defArgs s_PathReader_read_test, defBody s_PathReader_read_test, defScope s_PathReader_read_test, [], []⟩
def d_PathReader_read_kind : He.DefD := ⟨("PathReader", some "read_kind"), "read_kind", "PathReader.read_kind", defArgs s_PathReader_read_kind, defBody s_PathReader_read_kind, defScope s_PathReader_read_kind, [], []⟩
def d_PathReader_check_colon : He.DefD := ⟨("PathReader", some "check_colon"), "check_colon", "PathReader.check_colon", defArgs s_PathReader_check_colon, defBody s_PathReader_check_colon, defScope s_PathReader_check_colon, [], []⟩
def d_PathReader_read_predicates : He.DefD := ⟨("PathReader", some "read_predicates"), "read_predicates", "PathReader.read_predicates", defArgs s_PathReader_read_predicates, defBody s_PathReader_read_predicates, defScope s_PathReader_read_predicates, [], []⟩
def d_bind : He.DefD := ⟨("bind", none), "bind", "bind", defArgs s_bind, defBody s_bind, defScope s_bind, [], []⟩
def d_common_length : He.DefD := ⟨("common_length", none), "common_length", "common_length", defArgs s_common_length, defBody s_common_length, defScope s_common_length, [], []⟩
def d_shortest_number : He.DefD := ⟨("shortest_number", none), "shortest_number", "shortest_number", defArgs s_shortest_number, defBody s_shortest_number, defScope s_shortest_number, [], []⟩
def d_path_text : He.DefD := ⟨("path_text", none), "path_text", "path_text", defArgs s_path_text, defBody s_path_text, defScope s_path_text, [], []⟩
def d_rank_in : He.DefD := ⟨("rank_in", none), "rank_in", "rank_in", defArgs s_rank_in, defBody s_rank_in, defScope s_rank_in, [], []⟩
def d_binary_text : He.DefD := ⟨("binary_text", none), "binary_text", "binary_text", defArgs s_binary_text, defBody s_binary_text, defScope s_binary_text, [], []⟩
def d_bracketed : He.DefD := ⟨("bracketed", none), "bracketed", "bracketed", defArgs s_bracketed, defBody s_bracketed, defScope s_bracketed, [], []⟩
def d_operand_text : He.DefD := ⟨("operand_text", none), "operand_text", "operand_text", defArgs s_operand_text, defBody s_operand_text, defScope s_operand_text, [], []⟩
def d_primary_text : He.DefD := ⟨("primary_text", none), "primary_text", "primary_text", defArgs s_primary_text, defBody s_primary_text, defScope s_primary_text, [], []⟩
def d_quoted : He.DefD := ⟨("quoted", none), "quoted", "quoted", defArgs s_quoted, defBody s_quoted, defScope s_quoted, [], []⟩
def d_predicates_text : He.DefD := ⟨("predicates_text", none), "predicates_text", "predicates_text", defArgs s_predicates_text, defBody s_predicates_text, defScope s_predicates_text, [], []⟩
def d_location_text : He.DefD := ⟨("location_text", none), "location_text", "location_text", defArgs s_location_text, defBody s_location_text, defScope s_location_text, [], []⟩
def d_steps_text : He.DefD := ⟨("steps_text", none), "steps_text", "steps_text", defArgs s_steps_text, defBody s_steps_text, defScope s_steps_text, [], []⟩
def d_step_text : He.DefD := ⟨("step_text", none), "step_text", "step_text", defArgs s_step_text, defBody s_step_text, defScope s_step_text, [], []⟩
def d_test_text : He.DefD := ⟨("test_text", none), "test_text", "test_text", defArgs s_test_text, defBody s_test_text, defScope s_test_text, [], []⟩
def d_tokens : He.DefD := ⟨("tokens", none), "tokens", "tokens", defArgs s_tokens, defBody s_tokens, defScope s_tokens, [], []⟩
def d_tree_of : He.DefD := ⟨("tree_of", none), "tree_of", "tree_of", defArgs s_tree_of, defBody s_tree_of, defScope s_tree_of, [], []⟩
def d_reader_of : He.DefD := ⟨("reader_of", none), "reader_of", "reader_of", defArgs s_reader_of, defBody s_reader_of, defScope s_reader_of, [], []⟩
def d_canonical : He.DefD := ⟨("canonical", none), "canonical", "canonical", defArgs s_canonical, defBody s_canonical, defScope s_canonical, [], []⟩
def d_abbreviated : He.DefD := ⟨("abbreviated", none), "abbreviated", "abbreviated", defArgs s_abbreviated, defBody s_abbreviated, defScope s_abbreviated, [], []⟩
def d_Lstate : He.DefD := ⟨("_law_state", none), "_law_state", "_law_state", defArgs s_Lstate, defBody s_Lstate, defScope s_Lstate, [], []⟩
def d_Ldraw : He.DefD := ⟨("_law_draw", none), "_law_draw", "_law_draw", defArgs s_Ldraw, defBody s_Ldraw, defScope s_Ldraw, [], []⟩
def d_Lone : He.DefD := ⟨("_law_one", none), "_law_one", "_law_one", defArgs s_Lone, defBody s_Lone, defScope s_Lone, [], []⟩
def d_Lsaid : He.DefD := ⟨("_law_said", none), "_law_said", "_law_said", defArgs s_Lsaid, defBody s_Lsaid, defScope s_Lsaid, [], []⟩
def d_Lwords : He.DefD := ⟨("_law_words", none), "_law_words", "_law_words", defArgs s_Lwords, defBody s_Lwords, defScope s_Lwords, [], []⟩
def d_Lcall : He.DefD := ⟨("_law_call", none), "_law_call", "_law_call", defArgs s_Lcall, defBody s_Lcall, defScope s_Lcall, [], []⟩
def d_Lcall_right : He.DefD := ⟨("_law_call_right", none), "_law_call_right", "_law_call_right", defArgs s_Lcall_right, defBody s_Lcall_right, defScope s_Lcall_right, [], []⟩
def d_law : He.DefD := ⟨("law", none), "law", "law", defArgs s_law, defBody s_law, defScope s_law, [], []⟩
def fn : List He.DefD := [d_TreeError_init, d_BadValue_init, d_NotPath_init, d_end_of_run, d_words_alone, d_is_sign, d_end_of_signs, d_is_plain, d_begins_word, d_tokens_in, d_tokens_ahead_of_end, d_token_at, d_end_of_digits, d_end_of_number, d_quoted_token, d_PathReader_init, d_PathReader_peek, d_PathReader_peek_behind, d_PathReader_take, d_PathReader_read_path, d_PathReader_read_expression, d_PathReader_operator_word, d_PathReader_end_behind_operand, d_PathReader_expect_behind_operand, d_PathReader_expect, d_PathReader_read_operand, d_PathReader_read_literal, d_PathReader_text_of_literal, d_PathReader_read_variable, d_PathReader_is_function, d_PathReader_read_call, d_PathReader_read_behind, d_PathReader_read_slash, d_PathReader_read_rooted, d_PathReader_begins_step, d_PathReader_read_steps, d_PathReader_read_step, d_PathReader_read_step_with, d_PathReader_read_axis, d_PathReader_read_test, d_PathReader_read_kind, d_PathReader_check_colon, d_PathReader_read_predicates, d_bind, d_common_length, d_shortest_number, d_path_text, d_rank_in, d_binary_text, d_bracketed, d_operand_text, d_primary_text, d_quoted, d_predicates_text, d_location_text, d_steps_text, d_step_text, d_test_text, d_tokens, d_tree_of, d_reader_of, d_canonical, d_abbreviated, d_Lstate, d_Ldraw, d_Lone, d_Lsaid, d_Lwords, d_Lcall, d_Lcall_right, d_law]
def fa : List He.Fa := [.glo "TreeError", .glo "BadValue", .glo "NotPath", .glo "end_of_run", .glo "words_alone", .glo "is_sign", .glo "end_of_signs", .glo "is_plain", .glo "begins_word", .glo "tokens_in", .glo "tokens_ahead_of_end", .glo "token_at", .glo "end_of_digits", .glo "end_of_number", .glo "quoted_token", .glo "PathReader", .glo "bind", .glo "common_length", .glo "shortest_number", .glo "path_text", .glo "rank_in", .glo "binary_text", .glo "bracketed", .glo "operand_text", .glo "primary_text", .glo "quoted", .glo "predicates_text", .glo "location_text", .glo "steps_text", .glo "step_text", .glo "test_text", .glo "tokens", .glo "tree_of", .glo "reader_of", .glo "canonical", .glo "abbreviated", .glo "_law_state", .glo "_law_draw", .glo "_law_one", .glo "_law_said", .glo "_law_words", .glo "_law_call", .glo "_law_call_right", .glo "law", .glo "WORDS_ALONE", .glo "LONGER_BY", .glo "BROKEN_ALONE", .glo "RANKS", .glo "OPERATOR_WORDS", .glo "OPERATOR_OF_SIGN", .glo "AXES", .glo "KINDS", .glo "KIND_WORDS", .glo "FUNCTIONS", .glo "ANYTHING_BELOW", .glo "HERE", .glo "ABOVE", .glo "BEHIND_OTHER_NAMES", .glo "LITERALS", .glo "BEHIND_LONGER_PATHS", .glo "LIKE_TESTS", .free "abs", .free "enumerate", .free "int", .free "isinstance", .free "len", .free "max", .free "min", .free "range", .free "str", .free "tuple", .str "BLANKS" " \t\n", .str "DIGITS" "0123456789", .str "FIRST_SIGNS" "_ABCDEFGHIJKLMNOPQRSTUVWXYZabcdefghijklmnopqrstuvwxyz", .str "LONE_SIGNS" "@$*|+-=()[],", .int "PIECE" 32, .cls "PathReader", .mkr "PathReader", .noat "PathReader" "text", .noat "PathReader" "closed", .noat "PathReader" "tokens", .noat "PathReader" "kinds", .noat "PathReader" "at", .meth "PathReader" "peek", .meth "PathReader" "peek_behind", .meth "PathReader" "take", .meth "PathReader" "read_path", .meth "PathReader" "read_expression", .meth "PathReader" "operator_word", .meth "PathReader" "end_behind_operand", .meth "PathReader" "expect_behind_operand", .meth "PathReader" "expect", .meth "PathReader" "read_operand", .meth "PathReader" "read_literal", .meth "PathReader" "text_of_literal", .meth "PathReader" "read_variable", .meth "PathReader" "is_function", .meth "PathReader" "read_call", .meth "PathReader" "read_behind", .meth "PathReader" "read_slash", .meth "PathReader" "read_rooted", .meth "PathReader" "begins_step", .meth "PathReader" "read_steps", .meth "PathReader" "read_step", .meth "PathReader" "read_step_with", .meth "PathReader" "read_axis", .meth "PathReader" "read_test", .meth "PathReader" "read_kind", .meth "PathReader" "check_colon", .meth "PathReader" "read_predicates", .noat "TreeError" "why", .exm "BadValue" "BadValue" true, .exm "BadValue" "TreeError" true, .noat "BadValue" "why", .exm "NotPath" "NotPath" true, .exm "NotPath" "TreeError" true, .noat "NotPath" "why", .noat "NotPath" "at"]
def tup_BROKEN_ALONE : List Str := [":", "!"]
def tup_OPERATOR_WORDS : List Str := ["and", "or", "div", "mod"]
def tup_AXES : List Str := ["ancestor", "ancestor-or-self", "attribute", "child", "descendant", "descendant-or-self", "following", "following-sibling", "namespace", "parent", "preceding", "preceding-sibling", "self"]
def tup_BEHIND_OTHER_NAMES : List Str := ["::", "(", "broken"]
def tup_LITERALS : List Str := ["number", "text", "open"]
def tup_BEHIND_LONGER_PATHS : List Str := ["::", "(", "broken", "[", "/", "//"]
def tup_LIKE_TESTS : List Str := ["*", "and", "or", "div", "mod"]
def keys_LONGER_BY : List Str := ["/", ":", ".", "!", "<", ">"]
def kvs_LONGER_BY : List (Str × He.Dv) := [("/", .str "/"), (":", .str ":"), (".", .str "."), ("!", .str "="), ("<", .str "="), (">", .str "=")]
def keys_RANKS : List Str := ["or", "and", "=", "!=", "<", "<=", ">", ">=", "+", "-", "*", "div", "mod", "neg", "union"]
def kvs_RANKS : List (Str × He.Dv) := [("or", .int 1), ("and", .int 2), ("=", .int 3), ("!=", .int 3), ("<", .int 4), ("<=", .int 4), (">", .int 4), (">=", .int 4), ("+", .int 5), ("-", .int 5), ("*", .int 6), ("div", .int 6), ("mod", .int 6), ("neg", .int 7), ("union", .int 8)]
def keys_OPERATOR_OF_SIGN : List Str := ["=", "!=", "<", "<=", ">", ">=", "+", "-", "*", "|"]
def kvs_OPERATOR_OF_SIGN : List (Str × He.Dv) := [("=", .str "="), ("!=", .str "!="), ("<", .str "<"), ("<=", .str "<="), (">", .str ">"), (">=", .str ">="), ("+", .str "+"), ("-", .str "-"), ("*", .str "*"), ("|", .str "union")]
def keys_KINDS : List Str := ["node", "text", "comment", "processing-instruction"]
def kvs_KINDS : List (Str × He.Dv) := [("node", .str "node"), ("text", .str "text"), ("comment", .str "comment"), ("processing-instruction", .str "instruction")]
def keys_KIND_WORDS : List Str := ["node", "text", "comment", "instruction"]
def kvs_KIND_WORDS : List (Str × He.Dv) := [("node", .str "node"), ("text", .str "text"), ("comment", .str "comment"), ("instruction", .str "processing-instruction")]
def keys_FUNCTIONS : List Str := ["current", "false", "last", "position", "true", "generate-id", "local-name", "name", "normalize-space", "number", "string", "string-length", "boolean", "ceiling", "count", "document", "floor", "id", "not", "round", "sum", "contains", "key", "starts-with", "substring-after", "substring-before", "substring", "translate", "concat"]
def funKvs : List (Str × (Int × Option Int)) := [("current", (0, some 0)), ("false", (0, some 0)), ("last", (0, some 0)), ("position", (0, some 0)), ("true", (0, some 0)), ("generate-id", (0, some 1)), ("local-name", (0, some 1)), ("name", (0, some 1)), ("normalize-space", (0, some 1)), ("number", (0, some 1)), ("string", (0, some 1)), ("string-length", (0, some 1)), ("boolean", (1, some 1)), ("ceiling", (1, some 1)), ("count", (1, some 1)), ("document", (1, some 1)), ("floor", (1, some 1)), ("id", (1, some 1)), ("not", (1, some 1)), ("round", (1, some 1)), ("sum", (1, some 1)), ("contains", (2, some 2)), ("key", (2, some 2)), ("starts-with", (2, some 2)), ("substring-after", (2, some 2)), ("substring-before", (2, some 2)), ("substring", (2, some 3)), ("translate", (3, some 3)), ("concat", (2, none))]
def ts : List He.Tab := [(fun K => He.ga K "LONGER_BY", keys_LONGER_BY), (fun K => He.ga K "RANKS", keys_RANKS), (fun K => He.ga K "OPERATOR_OF_SIGN", keys_OPERATOR_OF_SIGN), (fun K => He.ga K "KINDS", keys_KINDS), (fun K => He.ga K "KIND_WORDS", keys_KIND_WORDS), (fun K => He.ga K "FUNCTIONS", keys_FUNCTIONS)]
/-! ### what more the top must have left -/
def oexB (K : PySem.W.Frag) (x : Str) : Bool := (match K.lookup (He.ga K x) with
  | some ⟨.type c, _, .cls cd, sl⟩ => decide (c = "type") && (match cd.mro, sl.toList with
    | .ref C' :: bm, [_, _, _, _, some (.builtin n), _] => decide (C' = He.ga K x) && (decide (n = "ValueError.__new__") && (!cd.hasDel && (cd.hasDict && PySem.HandSPX.refsVE bm)))
    | _, _ => false)
  | _ => false) && (decide (PySem.W.findIn K (.ref (He.ga K x)) "__setattr__" = some (some (.builtin "object.__setattr__"))) && (decide (PySem.W.subIn K (.ref (He.ga K x)) (.type "BaseException") = some true) &&
  (decide (PySem.W.typeIn K (.ref (He.ga K x)) = some (.type "type")) && (PySem.W.keepIn K (.ref (He.ga K x)) && xfB K (He.ga K x)))))
def initB (K : PySem.W.Frag) (x : Str) : Bool := decide (PySem.W.findIn K (.ref (He.ga K x)) "__init__" = some (some (.ref (He.ma K (He.ga K x) "__init__")))) && decide (PySem.W.typeIn K (.ref (He.ma K (He.ga K x) "__init__")) = some (.type "function"))
def baseB (K : PySem.W.Frag) : Bool := (match PySem.W.findCls K (.ref (He.ga K "TreeError")) (.type "type") "__init__" with
  | some (.val (.ref f)) => decide (f = He.ma K (He.ga K "TreeError") "__init__")
  | _ => false) && (PySem.W.readsIn K (He.ga K "TreeError") (.type "type") && decide (PySem.W.specialIn K (.ref (He.ga K "TreeError")) "__getattribute__" = some (some (.builtin "type.__getattribute__"))))
def nbB (K : PySem.W.Frag) : Bool := match List.lookup cStatics K with
  | some o => (match o.data with
    | .dict es _ => es.toList.all (fun e => match e.key with | .str _ _ => true | _ => false) && (nsFind es sharingNotToldKey).isNone
    | _ => false)
  | none => false
/-- a tuple that the head made: its items -/
def tupB (K : PySem.W.Frag) (a : Addr) (vs : List He.Dv) : Bool := match K.lookup a with
  | some ⟨c, _, .seq us _, _⟩ => (match c with | .type n => decide (n = "tuple") | _ => false) && (decide (us.size = vs.length) && (us.toList.zip vs).all fun q => He.relB (q.2.v K) q.1)
  | _ => false
def strsB (K : PySem.W.Frag) (x : Str) (l : List Str) : Bool := tupB K (He.ga K x) (l.map .str)
def optD : Option Int → He.Dv
  | none => .non
  | some i => .int i

def funB (K : PySem.W.Frag) (a : Addr) : Bool := funKvs.all fun q => match PySem.W.nsIn K a q.1 with
  | some (some (.ref u)) => tupB K u [.int q.2.1, optD q.2.2]
  | _ => false

/-- a step of any kind of nodes that the head made -/
def stepB (K : PySem.W.Frag) (x : Str) (axis : Str) : Bool := match K.lookup (He.ga K x) with
  | some ⟨c, _, .seq us _, _⟩ => (match c with | .type n => decide (n = "tuple") | _ => false) && (match us.toList with
    | [u0, .ref a, .ref b] => He.relB (.str axis) u0 && (tupB K a [.str "kind", .str "node", .non] && tupB K b [])
    | _ => false)
  | _ => false
def excB (K : PySem.W.Frag) (D : Addr) : Bool := decide (PySem.W.findIn K (.ref D) "__getattribute__" = some (some (.builtin "BaseException.__getattribute__"))) && (decide (PySem.W.findIn K (.ref D) "__getattr__" = some none) && (decide (PySem.W.subIn K (.ref D) (.type "BaseException") = some true) && (PySem.W.hasDictIn K D &&
  (decide (PySem.W.findIn K (.ref D) "__class__" = some (some (.builtin "object.__class__"))) && (decide (PySem.W.specialIn K (.builtin "object.__class__") "__get__" = some (some (.builtin "getset_descriptor.__get__"))) && (decide (PySem.W.takesIn K (.builtin "object.__class__") = some true) && decide (PySem.W.mroIn K D (.type "object") = some true)))))))
def isB (K : PySem.W.Frag) : Bool := excB K (He.ga K "BadValue") && (excB K (He.ga K "NotPath") && (decide (PySem.W.kitOne K (.ref (He.ga K "BadValue")) (.ref (He.ga K "BadValue")) = some true) && (decide (PySem.W.kitOne K (.ref (He.ga K "NotPath")) (.ref (He.ga K "BadValue")) = some false) && (decide (PySem.W.kitOne K (.ref (He.ga K "NotPath")) (.ref (He.ga K "NotPath")) = some true) && decide (PySem.W.kitOne K (.ref (He.ga K "BadValue")) (.type "str") = some false)))))
/-- a dict of numbers to texts that the head made -/
def intsB (K : PySem.W.Frag) (x : Str) (l : List (Int × Str)) : Bool := !(He.ga K x == sysModules) && match K.lookup (He.ga K x) with
  | some ⟨.type n, none, .dict es _, sl⟩ => decide (n = "dict") && (decide (sl = #[]) && (decide (es.toList.length = l.length) && (es.toList.zip l).all fun q => q.1.key.isInt q.2.1 && (decide (q.1.hash = hashInt q.2.1) && q.1.val.isStr q.2.2)))
  | _ => false

def ints_WORDS_ALONE : List (Int × Str) := [(9, " "), (10, " "), (33, " "), (34, " "), (35, " "), (36, " "), (37, " "), (38, " "), (39, " "), (40, " "), (41, " "), (42, " "), (43, " "), (44, " "), (47, " "), (58, " "), (59, " "), (60, " "), (61, " "), (62, " "), (63, " "), (64, " "), (91, " "), (92, " "), (93, " "), (94, " "), (96, " "), (123, " "), (124, " "), (125, " "), (126, " ")]
def ex (K : PySem.W.Frag) : Bool := [oexB K "BadValue", oexB K "NotPath", initB K "BadValue", initB K "NotPath", baseB K, nbB K, isB K, He.valsB K (He.ga K "LONGER_BY") kvs_LONGER_BY, He.valsB K (He.ga K "RANKS") kvs_RANKS, He.valsB K (He.ga K "OPERATOR_OF_SIGN") kvs_OPERATOR_OF_SIGN, He.valsB K (He.ga K "KINDS") kvs_KINDS, He.valsB K (He.ga K "KIND_WORDS") kvs_KIND_WORDS, funB K (He.ga K "FUNCTIONS"), strsB K "BROKEN_ALONE" tup_BROKEN_ALONE, strsB K "OPERATOR_WORDS" tup_OPERATOR_WORDS, strsB K "AXES" tup_AXES, strsB K "BEHIND_OTHER_NAMES" tup_BEHIND_OTHER_NAMES, strsB K "LITERALS" tup_LITERALS, strsB K "BEHIND_LONGER_PATHS" tup_BEHIND_LONGER_PATHS, strsB K "LIKE_TESTS" tup_LIKE_TESTS, stepB K "ANYTHING_BELOW" "descendant-or-self", stepB K "HERE" "self", stepB K "ABOVE" "parent", intsB K "WORDS_ALONE" ints_WORDS_ALONE].all id
theorem ex_all {K : PySem.W.Frag} (h : ex K = true) : oexB K "BadValue" = true ∧ oexB K "NotPath" = true ∧ initB K "BadValue" = true ∧ initB K "NotPath" = true ∧ baseB K = true ∧ nbB K = true ∧ isB K = true ∧ He.valsB K (He.ga K "LONGER_BY") kvs_LONGER_BY = true ∧ He.valsB K (He.ga K "RANKS") kvs_RANKS = true ∧ He.valsB K (He.ga K "OPERATOR_OF_SIGN") kvs_OPERATOR_OF_SIGN = true ∧ He.valsB K (He.ga K "KINDS") kvs_KINDS = true ∧ He.valsB K (He.ga K "KIND_WORDS") kvs_KIND_WORDS = true ∧ funB K (He.ga K "FUNCTIONS") = true ∧ strsB K "BROKEN_ALONE" tup_BROKEN_ALONE = true ∧ strsB K "OPERATOR_WORDS" tup_OPERATOR_WORDS = true ∧ strsB K "AXES" tup_AXES = true ∧ strsB K "BEHIND_OTHER_NAMES" tup_BEHIND_OTHER_NAMES = true ∧ strsB K "LITERALS" tup_LITERALS = true ∧ strsB K "BEHIND_LONGER_PATHS" tup_BEHIND_LONGER_PATHS = true ∧ strsB K "LIKE_TESTS" tup_LIKE_TESTS = true ∧ stepB K "ANYTHING_BELOW" "descendant-or-self" = true ∧ stepB K "HERE" "self" = true ∧ stepB K "ABOVE" "parent" = true ∧ intsB K "WORDS_ALONE" ints_WORDS_ALONE = true := by
  unfold ex at h
  simpa only [List.all_cons, List.all_nil, id, Bool.and_eq_true, Bool.and_true] using h
end PX
/-! PXHead -/
namespace PX
open PySem PySem.Spec PyProof.Rows L2
abbrev R : PySem.W.OpenRow := PySem.W.OpenLaw.row PySem.Challenge.rw_pathloom_k20_what_is_no_text_and_no_call
/-! ### the Hook: what the head is asked for, the statics' names among what is looked at -/
abbrev AlM : Type := He.AlT × Bool
def lvM (g : Addr → Option Obj) (as : List Addr) : List Addr := as.flatMap fun a => match g a with
  | some o => He.refsD o
  | none => []
def gwM (g : Addr → Option Obj) : Nat → List Addr → List Addr
  | 0, as => as
  | n + 1, as => as ++ gwM g n (lvM g as)
def asM (g : Addr → Option Obj) (n : Nat) : List Addr := cStatics :: gwM g n [mainGlobals]
def obsM (n : Nat) (g : Addr → Option Obj) : AlM := (He.obsT fa fn ts (He.frG g (asM g n)), ex (He.frG g (asM g n)))
def hk : PySem.W.Hook where
  α := AlM
  obs := fun s => obsM 4 s.heap.get?
  val := fun w => (He.valT fn ts w, true)
  says := fun w h => ∃ K : PySem.W.Frag, K.In h ∧ He.SaysT fa fn ts w K ∧ ex K = true
  of := fun _ _ e => ⟨_, He.frG_in, congrArg (fun z : AlM => z.1) e, congrArg (fun z : AlM => z.2) e⟩
  keeps := fun _ _ _ ⟨K, hK, c⟩ k => ⟨K, PySem.W.Frag.In.keeps hK k, c⟩
def ob (s : PySem.W.SharedT) : AlM := obsM 4 (HandSHeadRun.getT s)
theorem ob_eq (s : PySem.W.SharedT) : ob s = hk.obs s.abs := by
  have e : HandSHeadRun.getT s = s.abs.heap.get? := funext (HandSHeadRun.getT_eq s)
  show obsM 4 (HandSHeadRun.getT s) = obsM 4 s.abs.heap.get?
  rw [e]
def names1 : List PySem.Str := ["_wall", "TreeError", "BadValue", "NotPath", "end_of_run", "words_alone", "is_sign", "end_of_signs", "is_plain", "begins_word", "tokens_in", "tokens_ahead_of_end", "token_at", "end_of_digits", "end_of_number", "quoted_token", "PathReader", "bind", "common_length", "shortest_number"]
def names2 : List PySem.Str := ["path_text", "rank_in", "binary_text", "bracketed", "operand_text", "primary_text", "quoted", "predicates_text", "location_text", "steps_text", "step_text", "test_text", "tokens", "tree_of", "reader_of", "canonical", "abbreviated", "_law_state", "_law_draw", "_law_one"]
def names3 : List PySem.Str := ["_law_said", "_law_words", "_law_call", "_law_call_right", "WORDS_ALONE", "LONGER_BY", "BROKEN_ALONE", "RANKS", "OPERATOR_WORDS", "OPERATOR_OF_SIGN", "AXES", "KINDS", "KIND_WORDS", "FUNCTIONS", "ANYTHING_BELOW", "HERE", "ABOVE", "BEHIND_OTHER_NAMES", "LITERALS", "BEHIND_LONGER_PATHS"]
def names4 : List PySem.Str := ["LIKE_TESTS", "BLANKS", "DIGITS", "FIRST_SIGNS", "LONE_SIGNS", "PIECE"]
def names : List PySem.Str := names1 ++ (names2 ++ (names3 ++ (names4)))
def Kof (s : PySem.W.SharedT) : PySem.W.Frag := He.frG (HandSHeadRun.getT s) (asM (HandSHeadRun.getT s) 4)
noncomputable def endW (w : World) (os : PySem.OsState) : Option PySem.W.SharedT := HandSHeadRun.endF (HandSHeadRun.stepQ (HandSHeadRun.denQ HandSHeadRun.tabQ) R.prog w) 60000 R.prog w os
noncomputable def lookW (w : World) (s : PySem.W.SharedT) := (HandSHeadRun.looksF R.prog (PySem.W.boot_heap w.params) s.abs, HandSHeadRun.seenQ (PySem.W.view R.prog [73]) names (PySem.importedModules R.prog.main.body) (fun s => PySem.W.xlAt (PySem.W.view R.prog [73]) [] s && PySem.W.recOk R.toRowW.records s) s.abs)
theorem head_put (w : World) (h1 : ∀ os, (endW w os).map (lookW w) = some (true, PySem.W.openGood (PySem.W.view R.prog [73]) names))
    (h2 : ∀ os, (endW w os).map (fun s => ((fa.all fun f => f.ok (Kof s)), (fn.map fun d => He.fnW (Kof s) d.at_), (ts.map fun t => He.dicW (Kof s) (t.1 (Kof s))), ex (Kof s))) = some (true, fn.map He.DefD.val, ts.map (fun t => some (He.keysIn w.params t.2)), true))
    (h3 : ∀ os, (endW w os).map (fun s => fn.all fun d => d.ok (Kof s)) = some true) : HandSHeadRun.RunEq R (PySem.W.view R.prog [73]) hk ob 60000 names w := by
  intro os
  obtain ⟨s, hs, e1⟩ := Option.map_eq_some_iff.mp (h1 os)
  have e2 := h2 os
  have e3 := h3 os
  rw [hs] at e2 e3
  have e2' := Option.some.inj e2
  have e3' := Option.some.inj e3
  have a1 := congrArg Prod.fst e1
  have a2 := congrArg Prod.snd e1
  have b1 := congrArg Prod.fst e2'
  have b2 := congrArg (fun z => z.2.1) e2'
  have b3 := congrArg (fun z => z.2.2.1) e2'
  have b4 := congrArg (fun z => z.2.2.2) e2'
  show (endW w os).map _ = _
  rw [hs]
  show some ((lookW w s).1, (lookW w s).2, ((((fa.all fun f => f.ok (Kof s)) && fn.all fun d => d.ok (Kof s)), (fn.map fun d => He.fnW (Kof s) d.at_)), (ts.map fun t => He.dicW (Kof s) (t.1 (Kof s)))), ex (Kof s)) = some (true, PySem.W.openGood (PySem.W.view R.prog [73]) names, ((true, fn.map He.DefD.val), ts.map (fun t => some (He.keysIn w.params t.2))), true)
  rw [show (lookW w s).1 = true from a1, show (lookW w s).2 = _ from a2, show (fa.all fun f => f.ok (Kof s)) = true from b1, show (fn.all fun d => d.ok (Kof s)) = true from e3', show (fn.map fun d => He.fnW (Kof s) d.at_) = _ from b2, show (ts.map fun t => He.dicW (Kof s) (t.1 (Kof s))) = _ from b3, show ex (Kof s) = true from b4]
  rfl

theorem hrA1 (w : World) (os : PySem.OsState) : (endW (w.withFollow "special-get-raises" false) os).map (lookW (w.withFollow "special-get-raises" false)) = some (true, PySem.W.openGood (PySem.W.view R.prog [73]) names) := by
  kernel_rfl
theorem hrA2 (w : World) (os : PySem.OsState) : (endW (w.withFollow "special-get-raises" false) os).map (fun s => ((fa.all fun f => f.ok (Kof s)), (fn.map fun d => He.fnW (Kof s) d.at_), (ts.map fun t => He.dicW (Kof s) (t.1 (Kof s))), ex (Kof s))) = some (true, fn.map He.DefD.val, ts.map (fun t => some (He.keysIn (w.withFollow "special-get-raises" false).params t.2)), true) := by
  kernel_rfl
theorem hrA3 (w : World) (os : PySem.OsState) : (endW (w.withFollow "special-get-raises" false) os).map (fun s => fn.all fun d => d.ok (Kof s)) = some true := by
  kernel_rfl

theorem hrB1 (w : World) (os : PySem.OsState) : (endW (w.withFollow "special-get-raises" true) os).map (lookW (w.withFollow "special-get-raises" true)) = some (true, PySem.W.openGood (PySem.W.view R.prog [73]) names) := by
  kernel_rfl
theorem hrB2 (w : World) (os : PySem.OsState) : (endW (w.withFollow "special-get-raises" true) os).map (fun s => ((fa.all fun f => f.ok (Kof s)), (fn.map fun d => He.fnW (Kof s) d.at_), (ts.map fun t => He.dicW (Kof s) (t.1 (Kof s))), ex (Kof s))) = some (true, fn.map He.DefD.val, ts.map (fun t => some (He.keysIn (w.withFollow "special-get-raises" true).params t.2)), true) := by
  kernel_rfl
theorem hrB3 (w : World) (os : PySem.OsState) : (endW (w.withFollow "special-get-raises" true) os).map (fun s => fn.all fun d => d.ok (Kof s)) = some true := by
  kernel_rfl

theorem headRun (w : World) : HandSHeadRun.RunEq R (PySem.W.view R.prog [73]) hk ob 60000 names w :=
  PySem.W.byRow2 "special-get-raises" (P := fun w => HandSHeadRun.RunEq R (PySem.W.view R.prog [73]) hk ob 60000 names w) (fun w => head_put _ (hrA1 w) (hrA2 w) (hrA3 w)) (fun w => head_put _ (hrB1 w) (hrB2 w) (hrB3 w)) w
end PX
/-! PXBase -/
namespace PX
open PySem PySem.Spec PyProof.Rows L2
/-! ### what the head has left -/
structure Tx (w : World) (K : PySem.W.Frag) (mg : Str → Option Value) : Prop where
  c : He.SaysD fa fn K
  kin : ∃ h : Heap, K.In h ∧ h.Ns mainGlobals mg
  tab_LONGER_BY : He.dicW K (He.ga K "LONGER_BY") = some (He.keysIn w.params keys_LONGER_BY)
  tab_RANKS : He.dicW K (He.ga K "RANKS") = some (He.keysIn w.params keys_RANKS)
  tab_OPERATOR_OF_SIGN : He.dicW K (He.ga K "OPERATOR_OF_SIGN") = some (He.keysIn w.params keys_OPERATOR_OF_SIGN)
  tab_KINDS : He.dicW K (He.ga K "KINDS") = some (He.keysIn w.params keys_KINDS)
  tab_KIND_WORDS : He.dicW K (He.ga K "KIND_WORDS") = some (He.keysIn w.params keys_KIND_WORDS)
  tab_FUNCTIONS : He.dicW K (He.ga K "FUNCTIONS") = some (He.keysIn w.params keys_FUNCTIONS)
  more : ex K = true
abbrev FnP (K : PySem.W.Frag) (d : He.DefD) (fd : FuncData) : Prop := FunD K d.name d.qual d.params d.body d.scope (d.dvs K) (d.kws K) (He.fAd K d.at_) fd
section
variable {w : World} {K : PySem.W.Frag} {mg : Str → Option Value}
theorem x_exBad (T : Tx w K mg) : oexB K "BadValue" = true := (ex_all T.more).1
theorem x_exNot (T : Tx w K mg) : oexB K "NotPath" = true := (ex_all T.more).2.1
theorem x_inBad (T : Tx w K mg) : initB K "BadValue" = true := (ex_all T.more).2.2.1
theorem x_inNot (T : Tx w K mg) : initB K "NotPath" = true := (ex_all T.more).2.2.2.1
theorem x_base (T : Tx w K mg) : baseB K = true := (ex_all T.more).2.2.2.2.1
theorem x_nb (T : Tx w K mg) : nbB K = true := (ex_all T.more).2.2.2.2.2.1
theorem x_isx (T : Tx w K mg) : isB K = true := (ex_all T.more).2.2.2.2.2.2.1
theorem x_v_LONGER_BY (T : Tx w K mg) : He.valsB K (He.ga K "LONGER_BY") kvs_LONGER_BY = true := (ex_all T.more).2.2.2.2.2.2.2.1
theorem x_v_RANKS (T : Tx w K mg) : He.valsB K (He.ga K "RANKS") kvs_RANKS = true := (ex_all T.more).2.2.2.2.2.2.2.2.1
theorem x_v_OPERATOR_OF_SIGN (T : Tx w K mg) : He.valsB K (He.ga K "OPERATOR_OF_SIGN") kvs_OPERATOR_OF_SIGN = true := (ex_all T.more).2.2.2.2.2.2.2.2.2.1
theorem x_v_KINDS (T : Tx w K mg) : He.valsB K (He.ga K "KINDS") kvs_KINDS = true := (ex_all T.more).2.2.2.2.2.2.2.2.2.2.1
theorem x_v_KIND_WORDS (T : Tx w K mg) : He.valsB K (He.ga K "KIND_WORDS") kvs_KIND_WORDS = true := (ex_all T.more).2.2.2.2.2.2.2.2.2.2.2.1
theorem x_fun (T : Tx w K mg) : funB K (He.ga K "FUNCTIONS") = true := (ex_all T.more).2.2.2.2.2.2.2.2.2.2.2.2.1
theorem x_t_BROKEN_ALONE (T : Tx w K mg) : strsB K "BROKEN_ALONE" tup_BROKEN_ALONE = true := (ex_all T.more).2.2.2.2.2.2.2.2.2.2.2.2.2.1
theorem x_t_OPERATOR_WORDS (T : Tx w K mg) : strsB K "OPERATOR_WORDS" tup_OPERATOR_WORDS = true := (ex_all T.more).2.2.2.2.2.2.2.2.2.2.2.2.2.2.1
theorem x_t_AXES (T : Tx w K mg) : strsB K "AXES" tup_AXES = true := (ex_all T.more).2.2.2.2.2.2.2.2.2.2.2.2.2.2.2.1
theorem x_t_BEHIND_OTHER_NAMES (T : Tx w K mg) : strsB K "BEHIND_OTHER_NAMES" tup_BEHIND_OTHER_NAMES = true := (ex_all T.more).2.2.2.2.2.2.2.2.2.2.2.2.2.2.2.2.1
theorem x_t_LITERALS (T : Tx w K mg) : strsB K "LITERALS" tup_LITERALS = true := (ex_all T.more).2.2.2.2.2.2.2.2.2.2.2.2.2.2.2.2.2.1
theorem x_t_BEHIND_LONGER_PATHS (T : Tx w K mg) : strsB K "BEHIND_LONGER_PATHS" tup_BEHIND_LONGER_PATHS = true := (ex_all T.more).2.2.2.2.2.2.2.2.2.2.2.2.2.2.2.2.2.2.1
theorem x_t_LIKE_TESTS (T : Tx w K mg) : strsB K "LIKE_TESTS" tup_LIKE_TESTS = true := (ex_all T.more).2.2.2.2.2.2.2.2.2.2.2.2.2.2.2.2.2.2.2.1
theorem x_s_ANYTHING_BELOW (T : Tx w K mg) : stepB K "ANYTHING_BELOW" "descendant-or-self" = true := (ex_all T.more).2.2.2.2.2.2.2.2.2.2.2.2.2.2.2.2.2.2.2.2.1
theorem x_s_HERE (T : Tx w K mg) : stepB K "HERE" "self" = true := (ex_all T.more).2.2.2.2.2.2.2.2.2.2.2.2.2.2.2.2.2.2.2.2.2.1
theorem x_s_ABOVE (T : Tx w K mg) : stepB K "ABOVE" "parent" = true := (ex_all T.more).2.2.2.2.2.2.2.2.2.2.2.2.2.2.2.2.2.2.2.2.2.2.1
theorem x_i_WORDS_ALONE (T : Tx w K mg) : intsB K "WORDS_ALONE" ints_WORDS_ALONE = true := (ex_all T.more).2.2.2.2.2.2.2.2.2.2.2.2.2.2.2.2.2.2.2.2.2.2.2
theorem g_TreeError (T : Tx w K mg) : mg "TreeError" = some (.ref (He.ga K "TreeError")) := by
  obtain ⟨h, X, G⟩ := T.kin
  exact He.glo_ok X G (T.c.fact 0 (f := .glo "TreeError") rfl)
theorem g_BadValue (T : Tx w K mg) : mg "BadValue" = some (.ref (He.ga K "BadValue")) := by
  obtain ⟨h, X, G⟩ := T.kin
  exact He.glo_ok X G (T.c.fact 1 (f := .glo "BadValue") rfl)
theorem g_NotPath (T : Tx w K mg) : mg "NotPath" = some (.ref (He.ga K "NotPath")) := by
  obtain ⟨h, X, G⟩ := T.kin
  exact He.glo_ok X G (T.c.fact 2 (f := .glo "NotPath") rfl)
theorem g_end_of_run (T : Tx w K mg) : mg "end_of_run" = some (.ref (He.ga K "end_of_run")) := by
  obtain ⟨h, X, G⟩ := T.kin
  exact He.glo_ok X G (T.c.fact 3 (f := .glo "end_of_run") rfl)
theorem g_words_alone (T : Tx w K mg) : mg "words_alone" = some (.ref (He.ga K "words_alone")) := by
  obtain ⟨h, X, G⟩ := T.kin
  exact He.glo_ok X G (T.c.fact 4 (f := .glo "words_alone") rfl)
theorem g_is_sign (T : Tx w K mg) : mg "is_sign" = some (.ref (He.ga K "is_sign")) := by
  obtain ⟨h, X, G⟩ := T.kin
  exact He.glo_ok X G (T.c.fact 5 (f := .glo "is_sign") rfl)
theorem g_end_of_signs (T : Tx w K mg) : mg "end_of_signs" = some (.ref (He.ga K "end_of_signs")) := by
  obtain ⟨h, X, G⟩ := T.kin
  exact He.glo_ok X G (T.c.fact 6 (f := .glo "end_of_signs") rfl)
theorem g_is_plain (T : Tx w K mg) : mg "is_plain" = some (.ref (He.ga K "is_plain")) := by
  obtain ⟨h, X, G⟩ := T.kin
  exact He.glo_ok X G (T.c.fact 7 (f := .glo "is_plain") rfl)
theorem g_begins_word (T : Tx w K mg) : mg "begins_word" = some (.ref (He.ga K "begins_word")) := by
  obtain ⟨h, X, G⟩ := T.kin
  exact He.glo_ok X G (T.c.fact 8 (f := .glo "begins_word") rfl)
theorem g_tokens_in (T : Tx w K mg) : mg "tokens_in" = some (.ref (He.ga K "tokens_in")) := by
  obtain ⟨h, X, G⟩ := T.kin
  exact He.glo_ok X G (T.c.fact 9 (f := .glo "tokens_in") rfl)
theorem g_tokens_ahead_of_end (T : Tx w K mg) : mg "tokens_ahead_of_end" = some (.ref (He.ga K "tokens_ahead_of_end")) := by
  obtain ⟨h, X, G⟩ := T.kin
  exact He.glo_ok X G (T.c.fact 10 (f := .glo "tokens_ahead_of_end") rfl)
theorem g_token_at (T : Tx w K mg) : mg "token_at" = some (.ref (He.ga K "token_at")) := by
  obtain ⟨h, X, G⟩ := T.kin
  exact He.glo_ok X G (T.c.fact 11 (f := .glo "token_at") rfl)
theorem g_end_of_digits (T : Tx w K mg) : mg "end_of_digits" = some (.ref (He.ga K "end_of_digits")) := by
  obtain ⟨h, X, G⟩ := T.kin
  exact He.glo_ok X G (T.c.fact 12 (f := .glo "end_of_digits") rfl)
theorem g_end_of_number (T : Tx w K mg) : mg "end_of_number" = some (.ref (He.ga K "end_of_number")) := by
  obtain ⟨h, X, G⟩ := T.kin
  exact He.glo_ok X G (T.c.fact 13 (f := .glo "end_of_number") rfl)
theorem g_quoted_token (T : Tx w K mg) : mg "quoted_token" = some (.ref (He.ga K "quoted_token")) := by
  obtain ⟨h, X, G⟩ := T.kin
  exact He.glo_ok X G (T.c.fact 14 (f := .glo "quoted_token") rfl)
theorem g_PathReader (T : Tx w K mg) : mg "PathReader" = some (.ref (He.ga K "PathReader")) := by
  obtain ⟨h, X, G⟩ := T.kin
  exact He.glo_ok X G (T.c.fact 15 (f := .glo "PathReader") rfl)
theorem g_bind (T : Tx w K mg) : mg "bind" = some (.ref (He.ga K "bind")) := by
  obtain ⟨h, X, G⟩ := T.kin
  exact He.glo_ok X G (T.c.fact 16 (f := .glo "bind") rfl)
theorem g_common_length (T : Tx w K mg) : mg "common_length" = some (.ref (He.ga K "common_length")) := by
  obtain ⟨h, X, G⟩ := T.kin
  exact He.glo_ok X G (T.c.fact 17 (f := .glo "common_length") rfl)
theorem g_shortest_number (T : Tx w K mg) : mg "shortest_number" = some (.ref (He.ga K "shortest_number")) := by
  obtain ⟨h, X, G⟩ := T.kin
  exact He.glo_ok X G (T.c.fact 18 (f := .glo "shortest_number") rfl)
theorem g_path_text (T : Tx w K mg) : mg "path_text" = some (.ref (He.ga K "path_text")) := by
  obtain ⟨h, X, G⟩ := T.kin
  exact He.glo_ok X G (T.c.fact 19 (f := .glo "path_text") rfl)
theorem g_rank_in (T : Tx w K mg) : mg "rank_in" = some (.ref (He.ga K "rank_in")) := by
  obtain ⟨h, X, G⟩ := T.kin
  exact He.glo_ok X G (T.c.fact 20 (f := .glo "rank_in") rfl)
theorem g_binary_text (T : Tx w K mg) : mg "binary_text" = some (.ref (He.ga K "binary_text")) := by
  obtain ⟨h, X, G⟩ := T.kin
  exact He.glo_ok X G (T.c.fact 21 (f := .glo "binary_text") rfl)
theorem g_bracketed (T : Tx w K mg) : mg "bracketed" = some (.ref (He.ga K "bracketed")) := by
  obtain ⟨h, X, G⟩ := T.kin
  exact He.glo_ok X G (T.c.fact 22 (f := .glo "bracketed") rfl)
theorem g_operand_text (T : Tx w K mg) : mg "operand_text" = some (.ref (He.ga K "operand_text")) := by
  obtain ⟨h, X, G⟩ := T.kin
  exact He.glo_ok X G (T.c.fact 23 (f := .glo "operand_text") rfl)
theorem g_primary_text (T : Tx w K mg) : mg "primary_text" = some (.ref (He.ga K "primary_text")) := by
  obtain ⟨h, X, G⟩ := T.kin
  exact He.glo_ok X G (T.c.fact 24 (f := .glo "primary_text") rfl)
theorem g_quoted (T : Tx w K mg) : mg "quoted" = some (.ref (He.ga K "quoted")) := by
  obtain ⟨h, X, G⟩ := T.kin
  exact He.glo_ok X G (T.c.fact 25 (f := .glo "quoted") rfl)
theorem g_predicates_text (T : Tx w K mg) : mg "predicates_text" = some (.ref (He.ga K "predicates_text")) := by
  obtain ⟨h, X, G⟩ := T.kin
  exact He.glo_ok X G (T.c.fact 26 (f := .glo "predicates_text") rfl)
theorem g_location_text (T : Tx w K mg) : mg "location_text" = some (.ref (He.ga K "location_text")) := by
  obtain ⟨h, X, G⟩ := T.kin
  exact He.glo_ok X G (T.c.fact 27 (f := .glo "location_text") rfl)
theorem g_steps_text (T : Tx w K mg) : mg "steps_text" = some (.ref (He.ga K "steps_text")) := by
  obtain ⟨h, X, G⟩ := T.kin
  exact He.glo_ok X G (T.c.fact 28 (f := .glo "steps_text") rfl)
theorem g_step_text (T : Tx w K mg) : mg "step_text" = some (.ref (He.ga K "step_text")) := by
  obtain ⟨h, X, G⟩ := T.kin
  exact He.glo_ok X G (T.c.fact 29 (f := .glo "step_text") rfl)
theorem g_test_text (T : Tx w K mg) : mg "test_text" = some (.ref (He.ga K "test_text")) := by
  obtain ⟨h, X, G⟩ := T.kin
  exact He.glo_ok X G (T.c.fact 30 (f := .glo "test_text") rfl)
theorem g_tokens (T : Tx w K mg) : mg "tokens" = some (.ref (He.ga K "tokens")) := by
  obtain ⟨h, X, G⟩ := T.kin
  exact He.glo_ok X G (T.c.fact 31 (f := .glo "tokens") rfl)
theorem g_tree_of (T : Tx w K mg) : mg "tree_of" = some (.ref (He.ga K "tree_of")) := by
  obtain ⟨h, X, G⟩ := T.kin
  exact He.glo_ok X G (T.c.fact 32 (f := .glo "tree_of") rfl)
theorem g_reader_of (T : Tx w K mg) : mg "reader_of" = some (.ref (He.ga K "reader_of")) := by
  obtain ⟨h, X, G⟩ := T.kin
  exact He.glo_ok X G (T.c.fact 33 (f := .glo "reader_of") rfl)
theorem g_canonical (T : Tx w K mg) : mg "canonical" = some (.ref (He.ga K "canonical")) := by
  obtain ⟨h, X, G⟩ := T.kin
  exact He.glo_ok X G (T.c.fact 34 (f := .glo "canonical") rfl)
theorem g_abbreviated (T : Tx w K mg) : mg "abbreviated" = some (.ref (He.ga K "abbreviated")) := by
  obtain ⟨h, X, G⟩ := T.kin
  exact He.glo_ok X G (T.c.fact 35 (f := .glo "abbreviated") rfl)
theorem g_Lstate (T : Tx w K mg) : mg "_law_state" = some (.ref (He.ga K "_law_state")) := by
  obtain ⟨h, X, G⟩ := T.kin
  exact He.glo_ok X G (T.c.fact 36 (f := .glo "_law_state") rfl)
theorem g_Ldraw (T : Tx w K mg) : mg "_law_draw" = some (.ref (He.ga K "_law_draw")) := by
  obtain ⟨h, X, G⟩ := T.kin
  exact He.glo_ok X G (T.c.fact 37 (f := .glo "_law_draw") rfl)
theorem g_Lone (T : Tx w K mg) : mg "_law_one" = some (.ref (He.ga K "_law_one")) := by
  obtain ⟨h, X, G⟩ := T.kin
  exact He.glo_ok X G (T.c.fact 38 (f := .glo "_law_one") rfl)
theorem g_Lsaid (T : Tx w K mg) : mg "_law_said" = some (.ref (He.ga K "_law_said")) := by
  obtain ⟨h, X, G⟩ := T.kin
  exact He.glo_ok X G (T.c.fact 39 (f := .glo "_law_said") rfl)
theorem g_Lwords (T : Tx w K mg) : mg "_law_words" = some (.ref (He.ga K "_law_words")) := by
  obtain ⟨h, X, G⟩ := T.kin
  exact He.glo_ok X G (T.c.fact 40 (f := .glo "_law_words") rfl)
theorem g_Lcall (T : Tx w K mg) : mg "_law_call" = some (.ref (He.ga K "_law_call")) := by
  obtain ⟨h, X, G⟩ := T.kin
  exact He.glo_ok X G (T.c.fact 41 (f := .glo "_law_call") rfl)
theorem g_Lcall_right (T : Tx w K mg) : mg "_law_call_right" = some (.ref (He.ga K "_law_call_right")) := by
  obtain ⟨h, X, G⟩ := T.kin
  exact He.glo_ok X G (T.c.fact 42 (f := .glo "_law_call_right") rfl)
theorem g_law (T : Tx w K mg) : mg "law" = some (.ref (He.ga K "law")) := by
  obtain ⟨h, X, G⟩ := T.kin
  exact He.glo_ok X G (T.c.fact 43 (f := .glo "law") rfl)
theorem g_WORDS_ALONE (T : Tx w K mg) : mg "WORDS_ALONE" = some (.ref (He.ga K "WORDS_ALONE")) := by
  obtain ⟨h, X, G⟩ := T.kin
  exact He.glo_ok X G (T.c.fact 44 (f := .glo "WORDS_ALONE") rfl)
theorem g_LONGER_BY (T : Tx w K mg) : mg "LONGER_BY" = some (.ref (He.ga K "LONGER_BY")) := by
  obtain ⟨h, X, G⟩ := T.kin
  exact He.glo_ok X G (T.c.fact 45 (f := .glo "LONGER_BY") rfl)
theorem g_BROKEN_ALONE (T : Tx w K mg) : mg "BROKEN_ALONE" = some (.ref (He.ga K "BROKEN_ALONE")) := by
  obtain ⟨h, X, G⟩ := T.kin
  exact He.glo_ok X G (T.c.fact 46 (f := .glo "BROKEN_ALONE") rfl)
theorem g_RANKS (T : Tx w K mg) : mg "RANKS" = some (.ref (He.ga K "RANKS")) := by
  obtain ⟨h, X, G⟩ := T.kin
  exact He.glo_ok X G (T.c.fact 47 (f := .glo "RANKS") rfl)
theorem g_OPERATOR_WORDS (T : Tx w K mg) : mg "OPERATOR_WORDS" = some (.ref (He.ga K "OPERATOR_WORDS")) := by
  obtain ⟨h, X, G⟩ := T.kin
  exact He.glo_ok X G (T.c.fact 48 (f := .glo "OPERATOR_WORDS") rfl)
theorem g_OPERATOR_OF_SIGN (T : Tx w K mg) : mg "OPERATOR_OF_SIGN" = some (.ref (He.ga K "OPERATOR_OF_SIGN")) := by
  obtain ⟨h, X, G⟩ := T.kin
  exact He.glo_ok X G (T.c.fact 49 (f := .glo "OPERATOR_OF_SIGN") rfl)
theorem g_AXES (T : Tx w K mg) : mg "AXES" = some (.ref (He.ga K "AXES")) := by
  obtain ⟨h, X, G⟩ := T.kin
  exact He.glo_ok X G (T.c.fact 50 (f := .glo "AXES") rfl)
theorem g_KINDS (T : Tx w K mg) : mg "KINDS" = some (.ref (He.ga K "KINDS")) := by
  obtain ⟨h, X, G⟩ := T.kin
  exact He.glo_ok X G (T.c.fact 51 (f := .glo "KINDS") rfl)
theorem g_KIND_WORDS (T : Tx w K mg) : mg "KIND_WORDS" = some (.ref (He.ga K "KIND_WORDS")) := by
  obtain ⟨h, X, G⟩ := T.kin
  exact He.glo_ok X G (T.c.fact 52 (f := .glo "KIND_WORDS") rfl)
theorem g_FUNCTIONS (T : Tx w K mg) : mg "FUNCTIONS" = some (.ref (He.ga K "FUNCTIONS")) := by
  obtain ⟨h, X, G⟩ := T.kin
  exact He.glo_ok X G (T.c.fact 53 (f := .glo "FUNCTIONS") rfl)
theorem g_ANYTHING_BELOW (T : Tx w K mg) : mg "ANYTHING_BELOW" = some (.ref (He.ga K "ANYTHING_BELOW")) := by
  obtain ⟨h, X, G⟩ := T.kin
  exact He.glo_ok X G (T.c.fact 54 (f := .glo "ANYTHING_BELOW") rfl)
theorem g_HERE (T : Tx w K mg) : mg "HERE" = some (.ref (He.ga K "HERE")) := by
  obtain ⟨h, X, G⟩ := T.kin
  exact He.glo_ok X G (T.c.fact 55 (f := .glo "HERE") rfl)
theorem g_ABOVE (T : Tx w K mg) : mg "ABOVE" = some (.ref (He.ga K "ABOVE")) := by
  obtain ⟨h, X, G⟩ := T.kin
  exact He.glo_ok X G (T.c.fact 56 (f := .glo "ABOVE") rfl)
theorem g_BEHIND_OTHER_NAMES (T : Tx w K mg) : mg "BEHIND_OTHER_NAMES" = some (.ref (He.ga K "BEHIND_OTHER_NAMES")) := by
  obtain ⟨h, X, G⟩ := T.kin
  exact He.glo_ok X G (T.c.fact 57 (f := .glo "BEHIND_OTHER_NAMES") rfl)
theorem g_LITERALS (T : Tx w K mg) : mg "LITERALS" = some (.ref (He.ga K "LITERALS")) := by
  obtain ⟨h, X, G⟩ := T.kin
  exact He.glo_ok X G (T.c.fact 58 (f := .glo "LITERALS") rfl)
theorem g_BEHIND_LONGER_PATHS (T : Tx w K mg) : mg "BEHIND_LONGER_PATHS" = some (.ref (He.ga K "BEHIND_LONGER_PATHS")) := by
  obtain ⟨h, X, G⟩ := T.kin
  exact He.glo_ok X G (T.c.fact 59 (f := .glo "BEHIND_LONGER_PATHS") rfl)
theorem g_LIKE_TESTS (T : Tx w K mg) : mg "LIKE_TESTS" = some (.ref (He.ga K "LIKE_TESTS")) := by
  obtain ⟨h, X, G⟩ := T.kin
  exact He.glo_ok X G (T.c.fact 60 (f := .glo "LIKE_TESTS") rfl)
theorem n_abs (T : Tx w K mg) : mg "abs" = none := by
  obtain ⟨h, X, G⟩ := T.kin
  exact He.free_ok X G (T.c.fact 61 (f := .free "abs") rfl)
theorem n_enumerate (T : Tx w K mg) : mg "enumerate" = none := by
  obtain ⟨h, X, G⟩ := T.kin
  exact He.free_ok X G (T.c.fact 62 (f := .free "enumerate") rfl)
theorem n_int (T : Tx w K mg) : mg "int" = none := by
  obtain ⟨h, X, G⟩ := T.kin
  exact He.free_ok X G (T.c.fact 63 (f := .free "int") rfl)
theorem n_isinstance (T : Tx w K mg) : mg "isinstance" = none := by
  obtain ⟨h, X, G⟩ := T.kin
  exact He.free_ok X G (T.c.fact 64 (f := .free "isinstance") rfl)
theorem n_len (T : Tx w K mg) : mg "len" = none := by
  obtain ⟨h, X, G⟩ := T.kin
  exact He.free_ok X G (T.c.fact 65 (f := .free "len") rfl)
theorem n_max (T : Tx w K mg) : mg "max" = none := by
  obtain ⟨h, X, G⟩ := T.kin
  exact He.free_ok X G (T.c.fact 66 (f := .free "max") rfl)
theorem n_min (T : Tx w K mg) : mg "min" = none := by
  obtain ⟨h, X, G⟩ := T.kin
  exact He.free_ok X G (T.c.fact 67 (f := .free "min") rfl)
theorem n_range (T : Tx w K mg) : mg "range" = none := by
  obtain ⟨h, X, G⟩ := T.kin
  exact He.free_ok X G (T.c.fact 68 (f := .free "range") rfl)
theorem n_str (T : Tx w K mg) : mg "str" = none := by
  obtain ⟨h, X, G⟩ := T.kin
  exact He.free_ok X G (T.c.fact 69 (f := .free "str") rfl)
theorem n_tuple (T : Tx w K mg) : mg "tuple" = none := by
  obtain ⟨h, X, G⟩ := T.kin
  exact He.free_ok X G (T.c.fact 70 (f := .free "tuple") rfl)
theorem c_BLANKS (T : Tx w K mg) : ∃ t, mg "BLANKS" = some (.str " \t\n" t) := by
  obtain ⟨h, X, G⟩ := T.kin
  exact He.str_ok X G (T.c.fact 71 (f := .str "BLANKS" " \t\n") rfl)
theorem c_DIGITS (T : Tx w K mg) : ∃ t, mg "DIGITS" = some (.str "0123456789" t) := by
  obtain ⟨h, X, G⟩ := T.kin
  exact He.str_ok X G (T.c.fact 72 (f := .str "DIGITS" "0123456789") rfl)
theorem c_FIRST_SIGNS (T : Tx w K mg) : ∃ t, mg "FIRST_SIGNS" = some (.str "_ABCDEFGHIJKLMNOPQRSTUVWXYZabcdefghijklmnopqrstuvwxyz" t) := by
  obtain ⟨h, X, G⟩ := T.kin
  exact He.str_ok X G (T.c.fact 73 (f := .str "FIRST_SIGNS" "_ABCDEFGHIJKLMNOPQRSTUVWXYZabcdefghijklmnopqrstuvwxyz") rfl)
theorem c_LONE_SIGNS (T : Tx w K mg) : ∃ t, mg "LONE_SIGNS" = some (.str "@$*|+-=()[]," t) := by
  obtain ⟨h, X, G⟩ := T.kin
  exact He.str_ok X G (T.c.fact 74 (f := .str "LONE_SIGNS" "@$*|+-=()[],") rfl)
theorem c_PIECE (T : Tx w K mg) : ∃ t, mg "PIECE" = some (.int 32 t) := by
  obtain ⟨h, X, G⟩ := T.kin
  exact He.int_ok X G (T.c.fact 75 (f := .int "PIECE" 32) rfl)
theorem cls_PathReader (T : Tx w K mg) : Cls K (He.ga K "PathReader") := He.cls_ok (T.c.fact 76 (f := .cls "PathReader") rfl)
theorem mk_PathReader (T : Tx w K mg) : Mk K (He.ga K "PathReader") (He.fAd K d_PathReader_init.at_) := He.mkr_ok (T.c.fact 77 (f := .mkr "PathReader") rfl)
theorem na_PathReader_text (T : Tx w K mg) : NoAttr K (He.ga K "PathReader") "text" := He.noat_ok (T.c.fact 78 (f := .noat "PathReader" "text") rfl)
theorem na_PathReader_closed (T : Tx w K mg) : NoAttr K (He.ga K "PathReader") "closed" := He.noat_ok (T.c.fact 79 (f := .noat "PathReader" "closed") rfl)
theorem na_PathReader_tokens (T : Tx w K mg) : NoAttr K (He.ga K "PathReader") "tokens" := He.noat_ok (T.c.fact 80 (f := .noat "PathReader" "tokens") rfl)
theorem na_PathReader_kinds (T : Tx w K mg) : NoAttr K (He.ga K "PathReader") "kinds" := He.noat_ok (T.c.fact 81 (f := .noat "PathReader" "kinds") rfl)
theorem na_PathReader_at (T : Tx w K mg) : NoAttr K (He.ga K "PathReader") "at" := He.noat_ok (T.c.fact 82 (f := .noat "PathReader" "at") rfl)
theorem m_PathReader_peek (T : Tx w K mg) : Meth K (He.ga K "PathReader") "peek" (He.fAd K d_PathReader_peek.at_) := He.meth_ok (T.c.fact 83 (f := .meth "PathReader" "peek") rfl)
theorem m_PathReader_peek_behind (T : Tx w K mg) : Meth K (He.ga K "PathReader") "peek_behind" (He.fAd K d_PathReader_peek_behind.at_) := He.meth_ok (T.c.fact 84 (f := .meth "PathReader" "peek_behind") rfl)
theorem m_PathReader_take (T : Tx w K mg) : Meth K (He.ga K "PathReader") "take" (He.fAd K d_PathReader_take.at_) := He.meth_ok (T.c.fact 85 (f := .meth "PathReader" "take") rfl)
theorem m_PathReader_read_path (T : Tx w K mg) : Meth K (He.ga K "PathReader") "read_path" (He.fAd K d_PathReader_read_path.at_) := He.meth_ok (T.c.fact 86 (f := .meth "PathReader" "read_path") rfl)
theorem m_PathReader_read_expression (T : Tx w K mg) : Meth K (He.ga K "PathReader") "read_expression" (He.fAd K d_PathReader_read_expression.at_) := He.meth_ok (T.c.fact 87 (f := .meth "PathReader" "read_expression") rfl)
theorem m_PathReader_operator_word (T : Tx w K mg) : Meth K (He.ga K "PathReader") "operator_word" (He.fAd K d_PathReader_operator_word.at_) := He.meth_ok (T.c.fact 88 (f := .meth "PathReader" "operator_word") rfl)
theorem m_PathReader_end_behind_operand (T : Tx w K mg) : Meth K (He.ga K "PathReader") "end_behind_operand" (He.fAd K d_PathReader_end_behind_operand.at_) := He.meth_ok (T.c.fact 89 (f := .meth "PathReader" "end_behind_operand") rfl)
theorem m_PathReader_expect_behind_operand (T : Tx w K mg) : Meth K (He.ga K "PathReader") "expect_behind_operand" (He.fAd K d_PathReader_expect_behind_operand.at_) := He.meth_ok (T.c.fact 90 (f := .meth "PathReader" "expect_behind_operand") rfl)
theorem m_PathReader_expect (T : Tx w K mg) : Meth K (He.ga K "PathReader") "expect" (He.fAd K d_PathReader_expect.at_) := He.meth_ok (T.c.fact 91 (f := .meth "PathReader" "expect") rfl)
theorem m_PathReader_read_operand (T : Tx w K mg) : Meth K (He.ga K "PathReader") "read_operand" (He.fAd K d_PathReader_read_operand.at_) := He.meth_ok (T.c.fact 92 (f := .meth "PathReader" "read_operand") rfl)
theorem m_PathReader_read_literal (T : Tx w K mg) : Meth K (He.ga K "PathReader") "read_literal" (He.fAd K d_PathReader_read_literal.at_) := He.meth_ok (T.c.fact 93 (f := .meth "PathReader" "read_literal") rfl)
theorem m_PathReader_text_of_literal (T : Tx w K mg) : Meth K (He.ga K "PathReader") "text_of_literal" (He.fAd K d_PathReader_text_of_literal.at_) := He.meth_ok (T.c.fact 94 (f := .meth "PathReader" "text_of_literal") rfl)
theorem m_PathReader_read_variable (T : Tx w K mg) : Meth K (He.ga K "PathReader") "read_variable" (He.fAd K d_PathReader_read_variable.at_) := He.meth_ok (T.c.fact 95 (f := .meth "PathReader" "read_variable") rfl)
theorem m_PathReader_is_function (T : Tx w K mg) : Meth K (He.ga K "PathReader") "is_function" (He.fAd K d_PathReader_is_function.at_) := He.meth_ok (T.c.fact 96 (f := .meth "PathReader" "is_function") rfl)
theorem m_PathReader_read_call (T : Tx w K mg) : Meth K (He.ga K "PathReader") "read_call" (He.fAd K d_PathReader_read_call.at_) := He.meth_ok (T.c.fact 97 (f := .meth "PathReader" "read_call") rfl)
theorem m_PathReader_read_behind (T : Tx w K mg) : Meth K (He.ga K "PathReader") "read_behind" (He.fAd K d_PathReader_read_behind.at_) := He.meth_ok (T.c.fact 98 (f := .meth "PathReader" "read_behind") rfl)
theorem m_PathReader_read_slash (T : Tx w K mg) : Meth K (He.ga K "PathReader") "read_slash" (He.fAd K d_PathReader_read_slash.at_) := He.meth_ok (T.c.fact 99 (f := .meth "PathReader" "read_slash") rfl)
theorem m_PathReader_read_rooted (T : Tx w K mg) : Meth K (He.ga K "PathReader") "read_rooted" (He.fAd K d_PathReader_read_rooted.at_) := He.meth_ok (T.c.fact 100 (f := .meth "PathReader" "read_rooted") rfl)
theorem m_PathReader_begins_step (T : Tx w K mg) : Meth K (He.ga K "PathReader") "begins_step" (He.fAd K d_PathReader_begins_step.at_) := He.meth_ok (T.c.fact 101 (f := .meth "PathReader" "begins_step") rfl)
theorem m_PathReader_read_steps (T : Tx w K mg) : Meth K (He.ga K "PathReader") "read_steps" (He.fAd K d_PathReader_read_steps.at_) := He.meth_ok (T.c.fact 102 (f := .meth "PathReader" "read_steps") rfl)
theorem m_PathReader_read_step (T : Tx w K mg) : Meth K (He.ga K "PathReader") "read_step" (He.fAd K d_PathReader_read_step.at_) := He.meth_ok (T.c.fact 103 (f := .meth "PathReader" "read_step") rfl)
theorem m_PathReader_read_step_with (T : Tx w K mg) : Meth K (He.ga K "PathReader") "read_step_with" (He.fAd K d_PathReader_read_step_with.at_) := He.meth_ok (T.c.fact 104 (f := .meth "PathReader" "read_step_with") rfl)
theorem m_PathReader_read_axis (T : Tx w K mg) : Meth K (He.ga K "PathReader") "read_axis" (He.fAd K d_PathReader_read_axis.at_) := He.meth_ok (T.c.fact 105 (f := .meth "PathReader" "read_axis") rfl)
theorem m_PathReader_read_test (T : Tx w K mg) : Meth K (He.ga K "PathReader") "read_test" (He.fAd K d_PathReader_read_test.at_) := He.meth_ok (T.c.fact 106 (f := .meth "PathReader" "read_test") rfl)
theorem m_PathReader_read_kind (T : Tx w K mg) : Meth K (He.ga K "PathReader") "read_kind" (He.fAd K d_PathReader_read_kind.at_) := He.meth_ok (T.c.fact 107 (f := .meth "PathReader" "read_kind") rfl)
theorem m_PathReader_check_colon (T : Tx w K mg) : Meth K (He.ga K "PathReader") "check_colon" (He.fAd K d_PathReader_check_colon.at_) := He.meth_ok (T.c.fact 108 (f := .meth "PathReader" "check_colon") rfl)
theorem m_PathReader_read_predicates (T : Tx w K mg) : Meth K (He.ga K "PathReader") "read_predicates" (He.fAd K d_PathReader_read_predicates.at_) := He.meth_ok (T.c.fact 109 (f := .meth "PathReader" "read_predicates") rfl)
theorem na_TreeError_why (T : Tx w K mg) : NoAttr K (He.ga K "TreeError") "why" := He.noat_ok (T.c.fact 110 (f := .noat "TreeError" "why") rfl)
theorem exm_BadValue_BadValue (T : Tx w K mg) : PySem.W.exmOne K (.ref (He.ga K "BadValue")) (.ref (He.ga K "BadValue")) = some true := He.exm_ok (T.c.fact 111 (f := .exm "BadValue" "BadValue" true) rfl)
theorem exm_BadValue_TreeError (T : Tx w K mg) : PySem.W.exmOne K (.ref (He.ga K "BadValue")) (.ref (He.ga K "TreeError")) = some true := He.exm_ok (T.c.fact 112 (f := .exm "BadValue" "TreeError" true) rfl)
theorem na_BadValue_why (T : Tx w K mg) : NoAttr K (He.ga K "BadValue") "why" := He.noat_ok (T.c.fact 113 (f := .noat "BadValue" "why") rfl)
theorem exm_NotPath_NotPath (T : Tx w K mg) : PySem.W.exmOne K (.ref (He.ga K "NotPath")) (.ref (He.ga K "NotPath")) = some true := He.exm_ok (T.c.fact 114 (f := .exm "NotPath" "NotPath" true) rfl)
theorem exm_NotPath_TreeError (T : Tx w K mg) : PySem.W.exmOne K (.ref (He.ga K "NotPath")) (.ref (He.ga K "TreeError")) = some true := He.exm_ok (T.c.fact 115 (f := .exm "NotPath" "TreeError" true) rfl)
theorem na_NotPath_why (T : Tx w K mg) : NoAttr K (He.ga K "NotPath") "why" := He.noat_ok (T.c.fact 116 (f := .noat "NotPath" "why") rfl)
theorem na_NotPath_at (T : Tx w K mg) : NoAttr K (He.ga K "NotPath") "at" := He.noat_ok (T.c.fact 117 (f := .noat "NotPath" "at") rfl)
theorem f_TreeError_init (T : Tx w K mg) : ∃ fd, FnP K d_TreeError_init fd := T.c.def_ 0 (d := d_TreeError_init) rfl
abbrev p_TreeError_init : List Str := ["self", "why"]
abbrev N_TreeError_init : List Str := ["self", "why"]
theorem sc_TreeError_init : FnScope N_TreeError_init p_TreeError_init (defScope s_TreeError_init) := ⟨rfl, rfl, rfl, by decide +kernel, rfl, by decide +kernel, by decide +kernel⟩
theorem f_BadValue_init (T : Tx w K mg) : ∃ fd, FnP K d_BadValue_init fd := T.c.def_ 1 (d := d_BadValue_init) rfl
abbrev p_BadValue_init : List Str := ["self", "why"]
abbrev N_BadValue_init : List Str := ["self", "why"]
theorem sc_BadValue_init : FnScope N_BadValue_init p_BadValue_init (defScope s_BadValue_init) := ⟨rfl, rfl, rfl, by decide +kernel, rfl, by decide +kernel, by decide +kernel⟩
theorem f_NotPath_init (T : Tx w K mg) : ∃ fd, FnP K d_NotPath_init fd := T.c.def_ 2 (d := d_NotPath_init) rfl
abbrev p_NotPath_init : List Str := ["self", "at"]
abbrev N_NotPath_init : List Str := ["self", "at"]
theorem sc_NotPath_init : FnScope N_NotPath_init p_NotPath_init (defScope s_NotPath_init) := ⟨rfl, rfl, rfl, by decide +kernel, rfl, by decide +kernel, by decide +kernel⟩
theorem b_NotPath_init {fd : FuncData} (F : FnP K d_NotPath_init fd) : Binds K fd p_NotPath_init [] := FunD.bindsN F fun _ _ _ _ _ _ us hl => match us, hl with | [_, _], _ => rfl
theorem f_end_of_run (T : Tx w K mg) : ∃ fd, FnP K d_end_of_run fd := T.c.def_ 3 (d := d_end_of_run) rfl
abbrev p_end_of_run : List Str := ["text", "at", "signs"]
abbrev N_end_of_run : List Str := ["text", "at", "signs", "piece", "rest"]
theorem sc_end_of_run : FnScope N_end_of_run p_end_of_run (defScope s_end_of_run) := ⟨rfl, rfl, rfl, by decide +kernel, rfl, by decide +kernel, by decide +kernel⟩
theorem b_end_of_run {fd : FuncData} (F : FnP K d_end_of_run fd) : Binds K fd p_end_of_run [] := FunD.bindsN F fun _ _ _ _ _ _ us hl => match us, hl with | [_, _, _], _ => rfl
theorem f_words_alone (T : Tx w K mg) : ∃ fd, FnP K d_words_alone fd := T.c.def_ 4 (d := d_words_alone) rfl
abbrev p_words_alone : List Str := ["text"]
abbrev N_words_alone : List Str := ["text"]
theorem sc_words_alone : FnScope N_words_alone p_words_alone (defScope s_words_alone) := ⟨rfl, rfl, rfl, by decide +kernel, rfl, by decide +kernel, by decide +kernel⟩
theorem b_words_alone {fd : FuncData} (F : FnP K d_words_alone fd) : Binds K fd p_words_alone [] := FunD.bindsN F fun _ _ _ _ _ _ us hl => match us, hl with | [_], _ => rfl
theorem f_is_sign (T : Tx w K mg) : ∃ fd, FnP K d_is_sign fd := T.c.def_ 5 (d := d_is_sign) rfl
abbrev p_is_sign : List Str := ["character"]
abbrev N_is_sign : List Str := ["character"]
theorem sc_is_sign : FnScope N_is_sign p_is_sign (defScope s_is_sign) := ⟨rfl, rfl, rfl, by decide +kernel, rfl, by decide +kernel, by decide +kernel⟩
theorem b_is_sign {fd : FuncData} (F : FnP K d_is_sign fd) : Binds K fd p_is_sign [] := FunD.bindsN F fun _ _ _ _ _ _ us hl => match us, hl with | [_], _ => rfl
theorem f_end_of_signs (T : Tx w K mg) : ∃ fd, FnP K d_end_of_signs fd := T.c.def_ 6 (d := d_end_of_signs) rfl
abbrev p_end_of_signs : List Str := ["text"]
abbrev N_end_of_signs : List Str := ["text", "at", "character"]
theorem sc_end_of_signs : FnScope N_end_of_signs p_end_of_signs (defScope s_end_of_signs) := ⟨rfl, rfl, rfl, by decide +kernel, rfl, by decide +kernel, by decide +kernel⟩
theorem b_end_of_signs {fd : FuncData} (F : FnP K d_end_of_signs fd) : Binds K fd p_end_of_signs [] := FunD.bindsN F fun _ _ _ _ _ _ us hl => match us, hl with | [_], _ => rfl
theorem f_is_plain (T : Tx w K mg) : ∃ fd, FnP K d_is_plain fd := T.c.def_ 7 (d := d_is_plain) rfl
abbrev p_is_plain : List Str := ["text"]
abbrev N_is_plain : List Str := ["text"]
theorem sc_is_plain : FnScope N_is_plain p_is_plain (defScope s_is_plain) := ⟨rfl, rfl, rfl, by decide +kernel, rfl, by decide +kernel, by decide +kernel⟩
theorem b_is_plain {fd : FuncData} (F : FnP K d_is_plain fd) : Binds K fd p_is_plain [] := FunD.bindsN F fun _ _ _ _ _ _ us hl => match us, hl with | [_], _ => rfl
theorem f_begins_word (T : Tx w K mg) : ∃ fd, FnP K d_begins_word fd := T.c.def_ 8 (d := d_begins_word) rfl
abbrev p_begins_word : List Str := ["sign"]
abbrev N_begins_word : List Str := ["sign"]
theorem sc_begins_word : FnScope N_begins_word p_begins_word (defScope s_begins_word) := ⟨rfl, rfl, rfl, by decide +kernel, rfl, by decide +kernel, by decide +kernel⟩
theorem b_begins_word {fd : FuncData} (F : FnP K d_begins_word fd) : Binds K fd p_begins_word [] := FunD.bindsN F fun _ _ _ _ _ _ us hl => match us, hl with | [_], _ => rfl
theorem f_tokens_in (T : Tx w K mg) : ∃ fd, FnP K d_tokens_in fd := T.c.def_ 9 (d := d_tokens_in) rfl
abbrev p_tokens_in : List Str := ["text"]
abbrev N_tokens_in : List Str := ["text", "size", "found", "words", "at", "sign", "end", "word", "token"]
theorem sc_tokens_in : FnScope N_tokens_in p_tokens_in (defScope s_tokens_in) := ⟨rfl, rfl, rfl, by decide +kernel, rfl, by decide +kernel, by decide +kernel⟩
theorem b_tokens_in {fd : FuncData} (F : FnP K d_tokens_in fd) : Binds K fd p_tokens_in [] := FunD.bindsN F fun _ _ _ _ _ _ us hl => match us, hl with | [_], _ => rfl
theorem f_tokens_ahead_of_end (T : Tx w K mg) : ∃ fd, FnP K d_tokens_ahead_of_end fd := T.c.def_ 10 (d := d_tokens_ahead_of_end) rfl
abbrev p_tokens_ahead_of_end : List Str := ["text", "size"]
abbrev N_tokens_ahead_of_end : List Str := ["text", "size", "found"]
theorem sc_tokens_ahead_of_end : FnScope N_tokens_ahead_of_end p_tokens_ahead_of_end (defScope s_tokens_ahead_of_end) := ⟨rfl, rfl, rfl, by decide +kernel, rfl, by decide +kernel, by decide +kernel⟩
theorem b_tokens_ahead_of_end {fd : FuncData} (F : FnP K d_tokens_ahead_of_end fd) : Binds K fd p_tokens_ahead_of_end [] := FunD.bindsN F fun _ _ _ _ _ _ us hl => match us, hl with | [_, _], _ => rfl
theorem f_token_at (T : Tx w K mg) : ∃ fd, FnP K d_token_at fd := T.c.def_ 11 (d := d_token_at) rfl
abbrev p_token_at : List Str := ["text", "at", "end"]
abbrev N_token_at : List Str := ["text", "at", "end", "sign", "word", "behind"]
theorem sc_token_at : FnScope N_token_at p_token_at (defScope s_token_at) := ⟨rfl, rfl, rfl, by decide +kernel, rfl, by decide +kernel, by decide +kernel⟩
theorem b_token_at {fd : FuncData} (F : FnP K d_token_at fd) : Binds K fd p_token_at [] := FunD.bindsN F fun _ _ _ _ _ _ us hl => match us, hl with | [_, _, _], _ => rfl
theorem f_end_of_digits (T : Tx w K mg) : ∃ fd, FnP K d_end_of_digits fd := T.c.def_ 12 (d := d_end_of_digits) rfl
abbrev p_end_of_digits : List Str := ["text", "at"]
abbrev N_end_of_digits : List Str := ["text", "at"]
theorem sc_end_of_digits : FnScope N_end_of_digits p_end_of_digits (defScope s_end_of_digits) := ⟨rfl, rfl, rfl, by decide +kernel, rfl, by decide +kernel, by decide +kernel⟩
theorem b_end_of_digits {fd : FuncData} (F : FnP K d_end_of_digits fd) : Binds K fd p_end_of_digits [] := FunD.bindsN F fun _ _ _ _ _ _ us hl => match us, hl with | [_, _], _ => rfl
theorem f_end_of_number (T : Tx w K mg) : ∃ fd, FnP K d_end_of_number fd := T.c.def_ 13 (d := d_end_of_number) rfl
abbrev p_end_of_number : List Str := ["text", "at"]
abbrev N_end_of_number : List Str := ["text", "at", "end"]
theorem sc_end_of_number : FnScope N_end_of_number p_end_of_number (defScope s_end_of_number) := ⟨rfl, rfl, rfl, by decide +kernel, rfl, by decide +kernel, by decide +kernel⟩
theorem b_end_of_number {fd : FuncData} (F : FnP K d_end_of_number fd) : Binds K fd p_end_of_number [] := FunD.bindsN F fun _ _ _ _ _ _ us hl => match us, hl with | [_, _], _ => rfl
theorem f_quoted_token (T : Tx w K mg) : ∃ fd, FnP K d_quoted_token fd := T.c.def_ 14 (d := d_quoted_token) rfl
abbrev p_quoted_token : List Str := ["text", "at"]
abbrev N_quoted_token : List Str := ["text", "at", "end"]
theorem sc_quoted_token : FnScope N_quoted_token p_quoted_token (defScope s_quoted_token) := ⟨rfl, rfl, rfl, by decide +kernel, rfl, by decide +kernel, by decide +kernel⟩
theorem b_quoted_token {fd : FuncData} (F : FnP K d_quoted_token fd) : Binds K fd p_quoted_token [] := FunD.bindsN F fun _ _ _ _ _ _ us hl => match us, hl with | [_, _], _ => rfl
theorem f_PathReader_init (T : Tx w K mg) : ∃ fd, FnP K d_PathReader_init fd := T.c.def_ 15 (d := d_PathReader_init) rfl
abbrev p_PathReader_init : List Str := ["self", "text", "closed"]
abbrev N_PathReader_init : List Str := ["self", "text", "closed", "token"]
theorem sc_PathReader_init : FnScope N_PathReader_init p_PathReader_init (defScope s_PathReader_init) := ⟨rfl, rfl, rfl, by decide +kernel, rfl, by decide +kernel, by decide +kernel⟩
theorem b_PathReader_init {fd : FuncData} (F : FnP K d_PathReader_init fd) : Binds K fd p_PathReader_init [] := FunD.bindsN F fun _ _ _ _ _ _ us hl => match us, hl with | [_, _, _], _ => rfl
theorem f_PathReader_peek (T : Tx w K mg) : ∃ fd, FnP K d_PathReader_peek fd := T.c.def_ 16 (d := d_PathReader_peek) rfl
abbrev p_PathReader_peek : List Str := ["self"]
abbrev N_PathReader_peek : List Str := ["self"]
theorem sc_PathReader_peek : FnScope N_PathReader_peek p_PathReader_peek (defScope s_PathReader_peek) := ⟨rfl, rfl, rfl, by decide +kernel, rfl, by decide +kernel, by decide +kernel⟩
theorem b_PathReader_peek {fd : FuncData} (F : FnP K d_PathReader_peek fd) : Binds K fd p_PathReader_peek [] := FunD.bindsN F fun _ _ _ _ _ _ us hl => match us, hl with | [_], _ => rfl
theorem f_PathReader_peek_behind (T : Tx w K mg) : ∃ fd, FnP K d_PathReader_peek_behind fd := T.c.def_ 17 (d := d_PathReader_peek_behind) rfl
abbrev p_PathReader_peek_behind : List Str := ["self"]
abbrev N_PathReader_peek_behind : List Str := ["self"]
theorem sc_PathReader_peek_behind : FnScope N_PathReader_peek_behind p_PathReader_peek_behind (defScope s_PathReader_peek_behind) := ⟨rfl, rfl, rfl, by decide +kernel, rfl, by decide +kernel, by decide +kernel⟩
theorem b_PathReader_peek_behind {fd : FuncData} (F : FnP K d_PathReader_peek_behind fd) : Binds K fd p_PathReader_peek_behind [] := FunD.bindsN F fun _ _ _ _ _ _ us hl => match us, hl with | [_], _ => rfl
theorem f_PathReader_take (T : Tx w K mg) : ∃ fd, FnP K d_PathReader_take fd := T.c.def_ 18 (d := d_PathReader_take) rfl
abbrev p_PathReader_take : List Str := ["self"]
abbrev N_PathReader_take : List Str := ["self", "token"]
theorem sc_PathReader_take : FnScope N_PathReader_take p_PathReader_take (defScope s_PathReader_take) := ⟨rfl, rfl, rfl, by decide +kernel, rfl, by decide +kernel, by decide +kernel⟩
theorem b_PathReader_take {fd : FuncData} (F : FnP K d_PathReader_take fd) : Binds K fd p_PathReader_take [] := FunD.bindsN F fun _ _ _ _ _ _ us hl => match us, hl with | [_], _ => rfl
theorem f_PathReader_read_path (T : Tx w K mg) : ∃ fd, FnP K d_PathReader_read_path fd := T.c.def_ 19 (d := d_PathReader_read_path) rfl
abbrev p_PathReader_read_path : List Str := ["self"]
abbrev N_PathReader_read_path : List Str := ["self", "tree"]
theorem sc_PathReader_read_path : FnScope N_PathReader_read_path p_PathReader_read_path (defScope s_PathReader_read_path) := ⟨rfl, rfl, rfl, by decide +kernel, rfl, by decide +kernel, by decide +kernel⟩
theorem b_PathReader_read_path {fd : FuncData} (F : FnP K d_PathReader_read_path fd) : Binds K fd p_PathReader_read_path [] := FunD.bindsN F fun _ _ _ _ _ _ us hl => match us, hl with | [_], _ => rfl
theorem f_PathReader_read_expression (T : Tx w K mg) : ∃ fd, FnP K d_PathReader_read_expression fd := T.c.def_ 20 (d := d_PathReader_read_expression) rfl
abbrev p_PathReader_read_expression : List Str := ["self"]
abbrev N_PathReader_read_expression : List Str := ["self", "operands", "waiting", "kinds", "kind", "word", "rank"]
theorem sc_PathReader_read_expression : FnScope N_PathReader_read_expression p_PathReader_read_expression (defScope s_PathReader_read_expression) := ⟨rfl, rfl, rfl, by decide +kernel, rfl, by decide +kernel, by decide +kernel⟩
theorem b_PathReader_read_expression {fd : FuncData} (F : FnP K d_PathReader_read_expression fd) : Binds K fd p_PathReader_read_expression [] := FunD.bindsN F fun _ _ _ _ _ _ us hl => match us, hl with | [_], _ => rfl
theorem f_PathReader_operator_word (T : Tx w K mg) : ∃ fd, FnP K d_PathReader_operator_word fd := T.c.def_ 21 (d := d_PathReader_operator_word) rfl
abbrev p_PathReader_operator_word : List Str := ["self"]
abbrev N_PathReader_operator_word : List Str := ["self", "word"]
theorem sc_PathReader_operator_word : FnScope N_PathReader_operator_word p_PathReader_operator_word (defScope s_PathReader_operator_word) := ⟨rfl, rfl, rfl, by decide +kernel, rfl, by decide +kernel, by decide +kernel⟩
theorem b_PathReader_operator_word {fd : FuncData} (F : FnP K d_PathReader_operator_word fd) : Binds K fd p_PathReader_operator_word [] := FunD.bindsN F fun _ _ _ _ _ _ us hl => match us, hl with | [_], _ => rfl
theorem f_PathReader_end_behind_operand (T : Tx w K mg) : ∃ fd, FnP K d_PathReader_end_behind_operand fd := T.c.def_ 22 (d := d_PathReader_end_behind_operand) rfl
abbrev p_PathReader_end_behind_operand : List Str := ["self"]
abbrev N_PathReader_end_behind_operand : List Str := ["self", "token", "word"]
theorem sc_PathReader_end_behind_operand : FnScope N_PathReader_end_behind_operand p_PathReader_end_behind_operand (defScope s_PathReader_end_behind_operand) := ⟨rfl, rfl, rfl, by decide +kernel, rfl, by decide +kernel, by decide +kernel⟩
theorem b_PathReader_end_behind_operand {fd : FuncData} (F : FnP K d_PathReader_end_behind_operand fd) : Binds K fd p_PathReader_end_behind_operand [] := FunD.bindsN F fun _ _ _ _ _ _ us hl => match us, hl with | [_], _ => rfl
theorem f_PathReader_expect_behind_operand (T : Tx w K mg) : ∃ fd, FnP K d_PathReader_expect_behind_operand fd := T.c.def_ 23 (d := d_PathReader_expect_behind_operand) rfl
abbrev p_PathReader_expect_behind_operand : List Str := ["self", "sign"]
abbrev N_PathReader_expect_behind_operand : List Str := ["self", "sign"]
theorem sc_PathReader_expect_behind_operand : FnScope N_PathReader_expect_behind_operand p_PathReader_expect_behind_operand (defScope s_PathReader_expect_behind_operand) := ⟨rfl, rfl, rfl, by decide +kernel, rfl, by decide +kernel, by decide +kernel⟩
theorem b_PathReader_expect_behind_operand {fd : FuncData} (F : FnP K d_PathReader_expect_behind_operand fd) : Binds K fd p_PathReader_expect_behind_operand [] := FunD.bindsN F fun _ _ _ _ _ _ us hl => match us, hl with | [_, _], _ => rfl
theorem f_PathReader_expect (T : Tx w K mg) : ∃ fd, FnP K d_PathReader_expect fd := T.c.def_ 24 (d := d_PathReader_expect) rfl
abbrev p_PathReader_expect : List Str := ["self", "sign"]
abbrev N_PathReader_expect : List Str := ["self", "sign"]
theorem sc_PathReader_expect : FnScope N_PathReader_expect p_PathReader_expect (defScope s_PathReader_expect) := ⟨rfl, rfl, rfl, by decide +kernel, rfl, by decide +kernel, by decide +kernel⟩
theorem b_PathReader_expect {fd : FuncData} (F : FnP K d_PathReader_expect fd) : Binds K fd p_PathReader_expect [] := FunD.bindsN F fun _ _ _ _ _ _ us hl => match us, hl with | [_, _], _ => rfl
theorem f_PathReader_read_operand (T : Tx w K mg) : ∃ fd, FnP K d_PathReader_read_operand fd := T.c.def_ 25 (d := d_PathReader_read_operand) rfl
abbrev p_PathReader_read_operand : List Str := ["self"]
abbrev N_PathReader_read_operand : List Str := ["self", "kind", "behind", "tree"]
theorem sc_PathReader_read_operand : FnScope N_PathReader_read_operand p_PathReader_read_operand (defScope s_PathReader_read_operand) := ⟨rfl, rfl, rfl, by decide +kernel, rfl, by decide +kernel, by decide +kernel⟩
theorem b_PathReader_read_operand {fd : FuncData} (F : FnP K d_PathReader_read_operand fd) : Binds K fd p_PathReader_read_operand [] := FunD.bindsN F fun _ _ _ _ _ _ us hl => match us, hl with | [_], _ => rfl
theorem f_PathReader_read_literal (T : Tx w K mg) : ∃ fd, FnP K d_PathReader_read_literal fd := T.c.def_ 26 (d := d_PathReader_read_literal) rfl
abbrev p_PathReader_read_literal : List Str := ["self"]
abbrev N_PathReader_read_literal : List Str := ["self", "token"]
theorem sc_PathReader_read_literal : FnScope N_PathReader_read_literal p_PathReader_read_literal (defScope s_PathReader_read_literal) := ⟨rfl, rfl, rfl, by decide +kernel, rfl, by decide +kernel, by decide +kernel⟩
theorem b_PathReader_read_literal {fd : FuncData} (F : FnP K d_PathReader_read_literal fd) : Binds K fd p_PathReader_read_literal [] := FunD.bindsN F fun _ _ _ _ _ _ us hl => match us, hl with | [_], _ => rfl
theorem f_PathReader_text_of_literal (T : Tx w K mg) : ∃ fd, FnP K d_PathReader_text_of_literal fd := T.c.def_ 27 (d := d_PathReader_text_of_literal) rfl
abbrev p_PathReader_text_of_literal : List Str := ["self", "token"]
abbrev N_PathReader_text_of_literal : List Str := ["self", "token"]
theorem sc_PathReader_text_of_literal : FnScope N_PathReader_text_of_literal p_PathReader_text_of_literal (defScope s_PathReader_text_of_literal) := ⟨rfl, rfl, rfl, by decide +kernel, rfl, by decide +kernel, by decide +kernel⟩
theorem b_PathReader_text_of_literal {fd : FuncData} (F : FnP K d_PathReader_text_of_literal fd) : Binds K fd p_PathReader_text_of_literal [] := FunD.bindsN F fun _ _ _ _ _ _ us hl => match us, hl with | [_, _], _ => rfl
theorem f_PathReader_read_variable (T : Tx w K mg) : ∃ fd, FnP K d_PathReader_read_variable fd := T.c.def_ 28 (d := d_PathReader_read_variable) rfl
abbrev p_PathReader_read_variable : List Str := ["self"]
abbrev N_PathReader_read_variable : List Str := ["self", "place", "token"]
theorem sc_PathReader_read_variable : FnScope N_PathReader_read_variable p_PathReader_read_variable (defScope s_PathReader_read_variable) := ⟨rfl, rfl, rfl, by decide +kernel, rfl, by decide +kernel, by decide +kernel⟩
theorem b_PathReader_read_variable {fd : FuncData} (F : FnP K d_PathReader_read_variable fd) : Binds K fd p_PathReader_read_variable [] := FunD.bindsN F fun _ _ _ _ _ _ us hl => match us, hl with | [_], _ => rfl
theorem f_PathReader_is_function (T : Tx w K mg) : ∃ fd, FnP K d_PathReader_is_function fd := T.c.def_ 29 (d := d_PathReader_is_function) rfl
abbrev p_PathReader_is_function : List Str := ["self", "word"]
abbrev N_PathReader_is_function : List Str := ["self", "word"]
theorem sc_PathReader_is_function : FnScope N_PathReader_is_function p_PathReader_is_function (defScope s_PathReader_is_function) := ⟨rfl, rfl, rfl, by decide +kernel, rfl, by decide +kernel, by decide +kernel⟩
theorem b_PathReader_is_function {fd : FuncData} (F : FnP K d_PathReader_is_function fd) : Binds K fd p_PathReader_is_function [] := FunD.bindsN F fun _ _ _ _ _ _ us hl => match us, hl with | [_, _], _ => rfl
theorem f_PathReader_read_call (T : Tx w K mg) : ∃ fd, FnP K d_PathReader_read_call fd := T.c.def_ 30 (d := d_PathReader_read_call) rfl
abbrev p_PathReader_read_call : List Str := ["self"]
abbrev N_PathReader_read_call : List Str := ["self", "word", "least", "most", "trees"]
theorem sc_PathReader_read_call : FnScope N_PathReader_read_call p_PathReader_read_call (defScope s_PathReader_read_call) := ⟨rfl, rfl, rfl, by decide +kernel, rfl, by decide +kernel, by decide +kernel⟩
theorem b_PathReader_read_call {fd : FuncData} (F : FnP K d_PathReader_read_call fd) : Binds K fd p_PathReader_read_call [] := FunD.bindsN F fun _ _ _ _ _ _ us hl => match us, hl with | [_], _ => rfl
theorem f_PathReader_read_behind (T : Tx w K mg) : ∃ fd, FnP K d_PathReader_read_behind fd := T.c.def_ 31 (d := d_PathReader_read_behind) rfl
abbrev p_PathReader_read_behind : List Str := ["self", "tree"]
abbrev N_PathReader_read_behind : List Str := ["self", "tree", "kind", "steps"]
theorem sc_PathReader_read_behind : FnScope N_PathReader_read_behind p_PathReader_read_behind (defScope s_PathReader_read_behind) := ⟨rfl, rfl, rfl, by decide +kernel, rfl, by decide +kernel, by decide +kernel⟩
theorem b_PathReader_read_behind {fd : FuncData} (F : FnP K d_PathReader_read_behind fd) : Binds K fd p_PathReader_read_behind [] := FunD.bindsN F fun _ _ _ _ _ _ us hl => match us, hl with | [_, _], _ => rfl
theorem f_PathReader_read_slash (T : Tx w K mg) : ∃ fd, FnP K d_PathReader_read_slash fd := T.c.def_ 32 (d := d_PathReader_read_slash) rfl
abbrev p_PathReader_read_slash : List Str := ["self"]
abbrev N_PathReader_read_slash : List Str := ["self"]
theorem sc_PathReader_read_slash : FnScope N_PathReader_read_slash p_PathReader_read_slash (defScope s_PathReader_read_slash) := ⟨rfl, rfl, rfl, by decide +kernel, rfl, by decide +kernel, by decide +kernel⟩
theorem b_PathReader_read_slash {fd : FuncData} (F : FnP K d_PathReader_read_slash fd) : Binds K fd p_PathReader_read_slash [] := FunD.bindsN F fun _ _ _ _ _ _ us hl => match us, hl with | [_], _ => rfl
theorem f_PathReader_read_rooted (T : Tx w K mg) : ∃ fd, FnP K d_PathReader_read_rooted fd := T.c.def_ 33 (d := d_PathReader_read_rooted) rfl
abbrev p_PathReader_read_rooted : List Str := ["self"]
abbrev N_PathReader_read_rooted : List Str := ["self", "steps"]
theorem sc_PathReader_read_rooted : FnScope N_PathReader_read_rooted p_PathReader_read_rooted (defScope s_PathReader_read_rooted) := ⟨rfl, rfl, rfl, by decide +kernel, rfl, by decide +kernel, by decide +kernel⟩
theorem b_PathReader_read_rooted {fd : FuncData} (F : FnP K d_PathReader_read_rooted fd) : Binds K fd p_PathReader_read_rooted [] := FunD.bindsN F fun _ _ _ _ _ _ us hl => match us, hl with | [_], _ => rfl
theorem f_PathReader_begins_step (T : Tx w K mg) : ∃ fd, FnP K d_PathReader_begins_step fd := T.c.def_ 34 (d := d_PathReader_begins_step) rfl
abbrev p_PathReader_begins_step : List Str := ["self"]
abbrev N_PathReader_begins_step : List Str := ["self", "kind"]
theorem sc_PathReader_begins_step : FnScope N_PathReader_begins_step p_PathReader_begins_step (defScope s_PathReader_begins_step) := ⟨rfl, rfl, rfl, by decide +kernel, rfl, by decide +kernel, by decide +kernel⟩
theorem b_PathReader_begins_step {fd : FuncData} (F : FnP K d_PathReader_begins_step fd) : Binds K fd p_PathReader_begins_step [] := FunD.bindsN F fun _ _ _ _ _ _ us hl => match us, hl with | [_], _ => rfl
theorem f_PathReader_read_steps (T : Tx w K mg) : ∃ fd, FnP K d_PathReader_read_steps fd := T.c.def_ 35 (d := d_PathReader_read_steps) rfl
abbrev p_PathReader_read_steps : List Str := ["self", "steps"]
abbrev N_PathReader_read_steps : List Str := ["self", "steps", "kind"]
theorem sc_PathReader_read_steps : FnScope N_PathReader_read_steps p_PathReader_read_steps (defScope s_PathReader_read_steps) := ⟨rfl, rfl, rfl, by decide +kernel, rfl, by decide +kernel, by decide +kernel⟩
theorem b_PathReader_read_steps {fd : FuncData} (F : FnP K d_PathReader_read_steps fd) : Binds K fd p_PathReader_read_steps [] := FunD.bindsN F fun _ _ _ _ _ _ us hl => match us, hl with | [_, _], _ => rfl
theorem f_PathReader_read_step (T : Tx w K mg) : ∃ fd, FnP K d_PathReader_read_step fd := T.c.def_ 36 (d := d_PathReader_read_step) rfl
abbrev p_PathReader_read_step : List Str := ["self"]
abbrev N_PathReader_read_step : List Str := ["self", "kind"]
theorem sc_PathReader_read_step : FnScope N_PathReader_read_step p_PathReader_read_step (defScope s_PathReader_read_step) := ⟨rfl, rfl, rfl, by decide +kernel, rfl, by decide +kernel, by decide +kernel⟩
theorem b_PathReader_read_step {fd : FuncData} (F : FnP K d_PathReader_read_step fd) : Binds K fd p_PathReader_read_step [] := FunD.bindsN F fun _ _ _ _ _ _ us hl => match us, hl with | [_], _ => rfl
theorem f_PathReader_read_step_with (T : Tx w K mg) : ∃ fd, FnP K d_PathReader_read_step_with fd := T.c.def_ 37 (d := d_PathReader_read_step_with) rfl
abbrev p_PathReader_read_step_with : List Str := ["self", "axes"]
abbrev N_PathReader_read_step_with : List Str := ["self", "axes", "axis", "test", "predicates"]
theorem sc_PathReader_read_step_with : FnScope N_PathReader_read_step_with p_PathReader_read_step_with (defScope s_PathReader_read_step_with) := ⟨rfl, rfl, rfl, by decide +kernel, rfl, by decide +kernel, by decide +kernel⟩
theorem b_PathReader_read_step_with {fd : FuncData} (F : FnP K d_PathReader_read_step_with fd) : Binds K fd p_PathReader_read_step_with [] := FunD.bindsN F fun _ _ _ _ _ _ us hl => match us, hl with | [_, _], _ => rfl
theorem f_PathReader_read_axis (T : Tx w K mg) : ∃ fd, FnP K d_PathReader_read_axis fd := T.c.def_ 38 (d := d_PathReader_read_axis) rfl
abbrev p_PathReader_read_axis : List Str := ["self", "axes"]
abbrev N_PathReader_read_axis : List Str := ["self", "axes", "token", "behind"]
theorem sc_PathReader_read_axis : FnScope N_PathReader_read_axis p_PathReader_read_axis (defScope s_PathReader_read_axis) := ⟨rfl, rfl, rfl, by decide +kernel, rfl, by decide +kernel, by decide +kernel⟩
theorem b_PathReader_read_axis {fd : FuncData} (F : FnP K d_PathReader_read_axis fd) : Binds K fd p_PathReader_read_axis [] := FunD.bindsN F fun _ _ _ _ _ _ us hl => match us, hl with | [_, _], _ => rfl
theorem f_PathReader_read_test (T : Tx w K mg) : ∃ fd, FnP K d_PathReader_read_test fd := T.c.def_ 39 (d := d_PathReader_read_test) rfl
abbrev p_PathReader_read_test : List Str := ["self"]
abbrev N_PathReader_read_test : List Str := ["self", "token"]
theorem sc_PathReader_read_test : FnScope N_PathReader_read_test p_PathReader_read_test (defScope s_PathReader_read_test) := ⟨rfl, rfl, rfl, by decide +kernel, rfl, by decide +kernel, by decide +kernel⟩
theorem b_PathReader_read_test {fd : FuncData} (F : FnP K d_PathReader_read_test fd) : Binds K fd p_PathReader_read_test [] := FunD.bindsN F fun _ _ _ _ _ _ us hl => match us, hl with | [_], _ => rfl
theorem f_PathReader_read_kind (T : Tx w K mg) : ∃ fd, FnP K d_PathReader_read_kind fd := T.c.def_ 40 (d := d_PathReader_read_kind) rfl
abbrev p_PathReader_read_kind : List Str := ["self", "kind"]
abbrev N_PathReader_read_kind : List Str := ["self", "kind", "target"]
theorem sc_PathReader_read_kind : FnScope N_PathReader_read_kind p_PathReader_read_kind (defScope s_PathReader_read_kind) := ⟨rfl, rfl, rfl, by decide +kernel, rfl, by decide +kernel, by decide +kernel⟩
theorem b_PathReader_read_kind {fd : FuncData} (F : FnP K d_PathReader_read_kind fd) : Binds K fd p_PathReader_read_kind [] := FunD.bindsN F fun _ _ _ _ _ _ us hl => match us, hl with | [_, _], _ => rfl
theorem f_PathReader_check_colon (T : Tx w K mg) : ∃ fd, FnP K d_PathReader_check_colon fd := T.c.def_ 41 (d := d_PathReader_check_colon) rfl
abbrev p_PathReader_check_colon : List Str := ["self", "token"]
abbrev N_PathReader_check_colon : List Str := ["self", "token", "end"]
theorem sc_PathReader_check_colon : FnScope N_PathReader_check_colon p_PathReader_check_colon (defScope s_PathReader_check_colon) := ⟨rfl, rfl, rfl, by decide +kernel, rfl, by decide +kernel, by decide +kernel⟩
theorem b_PathReader_check_colon {fd : FuncData} (F : FnP K d_PathReader_check_colon fd) : Binds K fd p_PathReader_check_colon [] := FunD.bindsN F fun _ _ _ _ _ _ us hl => match us, hl with | [_, _], _ => rfl
theorem f_PathReader_read_predicates (T : Tx w K mg) : ∃ fd, FnP K d_PathReader_read_predicates fd := T.c.def_ 42 (d := d_PathReader_read_predicates) rfl
abbrev p_PathReader_read_predicates : List Str := ["self"]
abbrev N_PathReader_read_predicates : List Str := ["self", "found"]
theorem sc_PathReader_read_predicates : FnScope N_PathReader_read_predicates p_PathReader_read_predicates (defScope s_PathReader_read_predicates) := ⟨rfl, rfl, rfl, by decide +kernel, rfl, by decide +kernel, by decide +kernel⟩
theorem b_PathReader_read_predicates {fd : FuncData} (F : FnP K d_PathReader_read_predicates fd) : Binds K fd p_PathReader_read_predicates [] := FunD.bindsN F fun _ _ _ _ _ _ us hl => match us, hl with | [_], _ => rfl
theorem f_bind (T : Tx w K mg) : ∃ fd, FnP K d_bind fd := T.c.def_ 43 (d := d_bind) rfl
abbrev p_bind : List Str := ["operands", "word"]
abbrev N_bind : List Str := ["operands", "word", "right"]
theorem sc_bind : FnScope N_bind p_bind (defScope s_bind) := ⟨rfl, rfl, rfl, by decide +kernel, rfl, by decide +kernel, by decide +kernel⟩
theorem b_bind {fd : FuncData} (F : FnP K d_bind fd) : Binds K fd p_bind [] := FunD.bindsN F fun _ _ _ _ _ _ us hl => match us, hl with | [_, _], _ => rfl
theorem f_common_length (T : Tx w K mg) : ∃ fd, FnP K d_common_length fd := T.c.def_ 44 (d := d_common_length) rfl
abbrev p_common_length : List Str := ["one", "other"]
abbrev N_common_length : List Str := ["one", "other", "many"]
theorem sc_common_length : FnScope N_common_length p_common_length (defScope s_common_length) := ⟨rfl, rfl, rfl, by decide +kernel, rfl, by decide +kernel, by decide +kernel⟩
theorem b_common_length {fd : FuncData} (F : FnP K d_common_length fd) : Binds K fd p_common_length [] := FunD.bindsN F fun _ _ _ _ _ _ us hl => match us, hl with | [_, _], _ => rfl
theorem f_shortest_number (T : Tx w K mg) : ∃ fd, FnP K d_shortest_number fd := T.c.def_ 45 (d := d_shortest_number) rfl
abbrev p_shortest_number : List Str := ["text"]
abbrev N_shortest_number : List Str := ["text", "front", "_", "fraction"]
theorem sc_shortest_number : FnScope N_shortest_number p_shortest_number (defScope s_shortest_number) := ⟨rfl, rfl, rfl, by decide +kernel, rfl, by decide +kernel, by decide +kernel⟩
theorem b_shortest_number {fd : FuncData} (F : FnP K d_shortest_number fd) : Binds K fd p_shortest_number [] := FunD.bindsN F fun _ _ _ _ _ _ us hl => match us, hl with | [_], _ => rfl
theorem f_path_text (T : Tx w K mg) : ∃ fd, FnP K d_path_text fd := T.c.def_ 46 (d := d_path_text) rfl
abbrev p_path_text : List Str := ["tree", "short"]
abbrev N_path_text : List Str := ["tree", "short", "rows", "text", "row"]
theorem sc_path_text : FnScope N_path_text p_path_text (defScope s_path_text) := ⟨rfl, rfl, rfl, by decide +kernel, rfl, by decide +kernel, by decide +kernel⟩
theorem b_path_text {fd : FuncData} (F : FnP K d_path_text fd) : Binds K fd p_path_text [] := FunD.bindsN F fun _ _ _ _ _ _ us hl => match us, hl with | [_, _], _ => rfl
theorem f_rank_in (T : Tx w K mg) : ∃ fd, FnP K d_rank_in fd := T.c.def_ 47 (d := d_rank_in) rfl
abbrev p_rank_in : List Str := ["tree"]
abbrev N_rank_in : List Str := ["tree"]
theorem sc_rank_in : FnScope N_rank_in p_rank_in (defScope s_rank_in) := ⟨rfl, rfl, rfl, by decide +kernel, rfl, by decide +kernel, by decide +kernel⟩
theorem b_rank_in {fd : FuncData} (F : FnP K d_rank_in fd) : Binds K fd p_rank_in [] := FunD.bindsN F fun _ _ _ _ _ _ us hl => match us, hl with | [_], _ => rfl
theorem f_binary_text (T : Tx w K mg) : ∃ fd, FnP K d_binary_text fd := T.c.def_ 48 (d := d_binary_text) rfl
abbrev p_binary_text : List Str := ["tree", "left", "short"]
abbrev N_binary_text : List Str := ["tree", "left", "short", "word", "one", "other", "rank", "right"]
theorem sc_binary_text : FnScope N_binary_text p_binary_text (defScope s_binary_text) := ⟨rfl, rfl, rfl, by decide +kernel, rfl, by decide +kernel, by decide +kernel⟩
theorem b_binary_text {fd : FuncData} (F : FnP K d_binary_text fd) : Binds K fd p_binary_text [] := FunD.bindsN F fun _ _ _ _ _ _ us hl => match us, hl with | [_, _, _], _ => rfl
theorem f_bracketed (T : Tx w K mg) : ∃ fd, FnP K d_bracketed fd := T.c.def_ 49 (d := d_bracketed) rfl
abbrev p_bracketed : List Str := ["text", "needed"]
abbrev N_bracketed : List Str := ["text", "needed"]
theorem sc_bracketed : FnScope N_bracketed p_bracketed (defScope s_bracketed) := ⟨rfl, rfl, rfl, by decide +kernel, rfl, by decide +kernel, by decide +kernel⟩
theorem b_bracketed {fd : FuncData} (F : FnP K d_bracketed fd) : Binds K fd p_bracketed [] := FunD.bindsN F fun _ _ _ _ _ _ us hl => match us, hl with | [_, _], _ => rfl
theorem f_operand_text (T : Tx w K mg) : ∃ fd, FnP K d_operand_text fd := T.c.def_ 50 (d := d_operand_text) rfl
abbrev p_operand_text : List Str := ["tree", "short"]
abbrev N_operand_text : List Str := ["tree", "short", "word", "part"]
theorem sc_operand_text : FnScope N_operand_text p_operand_text (defScope s_operand_text) := ⟨rfl, rfl, rfl, by decide +kernel, rfl, by decide +kernel, by decide +kernel⟩
theorem b_operand_text {fd : FuncData} (F : FnP K d_operand_text fd) : Binds K fd p_operand_text [] := FunD.bindsN F fun _ _ _ _ _ _ us hl => match us, hl with | [_, _], _ => rfl
theorem f_primary_text (T : Tx w K mg) : ∃ fd, FnP K d_primary_text fd := T.c.def_ 51 (d := d_primary_text) rfl
abbrev p_primary_text : List Str := ["tree", "bare", "short"]
abbrev N_primary_text : List Str := ["tree", "bare", "short"]
theorem sc_primary_text : FnScope N_primary_text p_primary_text (defScope s_primary_text) := ⟨rfl, rfl, rfl, by decide +kernel, rfl, by decide +kernel, by decide +kernel⟩
theorem b_primary_text {fd : FuncData} (F : FnP K d_primary_text fd) : Binds K fd p_primary_text [] := FunD.bindsN F fun _ _ _ _ _ _ us hl => match us, hl with | [_, _, _], _ => rfl
theorem f_quoted (T : Tx w K mg) : ∃ fd, FnP K d_quoted fd := T.c.def_ 52 (d := d_quoted) rfl
abbrev p_quoted : List Str := ["text"]
abbrev N_quoted : List Str := ["text"]
theorem sc_quoted : FnScope N_quoted p_quoted (defScope s_quoted) := ⟨rfl, rfl, rfl, by decide +kernel, rfl, by decide +kernel, by decide +kernel⟩
theorem b_quoted {fd : FuncData} (F : FnP K d_quoted fd) : Binds K fd p_quoted [] := FunD.bindsN F fun _ _ _ _ _ _ us hl => match us, hl with | [_], _ => rfl
theorem f_predicates_text (T : Tx w K mg) : ∃ fd, FnP K d_predicates_text fd := T.c.def_ 53 (d := d_predicates_text) rfl
abbrev p_predicates_text : List Str := ["predicates", "short"]
abbrev N_predicates_text : List Str := ["predicates", "short", "predicate"]
theorem sc_predicates_text : FnScope N_predicates_text p_predicates_text (defScope s_predicates_text) := ⟨rfl, rfl, rfl, by decide +kernel, rfl, by decide +kernel, by decide +kernel⟩
theorem b_predicates_text {fd : FuncData} (F : FnP K d_predicates_text fd) : Binds K fd p_predicates_text [] := FunD.bindsN F fun _ _ _ _ _ _ us hl => match us, hl with | [_, _], _ => rfl
theorem f_location_text (T : Tx w K mg) : ∃ fd, FnP K d_location_text fd := T.c.def_ 54 (d := d_location_text) rfl
abbrev p_location_text : List Str := ["tree", "short"]
abbrev N_location_text : List Str := ["tree", "short", "_", "start", "steps", "front"]
theorem sc_location_text : FnScope N_location_text p_location_text (defScope s_location_text) := ⟨rfl, rfl, rfl, by decide +kernel, rfl, by decide +kernel, by decide +kernel⟩
theorem b_location_text {fd : FuncData} (F : FnP K d_location_text fd) : Binds K fd p_location_text [] := FunD.bindsN F fun _ _ _ _ _ _ us hl => match us, hl with | [_, _], _ => rfl
theorem f_steps_text (T : Tx w K mg) : ∃ fd, FnP K d_steps_text fd := T.c.def_ 55 (d := d_steps_text) rfl
abbrev p_steps_text : List Str := ["steps", "behind_slash", "slashes", "short"]
abbrev N_steps_text : List Str := ["steps", "behind_slash", "slashes", "short", "pieces", "slash", "at", "step"]
theorem sc_steps_text : FnScope N_steps_text p_steps_text (defScope s_steps_text) := ⟨rfl, rfl, rfl, by decide +kernel, rfl, by decide +kernel, by decide +kernel⟩
theorem b_steps_text {fd : FuncData} (F : FnP K d_steps_text fd) : Binds K fd p_steps_text [] := FunD.bindsN F fun _ _ _ _ _ _ us hl => match us, hl with | [_, _, _, _], _ => rfl
theorem f_step_text (T : Tx w K mg) : ∃ fd, FnP K d_step_text fd := T.c.def_ 56 (d := d_step_text) rfl
abbrev p_step_text : List Str := ["step", "short"]
abbrev N_step_text : List Str := ["step", "short", "axis", "test", "predicates", "ahead", "text"]
theorem sc_step_text : FnScope N_step_text p_step_text (defScope s_step_text) := ⟨rfl, rfl, rfl, by decide +kernel, rfl, by decide +kernel, by decide +kernel⟩
theorem b_step_text {fd : FuncData} (F : FnP K d_step_text fd) : Binds K fd p_step_text [] := FunD.bindsN F fun _ _ _ _ _ _ us hl => match us, hl with | [_, _], _ => rfl
theorem f_test_text (T : Tx w K mg) : ∃ fd, FnP K d_test_text fd := T.c.def_ 57 (d := d_test_text) rfl
abbrev p_test_text : List Str := ["test"]
abbrev N_test_text : List Str := ["test", "target"]
theorem sc_test_text : FnScope N_test_text p_test_text (defScope s_test_text) := ⟨rfl, rfl, rfl, by decide +kernel, rfl, by decide +kernel, by decide +kernel⟩
theorem b_test_text {fd : FuncData} (F : FnP K d_test_text fd) : Binds K fd p_test_text [] := FunD.bindsN F fun _ _ _ _ _ _ us hl => match us, hl with | [_], _ => rfl
theorem f_tokens (T : Tx w K mg) : ∃ fd, FnP K d_tokens fd := T.c.def_ 58 (d := d_tokens) rfl
abbrev p_tokens : List Str := ["text"]
abbrev N_tokens : List Str := ["text", "reader"]
theorem sc_tokens : FnScope N_tokens p_tokens (defScope s_tokens) := ⟨rfl, rfl, rfl, by decide +kernel, rfl, by decide +kernel, by decide +kernel⟩
theorem b_tokens {fd : FuncData} (F : FnP K d_tokens fd) : Binds K fd p_tokens [] := FunD.bindsN F fun _ _ _ _ _ _ us hl => match us, hl with | [_], _ => rfl
theorem f_tree_of (T : Tx w K mg) : ∃ fd, FnP K d_tree_of fd := T.c.def_ 59 (d := d_tree_of) rfl
abbrev p_tree_of : List Str := ["text"]
abbrev N_tree_of : List Str := ["text"]
theorem sc_tree_of : FnScope N_tree_of p_tree_of (defScope s_tree_of) := ⟨rfl, rfl, rfl, by decide +kernel, rfl, by decide +kernel, by decide +kernel⟩
theorem b_tree_of {fd : FuncData} (F : FnP K d_tree_of fd) : Binds K fd p_tree_of [] := FunD.bindsN F fun _ _ _ _ _ _ us hl => match us, hl with | [_], _ => rfl
theorem f_reader_of (T : Tx w K mg) : ∃ fd, FnP K d_reader_of fd := T.c.def_ 60 (d := d_reader_of) rfl
abbrev p_reader_of : List Str := ["text"]
abbrev N_reader_of : List Str := ["text"]
theorem sc_reader_of : FnScope N_reader_of p_reader_of (defScope s_reader_of) := ⟨rfl, rfl, rfl, by decide +kernel, rfl, by decide +kernel, by decide +kernel⟩
theorem b_reader_of {fd : FuncData} (F : FnP K d_reader_of fd) : Binds K fd p_reader_of [] := FunD.bindsN F fun _ _ _ _ _ _ us hl => match us, hl with | [_], _ => rfl
theorem f_canonical (T : Tx w K mg) : ∃ fd, FnP K d_canonical fd := T.c.def_ 61 (d := d_canonical) rfl
abbrev p_canonical : List Str := ["text"]
abbrev N_canonical : List Str := ["text"]
theorem sc_canonical : FnScope N_canonical p_canonical (defScope s_canonical) := ⟨rfl, rfl, rfl, by decide +kernel, rfl, by decide +kernel, by decide +kernel⟩
theorem b_canonical {fd : FuncData} (F : FnP K d_canonical fd) : Binds K fd p_canonical [] := FunD.bindsN F fun _ _ _ _ _ _ us hl => match us, hl with | [_], _ => rfl
theorem f_abbreviated (T : Tx w K mg) : ∃ fd, FnP K d_abbreviated fd := T.c.def_ 62 (d := d_abbreviated) rfl
abbrev p_abbreviated : List Str := ["text"]
abbrev N_abbreviated : List Str := ["text"]
theorem sc_abbreviated : FnScope N_abbreviated p_abbreviated (defScope s_abbreviated) := ⟨rfl, rfl, rfl, by decide +kernel, rfl, by decide +kernel, by decide +kernel⟩
theorem b_abbreviated {fd : FuncData} (F : FnP K d_abbreviated fd) : Binds K fd p_abbreviated [] := FunD.bindsN F fun _ _ _ _ _ _ us hl => match us, hl with | [_], _ => rfl
theorem f_Lstate (T : Tx w K mg) : ∃ fd, FnP K d_Lstate fd := T.c.def_ 63 (d := d_Lstate) rfl
abbrev p_Lstate : List Str := ["_law_script", "_law_k"]
abbrev N_Lstate : List Str := ["_law_script", "_law_k", "_law_cell"]
theorem sc_Lstate : FnScope N_Lstate p_Lstate (defScope s_Lstate) := ⟨rfl, rfl, rfl, by decide +kernel, rfl, by decide +kernel, by decide +kernel⟩
theorem b_Lstate {fd : FuncData} (F : FnP K d_Lstate fd) : Binds K fd p_Lstate [] := FunD.bindsN F fun _ _ _ _ _ _ us hl => match us, hl with | [_, _], _ => rfl
theorem f_Ldraw (T : Tx w K mg) : ∃ fd, FnP K d_Ldraw fd := T.c.def_ 64 (d := d_Ldraw) rfl
abbrev p_Ldraw : List Str := ["_law_state_here", "_law_many"]
abbrev N_Ldraw : List Str := ["_law_state_here", "_law_many", "_law_found", "_law_mixed"]
theorem sc_Ldraw : FnScope N_Ldraw p_Ldraw (defScope s_Ldraw) := ⟨rfl, rfl, rfl, by decide +kernel, rfl, by decide +kernel, by decide +kernel⟩
theorem b_Ldraw {fd : FuncData} (F : FnP K d_Ldraw fd) : Binds K fd p_Ldraw [] := FunD.bindsN F fun _ _ _ _ _ _ us hl => match us, hl with | [_, _], _ => rfl
theorem f_Lone (T : Tx w K mg) : ∃ fd, FnP K d_Lone fd := T.c.def_ 65 (d := d_Lone) rfl
abbrev p_Lone : List Str := ["_law_state_here", "_law_some"]
abbrev N_Lone : List Str := ["_law_state_here", "_law_some"]
theorem sc_Lone : FnScope N_Lone p_Lone (defScope s_Lone) := ⟨rfl, rfl, rfl, by decide +kernel, rfl, by decide +kernel, by decide +kernel⟩
theorem b_Lone {fd : FuncData} (F : FnP K d_Lone fd) : Binds K fd p_Lone [] := FunD.bindsN F fun _ _ _ _ _ _ us hl => match us, hl with | [_, _], _ => rfl
theorem f_Lsaid (T : Tx w K mg) : ∃ fd, FnP K d_Lsaid fd := T.c.def_ 66 (d := d_Lsaid) rfl
abbrev p_Lsaid : List Str := ["_law_ask", "_law_thing"]
abbrev N_Lsaid : List Str := ["_law_ask", "_law_thing", "e"]
theorem sc_Lsaid : FnScope N_Lsaid p_Lsaid (defScope s_Lsaid) := ⟨rfl, rfl, rfl, by decide +kernel, rfl, by decide +kernel, by decide +kernel⟩
theorem b_Lsaid {fd : FuncData} (F : FnP K d_Lsaid fd) : Binds K fd p_Lsaid [] := FunD.bindsN F fun _ _ _ _ _ _ us hl => match us, hl with | [_, _], _ => rfl
theorem f_Lwords (T : Tx w K mg) : ∃ fd, FnP K d_Lwords fd := T.c.def_ 67 (d := d_Lwords) rfl
abbrev p_Lwords : List Str := []
abbrev N_Lwords : List Str := ["_law_rows"]
theorem sc_Lwords : FnScope N_Lwords p_Lwords (defScope s_Lwords) := ⟨rfl, rfl, rfl, by decide +kernel, rfl, by decide +kernel, by decide +kernel⟩
theorem b_Lwords {fd : FuncData} (F : FnP K d_Lwords fd) : Binds K fd p_Lwords [] := FunD.bindsN F fun _ _ _ _ _ _ us hl => match us, hl with | [], _ => rfl
theorem f_Lcall (T : Tx w K mg) : ∃ fd, FnP K d_Lcall fd := T.c.def_ 68 (d := d_Lcall) rfl
abbrev p_Lcall : List Str := ["_law_state_here", "_law_word", "_law_many"]
abbrev N_Lcall : List Str := ["_law_state_here", "_law_word", "_law_many", "_law_text", "_law_spots", "_law_k"]
theorem sc_Lcall : FnScope N_Lcall p_Lcall (defScope s_Lcall) := ⟨rfl, rfl, rfl, by decide +kernel, rfl, by decide +kernel, by decide +kernel⟩
theorem b_Lcall {fd : FuncData} (F : FnP K d_Lcall fd) : Binds K fd p_Lcall [] := FunD.bindsN F fun _ _ _ _ _ _ us hl => match us, hl with | [_, _, _], _ => rfl
theorem f_Lcall_right (T : Tx w K mg) : ∃ fd, FnP K d_Lcall_right fd := T.c.def_ 69 (d := d_Lcall_right) rfl
abbrev p_Lcall_right : List Str := ["_law_state_here", "_law_word", "_law_least", "_law_most"]
abbrev N_Lcall_right : List Str := ["_law_state_here", "_law_word", "_law_least", "_law_most", "_law_many", "_law_text", "_law_spots", "_law_said_here", "_law_due"]
theorem sc_Lcall_right : FnScope N_Lcall_right p_Lcall_right (defScope s_Lcall_right) := ⟨rfl, rfl, rfl, by decide +kernel, rfl, by decide +kernel, by decide +kernel⟩
theorem b_Lcall_right {fd : FuncData} (F : FnP K d_Lcall_right fd) : Binds K fd p_Lcall_right [] := FunD.bindsN F fun _ _ _ _ _ _ us hl => match us, hl with | [_, _, _, _], _ => rfl
theorem f_law (T : Tx w K mg) : ∃ fd, FnP K d_law fd := T.c.def_ 70 (d := d_law) rfl
abbrev p_law : List Str := ["_law_script"]
abbrev N_law : List Str := ["_law_script", "_law_asks", "_law_odd", "_law_k", "_law_state_here", "_law_row", "_law_least", "_law_most", "_law_word", "_law_ask"]
theorem sc_law : FnScope N_law p_law (defScope s_law) := ⟨rfl, rfl, rfl, by decide +kernel, rfl, by decide +kernel, by decide +kernel⟩
theorem b_law {fd : FuncData} (F : FnP K d_law fd) : Binds K fd p_law [] := FunD.bindsN F fun _ _ _ _ _ _ us hl => match us, hl with | [_], _ => rfl
end
end PX
/-! PXExc -/
namespace PX
open PySem PySem.Spec PyProof.Rows L2
/-! ### a def read off a class by name -/
def tCFn (C : Addr) (sp : Sp) (dvs : List V) (E : XK) (ta : TE) (t : TA) : TE := fun σ H Q => ta σ H fun x H1 => x = .ref C ∧ t σ H1 fun vs H2 => sp (vs ++ dvs) H2 Q E
section
variable {X : Cx} {CX : CXT} {k : Nat} {C g : Addr} {fd : FuncData} {ps : List Str} {ds : List Value} {dvs : List V} {mc : Value} {sp : Sp} {E : XK} {o e : Expr} {es : List Expr} {m : Str} {pos apos : Pos} {ta : TE} {t : TA} {pl : Sem Bool}
theorem pe_cfn (he : PE X o ta) (r : ClX.CRead X.K C mc) (c : ClX.CVal X.K C mc m (.ref g) (.ref g)) (hk : PySem.W.keepIn X.K (.ref g) = true) (F : FnOk X.prog X.w X.K X.mg X.base CX k g fd ps sp) (hr : Room k X.A) (hb : Binds X.K fd ps ds) (hd : Vals dvs ds) (hx : Passes CX X E) (ha : PA X (e :: es) t)
    (hst : starEach (e :: es) X.env = (false, eval e X.env) :: starEach es X.env := by rfl) (hpl : (backTo pos (starEach es X.env)).any (·.1) = false := by rfl)
    (ht : eval (.Call (.Attribute o m apos) (e :: es) [] pos) X.env = (do
      let ov ← eval o X.env
      standAt apos.atName
      let (f, first) ← holding [ov] (getMethod ov m pl)
      callWith pos f first (backTo pos (starEach (e :: es) X.env)) (backToKw pos (keywordEach [] X.env))) := by rfl) :
    PE X (.Call (.Attribute o m apos) (e :: es) [] pos) (tCFn C sp dvs E ta t) := by
  refine ⟨fun pins s σ H Q I h => ?_⟩
  refine PySem.W.methodCall_KW (pl := pl) (thn (he.run pins s σ H _ I h) fun u s1 ⟨x, H1, I1, rx, ex, q⟩ => ?_) ht
  subst ex
  obtain rfl : u = Value.ref C := rx
  refine PySem.W.method_cls I1.kIn r.ga (ClX.getcval_ok I1 r c fun s2 I2 => ?_)
  refine PySem.W.callWith_K (h₀ := X.base) I2.ok.mod.kin hk (thn (ha.run pos pins s2 σ H1 _ I2 q) fun us s3 ⟨vs, H2, I3, rv, q2⟩ => ⟨I3.kIn, ?_⟩) hst hpl
  exact run_fn F hr hb hd hx I3 rv q2
end
/-! ### the errors -/
section
variable {P : Program} {w : World} {K : PySem.W.Frag} {mg : Str → Option Value} {base : Heap}
theorem oex_of {x : Str} (h : oexB K x = true) : OexC K (He.ga K x) ∧ XfC K (He.ga K x) := by
  unfold oexB at h
  obtain ⟨h0, h⟩ := He.ba h
  obtain ⟨h1, h⟩ := He.ba h
  obtain ⟨h2, h⟩ := He.ba h
  obtain ⟨h3, h⟩ := He.ba h
  obtain ⟨h4, h5⟩ := He.ba h
  refine ⟨⟨?_, of_decide_eq_true h1, of_decide_eq_true h2, of_decide_eq_true h3, h4⟩, xfB_ok h5⟩
  cases q : K.lookup (He.ga K x) with
  | none =>
    rw [q] at h0
    cases h0
  | some o =>
    obtain ⟨oc, od, dt, osl⟩ := o
    rw [q] at h0
    cases oc with
    | type c =>
      cases dt with
      | cls cd =>
        obtain ⟨e0, h0⟩ := He.ba h0
        obtain ⟨nm, bs, mro, ns, qn, hdc, sn, sub, ab, col, hdel⟩ := cd
        obtain ⟨sl⟩ := osl
        dsimp only at h0
        split at h0
        · rename_i C' bm k0 k1 k2 k3 n k5 hh
          obtain ⟨a1, h0⟩ := He.ba h0
          obtain ⟨a2, h0⟩ := He.ba h0
          obtain ⟨a3, h0⟩ := He.ba h0
          obtain ⟨a4, a5⟩ := He.ba h0
          have e1 : C' = He.ga K x := of_decide_eq_true a1
          have e2 : n = "ValueError.__new__" := of_decide_eq_true a2
          have e3 : hdel = false := by
            cases hdel with
            | false => rfl
            | true => cases a3
          have e4 : hdc = true := a4
          have e5 : c = "type" := of_decide_eq_true e0
          subst e1 e2 e3 e4 e5
          exact ⟨nm, qn, ns, bs, bm, sn, sub, ab, col, od, k0, k1, k2, k3, k5, rfl, a5⟩
        · cases h0
      | _ => cases h0
    | _ => cases dt <;> cases h0
theorem init_of {x : Str} (h : initB K x = true) : PySem.W.findIn K (.ref (He.ga K x)) "__init__" = some (some (.ref (He.ma K (He.ga K x) "__init__"))) ∧ PySem.W.typeIn K (.ref (He.ma K (He.ga K x) "__init__")) = some (.type "function") := by
  obtain ⟨h1, h2⟩ := He.ba h
  exact ⟨of_decide_eq_true h1, of_decide_eq_true h2⟩

theorem base_of (h : baseB K = true) : ClX.CRead K (He.ga K "TreeError") (.type "type") ∧ ClX.CVal K (He.ga K "TreeError") (.type "type") "__init__" (.ref (He.fAd K d_TreeError_init.at_)) (.ref (He.fAd K d_TreeError_init.at_)) := by
  unfold baseB at h
  obtain ⟨h0, h⟩ := He.ba h
  obtain ⟨h1, h2⟩ := He.ba h
  refine ⟨⟨h1, of_decide_eq_true h2⟩, ⟨?_, rfl⟩⟩
  cases q : PySem.W.findCls K (.ref (He.ga K "TreeError")) (.type "type") "__init__" with
  | none =>
    rw [q] at h0
    cases h0
  | some r =>
    rw [q] at h0
    cases r with
    | val v =>
      cases v with
      | ref f =>
        have e : f = He.ma K (He.ga K "TreeError") "__init__" := of_decide_eq_true h0
        rw [e]
        rfl
      | _ => cases h0
    | get g a b c => cases h0
theorem more_of (T : Tx w K mg) : oexB K "BadValue" = true ∧ oexB K "NotPath" = true ∧ initB K "BadValue" = true ∧ initB K "NotPath" = true ∧ baseB K = true ∧ True := ⟨x_exBad T, x_exNot T, x_inBad T, x_inNot T, x_base T, trivial⟩
theorem nb_of (T : Tx w K mg) : nbB K = true := x_nb T
theorem vals_of : ∀ {vs : List He.Dv} (us : List Value), ((us.zip vs).all fun q => He.relB (q.2.v K) q.1) = true → us.length = vs.length → Vals (vs.map (He.Dv.v K)) us
  | [], [], _, _ => .nil
  | v :: vs, u :: us, h, e => by
    have h4 : (He.relB (v.v K) u && (us.zip vs).all fun q => He.relB (q.2.v K) q.1) = true := h
    obtain ⟨h5, h6⟩ := He.ba h4
    exact .cons (He.relB_ok h5) (vals_of us h6 (Nat.succ.inj e))
  | [], _ :: _, _, e => by cases e
  | _ :: _, [], _, e => by cases e
/-- a tuple of the head -/
theorem tup_of {a : Addr} {vs : List He.Dv} (h : tupB K a vs = true) (hl : vs.length ≤ sizeLine := by decide) : ∀ H, SqT K H a (vs.map (He.Dv.v K)) := by
  intro H
  unfold tupB at h
  cases q : K.lookup a with
  | none =>
    rw [q] at h
    cases h
  | some o =>
    obtain ⟨oc, od, dt, osl⟩ := o
    rw [q] at h
    cases dt with
    | seq us n =>
      obtain ⟨h1, h⟩ := He.ba h
      obtain ⟨h2, h3⟩ := He.ba h
      cases oc with
      | type c =>
        have ec : c = "tuple" := of_decide_eq_true h1
        subst ec
        have el : us.size = vs.length := of_decide_eq_true h2
        refine .inr ⟨_, us, n, q, rfl, rfl, by rw [el]; exact hl, ?_⟩
        obtain ⟨us⟩ := us
        exact vals_of us h3 el
      | _ => cases h1
    | _ => cases h
theorem strs_of {x : Str} {l : List Str} (h : strsB K x l = true) (hl : l.length ≤ sizeLine := by decide) : ∀ H, SqT K H (He.ga K x) (l.map V.str) := by
  intro H
  have := tup_of h (by rw [List.length_map]; exact hl) H
  rw [List.map_map] at this
  exact this
theorem none_booked (T : Tx w K mg) : ∀ h : Heap, K.In h → NoneBooked h := by
  intro h hK
  have hb := nb_of T
  unfold nbB at hb
  cases e : List.lookup cStatics K with
  | none => rw [e] at hb; cases hb
  | some o =>
    rw [e] at hb
    dsimp only at hb
    cases e2 : o.data with
    | dict es ep =>
      rw [e2] at hb
      dsimp only at hb
      rw [Bool.and_eq_true] at hb
      refine ⟨nsFind es, ⟨o, es, ep, hK _ _ e, e2, fun x hx => ?_, fun _ => rfl⟩, ?_⟩
      · have h1 := List.all_eq_true.mp hb.1 x (Array.mem_toList_iff.mpr hx)
        cases e3 : x.key with
        | str n t => exact ⟨n, t, rfl⟩
        | _ => rw [e3] at h1; cases h1
      · have h2 := hb.2
        cases e4 : nsFind es sharingNotToldKey with
        | none => rfl
        | some v => rw [e4] at h2; cases h2
    | _ => rw [e2] at hb; cases hb
abbrev CN (K : PySem.W.Frag) : Addr := He.ga K "NotPath"
abbrev CB (K : PySem.W.Frag) : Addr := He.ga K "BadValue"
/-- TreeError.__init__ -/
def spTE (K : PySem.W.Frag) : Sp := fun vs H Q _ => ∃ (a C : Addr) (y : V), vs = [.ref a, y] ∧ OexC K C ∧ PySem.W.findIn K (.ref C) "why" = some none ∧ H a = some (exo a C none) ∧
  ∀ dx, H dx = none → dx ≠ a → Q .non (upd (upd H dx (exd dx [("why", y)])) a (exo a C (some dx)))
theorem ok_TE (T : Tx w K mg) : ∃ fd ds, FnOk P w K mg base CX0 1 (He.fAd K d_TreeError_init.at_) fd p_TreeError_init (spTE K) ∧ Binds K fd p_TreeError_init ds ∧ Vals [] ds ∧ PySem.W.keepIn K (.ref (He.fAd K d_TreeError_init.at_)) = true := by
  obtain ⟨fd, F⟩ := f_TreeError_init T
  obtain ⟨ds, vd, bd⟩ := FunD.binds1 (ps := p_TreeError_init) F 2 1 (by intro h; cases h) rfl (fun T kV doc pm an cdv ct us its hl hi => match us, hl, its, hi with | [_, _], _, [_], _ => ⟨_, rfl, rfl⟩)
  refine ⟨fd, ds, ?_, bd, vd, F.kp⟩
  refine F.ok sc_TreeError_init (fun vs H Q E h => ?_) (fun cdv A outer s H vs Q E hr h => ?_)
  · obtain ⟨a, C, y, rfl, _⟩ := h
    rfl
  · obtain ⟨a, C, y, rfl, O, n, ha, k⟩ := h
    refine ⟨_, PSs.nox (pss_one (ps_ost (pv 0) (pv 1))), ?_⟩
    exact ⟨_, rfl, _, rfl, a, C, rfl, O, n, .inl ⟨ha, fun dx hd ne => k dx hd ne⟩⟩
/-- NotPath.__init__ -/
def spND (K : PySem.W.Frag) : Sp := fun vs H Q _ => ∃ (a : Addr) (n : Int), vs = [.ref a, .int n] ∧ n.natAbs.log2 < 1920 ∧ H a = some (exo a (CN K) none) ∧
  ∀ dx y H', H dx = none → dx ≠ a → H' = upd (upd (upd H dx (exd dx [("why", y)])) a (exo a (CN K) (some dx))) dx (exd dx [("at", .int n), ("why", y)]) → Q .non H'
theorem ok_ND (T : Tx w K mg) : ∃ fd, FnOk P w K mg base CX0 2 (He.fAd K d_NotPath_init.at_) fd p_NotPath_init (spND K) ∧ Binds K fd p_NotPath_init [] ∧ PySem.W.keepIn K (.ref (He.fAd K d_NotPath_init.at_)) = true := by
  obtain ⟨fd, F⟩ := f_NotPath_init T
  obtain ⟨mB, mN, iB, iN, bs, _⟩ := more_of T
  obtain ⟨fT, dT, GT, bT, vT, kT⟩ := ok_TE (P := P) (base := base) T
  obtain ⟨rd, cv⟩ := base_of bs
  obtain ⟨O, X⟩ := oex_of mN
  refine ⟨fd, ?_, b_NotPath_init F, F.kp⟩
  refine F.ok sc_NotPath_init (fun vs H Q E h => ?_) (fun cdv A outer s H vs Q E hr h => ?_)
  · obtain ⟨a, n, rfl, _⟩ := h
    rfl
  · obtain ⟨a, n, rfl, hn, ha, k⟩ := h
    refine ⟨_, PSs.nox (pss_cons (ps_expr (pe_cfn (pe_glob (v := .ref (He.ga K "TreeError")) rfl (g_TreeError T) rfl) rd cv kT GT hr bT vT pass0 (pa_cons (pv 0) (pa_cons (pe_joined (.cons pe_str (.cons (pe_fmt (pv 1)) .nil))) pa_nil)))) (pss_one (ps_ost (pv 0) (pv 1)))), ?_⟩
    refine ⟨rfl, _, rfl, _, rfl, ?_, _, rfl, .inr ⟨n, rfl, hn, _, rfl, ?_, ?_⟩⟩
    · decide +kernel
    · have e := int_text_length_le (k := 1920) (by decide) hn
      rw [Str.length_append, show sizeLine = 16777216 from sizeLine_eq]
      have e2 : (Str.empty ++ Str.ofString "no path goes on like this at ").length ≤ 100 := by decide +kernel
      rw [PySem.ofString_length]
      omega
    · refine ⟨a, CN K, _, rfl, O, na_NotPath_why T, ha, fun dx hd ne => ?_⟩
      refine ⟨_, rfl, _, rfl, a, CN K, rfl, O, na_NotPath_at T, .inr ⟨dx, _, upd_same, (upd_ne ne).trans upd_same, (by show 1 ≤ 900; decide), ?_⟩⟩
      exact k dx _ _ hd ne rfl

/-- BadValue.__init__ -/
def spBV (K : PySem.W.Frag) : Sp := fun vs H Q _ => ∃ (a : Addr) (y : V), vs = [.ref a, y] ∧ H a = some (exo a (CB K) none) ∧
  ∀ dx, H dx = none → dx ≠ a → Q .non (upd (upd H dx (exd dx [("why", y)])) a (exo a (CB K) (some dx)))
theorem ok_BV (T : Tx w K mg) : ∃ fd ds, FnOk P w K mg base CX0 2 (He.fAd K d_BadValue_init.at_) fd p_BadValue_init (spBV K) ∧ Binds K fd p_BadValue_init ds ∧ Vals [] ds ∧ PySem.W.keepIn K (.ref (He.fAd K d_BadValue_init.at_)) = true := by
  obtain ⟨fd, F⟩ := f_BadValue_init T
  obtain ⟨mB, mN, iB, iN, bs, _⟩ := more_of T
  obtain ⟨fT, dT, GT, bT, vT, kT⟩ := ok_TE (P := P) (base := base) T
  obtain ⟨rd, cv⟩ := base_of bs
  obtain ⟨O, X⟩ := oex_of mB
  obtain ⟨ds, vd, bd⟩ := FunD.binds1 (ps := p_BadValue_init) F 2 1 (by intro h; cases h) rfl (fun T kV doc pm an cdv ct us its hl hi => match us, hl, its, hi with | [_, _], _, [_], _ => ⟨_, rfl, rfl⟩)
  refine ⟨fd, ds, ?_, bd, vd, F.kp⟩
  refine F.ok sc_BadValue_init (fun vs H Q E h => ?_) (fun cdv A outer s H vs Q E hr h => ?_)
  · obtain ⟨a, n, rfl, _⟩ := h
    rfl
  · obtain ⟨a, y, rfl, ha, k⟩ := h
    refine ⟨_, PSs.nox (pss_one (ps_expr (pe_cfn (pe_glob (v := .ref (He.ga K "TreeError")) rfl (g_TreeError T) rfl) rd cv kT GT hr bT vT pass0 (pa_cons (pv 0) (pa_cons (pv 1) pa_nil))))), ?_⟩
    exact ⟨rfl, _, rfl, _, rfl, a, CB K, y, rfl, O, na_BadValue_why T, ha, fun dx hd ne => k dx hd ne⟩
end
/-! ### raise -/
section
variable {X : Cx} {W : WX} {e : Expr} {te : TE} {p p2 pos : Pos}
theorem back_eq {H1 H2 : Hp} {a d : Addr} {o : HO} (h1 : H1 a = none) (hd : d ≠ a) (h2 : ∀ b, b ≠ a → b ≠ d → H2 b = H1 b) : upd (del H2 a) d o = upd H1 d o := by
  funext b
  by_cases e : b = d
  · rw [e, upd_same, upd_same]
  · rw [upd_ne e, upd_ne e]
    by_cases e2 : b = a
    · rw [e2, del_same, h1]
    · rw [del_ne e2, h2 b e2 e]
/-- NotPath(e) -/
theorem pmk_nd {ta : TA} (T : Tx X.w X.K X.mg) (hr : Room 3 X.A) (ha : PA X (e :: []) ta) (hg : Gl X "NotPath" := by rfl)
    (hs : starEach (e :: []) X.env = (false, eval e X.env) :: starEach [] X.env := by rfl) (hpl : (backTo p2 (starEach [] X.env)).any (·.1) = false := by rfl) :
    PMk X (.Call (.Name "NotPath" p) (e :: []) [] p2) (tMkO (CN X.K) (spND X.K) [] ta) := by
  obtain ⟨mB, mN, iB, iN, bs, _⟩ := more_of T
  obtain ⟨O, _⟩ := oex_of mN
  obtain ⟨i1, i2⟩ := init_of iN
  obtain ⟨fd, G, b, kp⟩ := ok_ND (P := X.prog) (base := X.base) T
  exact pmk_oex O i1 i2 G hr b .nil pass0 hg (g_NotPath T) ha (by decide) hs hpl
theorem nd_ok {K : PySem.W.Frag} {H1 : Hp} {n : Int} {Q : XK} (hn : n.natAbs.log2 < 1920) (h : ∀ d y, H1 d = none → Q (.ref (CN K)) (some d) (upd H1 d (.xd [("at", .int n), ("why", y)]))) :
    ([V.int n] : List V).length ≤ 1000 ∧ ∀ a, H1 a = none → spND K (.ref a :: ([V.int n] ++ [])) (upd H1 a (exo a (CN K) none))
      (fun v H2 => v = .non ∧ ∃ (d : Addr) (fs : List (Str × V)), H2 a = some (exo a (CN K) (some d)) ∧ H2 d = some (exd d fs) ∧ H1 d = none ∧ Q (.ref (CN K)) (some d) (upd (del H2 a) d (.xd fs))) (fun _ _ _ => False) := by
  refine ⟨by show 1 ≤ 1000; decide, fun a ha => ⟨a, n, rfl, hn, upd_same, fun dx y H' hd ne e => ?_⟩⟩
  have hd1 : H1 dx = none := by rw [upd_ne ne] at hd; exact hd
  subst e
  refine ⟨rfl, dx, _, by rw [upd_ne (Ne.symm ne), upd_same], upd_same, hd1, ?_⟩
  rw [back_eq ha ne (fun b hb hb2 => by rw [upd_ne hb2, upd_ne hb, upd_ne hb2, upd_ne hb])]
  exact h dx y hd1
theorem pmk_bv {ta : TA} (T : Tx X.w X.K X.mg) (hr : Room 3 X.A) (ha : PA X (e :: []) ta) (hg : Gl X "BadValue" := by rfl)
    (hs : starEach (e :: []) X.env = (false, eval e X.env) :: starEach [] X.env := by rfl) (hpl : (backTo p2 (starEach [] X.env)).any (·.1) = false := by rfl) :
    PMk X (.Call (.Name "BadValue" p) (e :: []) [] p2) (tMkO (CB X.K) (spBV X.K) [] ta) := by
  obtain ⟨mB, mN, iB, iN, bs, _⟩ := more_of T
  obtain ⟨O, _⟩ := oex_of mB
  obtain ⟨i1, i2⟩ := init_of iB
  obtain ⟨fd, ds, G, b, vd, kp⟩ := ok_BV (P := X.prog) (base := X.base) T
  exact pmk_oex O i1 i2 G hr b vd pass0 hg (g_BadValue T) ha (by decide) hs hpl
theorem bv_ok {K : PySem.W.Frag} {H1 : Hp} {y : V} {Q : XK} (h : ∀ d, H1 d = none → Q (.ref (CB K)) (some d) (upd H1 d (.xd [("why", y)]))) :
    ([y] : List V).length ≤ 1000 ∧ ∀ a, H1 a = none → spBV K (.ref a :: ([y] ++ [])) (upd H1 a (exo a (CB K) none))
      (fun v H2 => v = .non ∧ ∃ (d : Addr) (fs : List (Str × V)), H2 a = some (exo a (CB K) (some d)) ∧ H2 d = some (exd d fs) ∧ H1 d = none ∧ Q (.ref (CB K)) (some d) (upd (del H2 a) d (.xd fs))) (fun _ _ _ => False) := by
  refine ⟨by show 1 ≤ 1000; decide, fun a ha => ⟨a, y, rfl, upd_same, fun dx hd ne => ?_⟩⟩
  have hd1 : H1 dx = none := by rw [upd_ne ne] at hd; exact hd
  refine ⟨rfl, dx, _, upd_same, by rw [upd_ne ne, upd_same], hd1, ?_⟩
  rw [back_eq ha ne (fun b hb hb2 => by rw [upd_ne hb, upd_ne hb2, upd_ne hb])]
  exact h dx hd1
end
end PX
/-! PXSpec -/
/-! What the tokens of a path's text are, on lists of codes. Plain Lean. -/
namespace PX
def isBl (c : Nat) : Bool := c == 32 || c == 9 || c == 10
def isLt (c : Nat) : Bool := (97 ≤ c && c ≤ 122) || (65 ≤ c && c ≤ 90) || c == 95
def isWd (c : Nat) : Bool := isLt c || (48 ≤ c && c ≤ 57) || c == 45 || c == 46
def isSg (c : Nat) : Bool := (32 ≤ c && c ≤ 126) || c == 9 || c == 10
def isDg (c : Nat) : Bool := 48 ≤ c && c ≤ 57
/-- how many signs at the head are such -/
def spN (p : Nat → Bool) : List Nat → Nat
  | [] => 0
  | c :: r => if p c then spN p r + 1 else 0
/-- is the first sign such a one -/
def hP (p : Nat → Bool) : List Nat → Bool
  | [] => false
  | c :: _ => p c
def nmN (l : List Nat) : Nat :=
  if hP (· == 58) (l.drop (spN isWd l)) && hP isLt (l.drop (spN isWd l + 1)) then spN isWd l + 1 + spN isWd (l.drop (spN isWd l + 1)) else spN isWd l
def nuN (l : List Nat) : Nat :=
  if hP (· == 46) (l.drop (spN isDg l)) then spN isDg l + 1 + spN isDg (l.drop (spN isDg l + 1)) else spN isDg l
inductive Ki where
  | nam | num | txt | sgn | opn | brk | fin
deriving DecidableEq
/-- a token: its kind, its length -/
def sgL : List (List Nat) := [[58, 58], [47, 47], [46, 46], [33, 61], [60, 61], [62, 61], [47], [46], [64], [36], [42], [124], [43], [45], [61], [60], [62], [40], [41], [91], [93], [44]]
def sgN (l : List Nat) : Option (List Nat) := sgL.find? fun w => l.take w.length == w
def qtN (l : List Nat) : Nat := spN (fun c => isSg c && c != 39 && c != 34) l
def tkN : List Nat → Ki × Nat
  | [] => (.fin, 0)
  | c :: r =>
    if isLt c then (.nam, nmN (c :: r))
    else if isDg c || (c == 46 && hP isDg r) then (.num, nuN (c :: r))
    else if c == 39 || c == 34 then
      let n := spN (fun d => isSg d && d != c) r
      if hP (· == c) (r.drop n) then (.txt, n + 2) else (.opn, n + 1)
    else match sgN (c :: r) with
      | some w => (.sgn, w.length)
      | none => (.brk, 1)
def Ki.ends : Ki → Bool
  | .fin | .opn | .brk => true
  | _ => false
/-- the tokens behind the place i: fuel, the place, the signs from there -/
def tksN : Nat → Nat → List Nat → List (Ki × List Nat × Nat)
  | 0, _, _ => []
  | f + 1, i, l =>
    let b := spN isBl l
    let t := tkN (l.drop b)
    let wd := (l.drop b).take t.2
    (t.1, wd, i + b) :: if t.1.ends then [] else tksN f (i + b + wd.length) (l.drop (b + wd.length))
theorem spN_le (p : Nat → Bool) : ∀ l : List Nat, spN p l ≤ l.length
  | [] => Nat.le_refl _
  | c :: r => by
    show (if p c = true then spN p r + 1 else 0) ≤ r.length + 1
    have := spN_le p r
    split <;> omega
theorem nmN_pos {c : Nat} {r : List Nat} (h : isLt c = true) : 1 ≤ nmN (c :: r) := by
  have hw : isWd c = true := by
    unfold isWd
    rw [h]
    rfl
  have e : spN isWd (c :: r) = spN isWd r + 1 := by
    show (if isWd c = true then spN isWd r + 1 else 0) = _
    rw [if_pos hw]
  unfold nmN
  split <;> omega
theorem nuN_pos {c : Nat} {r : List Nat} (h : (isDg c || (c == 46 && hP isDg r)) = true) : 1 ≤ nuN (c :: r) := by
  unfold nuN
  split
  · omega
  · rename_i h2
    have e : spN isDg (c :: r) = if isDg c = true then spN isDg r + 1 else 0 := rfl
    cases hd : isDg c with
    | true => rw [e, hd, if_pos rfl]; omega
    | false =>
      rw [hd, Bool.false_or, Bool.and_eq_true] at h
      rw [e, hd, if_neg Bool.false_ne_true] at h2
      exact absurd h.1 h2
theorem sgN_len {l w : List Nat} (h : sgN l = some w) : 1 ≤ w.length := by
  unfold sgN at h
  have hm := List.mem_of_find?_eq_some h
  have : ∀ w ∈ sgL, 1 ≤ w.length := by decide
  exact this w hm
theorem tkN_pos {l : List Nat} (h : (tkN l).1.ends = false) : 1 ≤ (tkN l).2 ∧ l ≠ [] := by
  cases l with
  | nil => cases h
  | cons c r =>
    refine ⟨?_, List.cons_ne_nil c r⟩
    have htk : tkN (c :: r) = if isLt c = true then (.nam, nmN (c :: r)) else if (isDg c || (c == 46 && hP isDg r)) = true then (.num, nuN (c :: r)) else if (c == 39 || c == 34) = true then
          (if hP (· == c) (r.drop (spN (fun d => isSg d && d != c) r)) = true then (.txt, spN (fun d => isSg d && d != c) r + 2) else (.opn, spN (fun d => isSg d && d != c) r + 1))
        else match sgN (c :: r) with
          | some w => (.sgn, w.length)
          | none => (.brk, 1) := rfl
    rw [htk] at h ⊢
    split
    · rename_i h1
      exact nmN_pos h1
    · split
      · rename_i h1
        exact nuN_pos h1
      · split
        · split
          · show 1 ≤ spN _ r + 2
            omega
          · show 1 ≤ spN _ r + 1
            omega
        · cases hs : sgN (c :: r) with
          | some w => exact sgN_len hs
          | none => exact Nat.le_refl _
end PX
/-! PXStr -/
namespace PX
open PySem PySem.Spec PyProof.Rows L2 TL
/-! ### texts by their codes -/
def mkS (l : List Nat) : Str := ⟨l.toArray⟩
theorem tl_mkS (l : List Nat) : tl (mkS l) = l := rfl
theorem mkS_tl (z : Str) : mkS (tl z) = z := mk_tl z
theorem mkS_len (l : List Nat) : (mkS l).length = l.length := by rw [len_tl, tl_mkS]
/-- the next sign, as a text -/
abbrev sg (l : List Nat) : Str := mkS (l.take 1)
theorem mkS_inj {a b : List Nat} (h : mkS a = mkS b) : a = b := by
  have e := congrArg tl h
  exact e
theorem lit {s : String} {l : List Nat} (h : s.toList.map Char.toNat = l := by rfl) : (Str.ofString s) = mkS l := ext_tl (by rw [tl_ofString, h, tl_mkS])
theorem dec_str (a b : Str) : decide (V.str a = V.str b) = decide (tl a = tl b) := by
  by_cases h : a = b
  · subst h
    simp
  · have h1 : ¬ V.str a = V.str b := fun e => h (V.str.inj e)
    have h2 : ¬ tl a = tl b := fun e => h (ext_tl e)
    simp [h1, h2]
theorem eqV_str (a b : Str) : eqV (.str a) (.str b) = decide (tl a = tl b) := by
  show (a == b) = _
  rw [← dec_str]
  by_cases h : a = b
  · subst h
    simp
  · have h1 : ¬ V.str a = V.str b := fun e => h (V.str.inj e)
    simp [h, h1]
def hB (p : Nat → Bool) : List Nat → Bool
  | c :: _ => p c
  | [] => false
theorem cut_nat (z : Str) (i j : Nat) : cutS z (some (i : Int)) (some (j : Int)) = mkS (((tl z).drop i).take (j - i)) := by
  refine ext_tl ?_
  show ((z.cps.toList.drop (HT.sIx z.length 0 (some (i : Int)))).take (HT.sIx z.length z.length (some (j : Int)) - HT.sIx z.length 0 (some (i : Int)))) = ((tl z).drop i).take (j - i)
  rw [HT.sIx_nat, HT.sIx_nat]
  have hl : z.length = (tl z).length := len_tl z
  rw [hl]
  show (((tl z).drop (min i (tl z).length)).take (min j (tl z).length - min i (tl z).length)) = _
  generalize tl z = t
  by_cases h : i ≤ t.length
  · rw [Nat.min_eq_left h]
    by_cases h2 : j ≤ t.length
    · rw [Nat.min_eq_left h2]
    · rw [Nat.min_eq_right (Nat.le_of_not_le h2), List.take_of_length_le (by rw [List.length_drop]; omega), List.take_of_length_le (by rw [List.length_drop]; omega)]
  · have h' := Nat.le_of_not_le h
    rw [Nat.min_eq_right h', List.drop_of_length_le (Nat.le_refl _), List.drop_of_length_le h']
    simp
theorem cut_one (z : Str) (i : Nat) : cutS z (some (i : Int)) (some ((i : Int) + 1)) = sg ((tl z).drop i) := by
  have e : ((i : Int) + 1) = ((i + 1 : Nat) : Int) := by omega
  rw [e, cut_nat, show i + 1 - i = 1 by omega]
theorem dec1 (a c : Nat) : decide ([a] = [c]) = (c == a) := by
  by_cases h : c = a
  · subst h
    simp
  · rw [decide_eq_false (fun e => h (List.cons.inj e).1.symm)]
    exact (beq_eq_false_iff_ne.mpr h).symm
theorem sg_cons (c : Nat) (r : List Nat) : sg (c :: r) = mkS [c] := rfl
theorem sg_nil : sg [] = mkS [] := rfl
/-! ### the signs -/
section
variable {P : Program} {w : World} {K : PySem.W.Frag} {mg : Str → Option Value} {base : Heap}
/-- a def of a text of one sign (or none) that tells a truth, and changes nothing -/
def spSg (p : Nat → Bool) : Sp := fun vs H Q _ => ∃ l : List Nat, vs = [.str (sg l)] ∧ ∀ H', Same H H' → Q (.bl (hB p l)) H'
theorem same_new {H : Hp} {p : Addr} {o : HO} (h : H p = none) : Same H (upd H p o) := fun b o' e => by rw [upd_ne (ne_of_none e h)]; exact e
end
end PX
/-! PXSig -/
namespace PX
open PySem PySem.Spec PyProof.Rows L2 TL
theorem hB_sg {p : Nat → Bool} {c : Nat} {r : List Nat} : hB p (c :: r) = p c := rfl
theorem lt1 (a b : Nat) : decide ([a] < [b]) = decide (a < b) := by
  by_cases h : a < b
  · rw [decide_eq_true h, decide_eq_true (List.cons_lt_cons_iff.mpr (.inl h))]
  · rw [decide_eq_false h]
    refine decide_eq_false fun e => ?_
    rcases List.cons_lt_cons_iff.mp e with e | ⟨_, e⟩
    · exact h e
    · exact absurd e (by simp)
theorem lt0 (b : Nat) : decide (([] : List Nat) < [b]) = true := decide_eq_true (List.nil_lt_cons _ _)
theorem dec1r (a c : Nat) : decide ([c] = [a]) = (c == a) := by
  by_cases h : c = a
  · subst h
    simp
  · rw [decide_eq_false (fun e => h (List.cons.inj e).1)]
    exact (beq_eq_false_iff_ne.mpr h).symm
def spSgA (p : Nat → Bool) : Sp := fun vs H Q _ => ∃ l : List Nat, vs = [.str (sg l)] ∧ (∀ c r, l = c :: r → c < 128) ∧ ∀ H', Same H H' → Q (.bl (hB p l)) H'
abbrev Ok (P : Program) (w : World) (K : PySem.W.Frag) (mg : Str → Option Value) (base : Heap) (CX : CXT) (k : Nat) (f : Addr) (ps : List Str) (sp : Sp) : Prop :=
  ∃ fd, FnOk P w K mg base CX k f fd ps sp ∧ Binds K fd ps [] ∧ PySem.W.keepIn K (.ref f) = true
section
variable {P : Program} {w : World} {K : PySem.W.Frag} {mg : Str → Option Value} {base : Heap}
theorem ok_is_sign (T : Tx w K mg) : Ok P w K mg base CX0 1 (He.fAd K d_is_sign.at_) p_is_sign (spSg isSg) := by
  obtain ⟨fd, F⟩ := f_is_sign T
  refine ⟨fd, ?_, b_is_sign F, F.kp⟩
  refine F.ok sc_is_sign (fun vs H Q E h => ?_) (fun cdv A outer s H vs Q E hr h => ?_)
  · obtain ⟨l, rfl, _⟩ := h
    rfl
  · obtain ⟨l, rfl, k⟩ := h
    refine ⟨_, PSs.nox (pss_one (ps_ret (pe_or (pe_chain op_le_str op_le_str pe_str (pv 0) pe_str) (pe_one (pe_cmpR op_in_seq (pv 0) (pe_tup (pa_cons pe_str (pa_cons pe_str pa_nil))) (by rfl)))))), ?_⟩
    have tup : ∀ (B : Bool), (B = false → hB isSg l = (inV (.str (sg l)) [.str (Str.ofString "\t"), .str (Str.ofString "\n")])) → (B = true → hB isSg l = true) → ∃ c, V.bl B = .bl c ∧ if c = true then Q (.bl true) H else
        ∃ v, (start N_is_sign [V.str (sg l)])[0]? = some (some v) ∧ (2 ≤ sizeLine) ∧ ∀ p, H p = none → rIn K false v (.ref p) (upd H p (.tup [.str (Str.ofString "\t"), .str (Str.ofString "\n")])) Q := by
      intro B h1 h2
      refine ⟨B, rfl, ?_⟩
      cases B with
      | true =>
        rw [if_pos rfl]
        have e := k H (Same.refl H)
        rw [h2 rfl] at e
        exact e
      | false =>
        rw [if_neg Bool.false_ne_true]
        refine ⟨_, rfl, (by decide), fun p hp => ⟨p, _, rfl, .inr (SqT.of upd_same), rfl, rfl, ?_⟩⟩
        show Q (.bl (if false = true then !inV _ _ else inV _ _)) _
        rw [if_neg Bool.false_ne_true, ← h1 rfl]
        exact k _ (same_new hp)
    have e9 : ∀ c r, l = c :: r → inV (.str (sg l)) [.str (Str.ofString "\t"), .str (Str.ofString "\n")] = (c == 9 || c == 10) := by
      intro c r e
      show (eqV _ _ || (eqV _ _ || false)) = _
      rw [eqV_str, eqV_str, lit (s := "\t") (l := [9]), lit (s := "\n") (l := [10]), tl_mkS, tl_mkS, tl_mkS, e]
      show (decide ([9] = [c]) || (decide ([10] = [c]) || false)) = _
      rw [dec1, dec1, Bool.or_false]
    refine ⟨_, rfl, _, _, rfl, rfl, _, rfl, ?_⟩
    rw [show (Str.ofString " ").cps.toList = [32] by rfl, show (sg l).cps.toList = l.take 1 by rfl]
    cases l with
    | nil =>
      rw [show ([] : List Nat).take 1 = [] by rfl, lt0]
      show if (!true) = true then _ else _
      rw [if_neg (by decide)]
      exact tup false (fun _ => by rfl) (fun z => by cases z)
    | cons c r =>
      rw [show (c :: r).take 1 = [c] by rfl, lt1]
      by_cases h1 : c < 32
      · rw [decide_eq_true h1]
        show if (!true) = true then _ else _
        rw [if_neg (by decide)]
        refine tup false (fun _ => ?_) (fun z => by cases z)
        rw [e9 c r rfl, hB_sg]
        unfold isSg
        have : ¬ 32 ≤ c := by omega
        simp [this]
      · rw [decide_eq_false h1]
        show if (!false) = true then _ else _
        rw [if_pos (by decide)]
        refine ⟨_, _, rfl, rfl, ?_⟩
        rw [show (Str.ofString "~").cps.toList = [126] by rfl, show (sg (c :: r)).cps.toList = [c] by rfl, lt1]
        refine tup _ (fun z => ?_) (fun z => ?_)
        · rw [e9 c r rfl, hB_sg]
          unfold isSg
          have h2 : 126 < c := by
            have z2 : decide (126 < c) = true := by
              cases q : decide (126 < c) with
              | true => rfl
              | false => rw [q] at z; cases z
            exact of_decide_eq_true z2
          have : ¬ c ≤ 126 := by omega
          simp [this]
        · rw [hB_sg]
          unfold isSg
          have h2 : ¬ 126 < c := by
            have z2 : decide (126 < c) = false := by
              cases q : decide (126 < c) with
              | false => rfl
              | true => rw [q] at z; cases z
            exact of_decide_eq_false z2
          have h3 : c ≤ 126 := by omega
          have h4 : 32 ≤ c := by omega
          simp [h3, h4]

end
end PX
/-! PXTa -/
namespace PX
open PySem PySem.Spec PyProof.Rows L2 TL
theorem iteT {c : Bool} {p q : Prop} (h : p) (e : c = true := by rfl) : if c = true then p else q := by
  rw [if_pos e]
  exact h
theorem iteF {c : Bool} {p q : Prop} (h : q) (e : c = false := by rfl) : if c = true then p else q := by
  rw [e, if_neg Bool.false_ne_true]
  exact h
/-- the texts that are read -/
structure Gd (z : Str) : Prop where
  sg : ∀ c ∈ tl z, isSg c = true
  len : z.length ≤ 400000
theorem Gd.lt {z : Str} (g : Gd z) {i : Nat} {c : Nat} {r : List Nat} (h : (tl z).drop i = c :: r) : c < 128 := by
  have m : c ∈ tl z := List.mem_of_mem_drop (i := i) (by rw [h]; exact List.mem_cons_self)
  have := g.sg c m
  unfold isSg at this
  simp only [Bool.or_eq_true, Bool.and_eq_true, decide_eq_true_eq, beq_iff_eq] at this
  omega
theorem Gd.log {z : Str} (g : Gd z) {n : Nat} (h : n ≤ z.length) : ((n : Int)).natAbs.log2 < 1920 := by
  have h1 := g.len
  have h2 : n < 2 ^ 20 := by omega
  rw [Int.natAbs_natCast]
  by_cases h0 : n = 0
  · subst h0
    decide
  · have := (Nat.log2_lt h0).mpr h2
    omega
theorem Gd.line {z : Str} (g : Gd z) : z.length ≤ sizeLine := by
  have := g.len
  rw [sizeLine_eq]
  omega
theorem drop_cons {l : List Nat} {i c : Nat} {r : List Nat} (h : l.drop i = c :: r) : i < l.length ∧ l.drop (i + 1) = r := by
  constructor
  · have := congrArg List.length h
    simp only [List.length_drop, List.length_cons] at this
    omega
  · rw [← List.drop_drop, h]
    rfl
theorem drop_add {l : List Nat} {i n : Nat} : l.drop (i + n) = (l.drop i).drop n := by rw [List.drop_drop]
theorem while_x {c : TT} {tb : TS} {D : Ends} {σ : L2.St} {H : Hp} (Pv : Nat → L2.St → Hp → Prop) (Fin : L2.St → Hp → Prop) (h0 : ∃ m, Pv m σ H) (hf : ∀ σ H, Fin σ H → D.nx σ H)
    (hs : (∀ σ H, Fin σ H → D.nx σ H) → ∀ m σ H (R : Bool → Hp → Prop), Pv m σ H → (∀ H1, Fin σ H1 → R false H1) →
      (∀ H1, tb { D with nx := fun σ' H' => ∃ m', m' < m ∧ Pv m' σ' H', ct := fun σ' H' => ∃ m', m' < m ∧ Pv m' σ' H', bk := D.nx } σ H1 → R true H1) → c σ H R) : tWhile c tb D σ H :=
  ⟨Pv, h0, fun m σ H p => hs hf m σ H _ p (fun H1 f => by rw [if_neg Bool.false_ne_true]; exact hf _ _ f) (fun H1 b => by rw [if_pos rfl]; exact ⟨_, fun _ _ z => z, b⟩)⟩
theorem hB_hP (p : Nat → Bool) (l : List Nat) : hB p l = hP p l := by cases l <;> rfl
theorem sg_is (l : List Nat) (c : Nat) : decide (V.str (sg l) = V.str (mkS [c])) = hP (· == c) l := by
  rw [dec_str, tl_mkS, tl_mkS]
  cases l with
  | nil => exact decide_eq_false (fun h => by cases h)
  | cons d r => exact dec1r c d
theorem sg_lit (l : List Nat) {s : String} {c : Nat} (h : s.toList.map Char.toNat = [c] := by rfl) : decide (V.str (sg l) = V.str (Str.ofString s)) = hP (· == c) l := by
  rw [lit h]
  exact sg_is l c
theorem sg_empty (l : List Nat) : decide (V.str (sg l) = V.str (Str.ofString "")) = l.isEmpty := by
  rw [dec_str, lit (s := "") (l := []), tl_mkS, tl_mkS]
  cases l with
  | nil => rfl
  | cons d r => exact decide_eq_false (fun h => by cases h)
theorem mem_eq {l : List Nat} {p : Nat → Bool} (h1 : (List.range 128).all (fun c => decide (c ∈ l) == p c) = true) (h2 : l.all (fun c => decide (c < 128)) = true) (h3 : ∀ c, 128 ≤ c → p c = false) (c : Nat) : decide (c ∈ l) = p c := by
  by_cases h : c < 128
  · have := List.all_eq_true.mp h1 c (List.mem_range.mpr h)
    exact eq_of_beq this
  · rw [h3 c (by omega)]
    refine decide_eq_false fun hc => ?_
    have := List.all_eq_true.mp h2 c hc
    exact h (of_decide_eq_true this)
theorem isDg_hi (c : Nat) (h : 128 ≤ c) : isDg c = false := by
  unfold isDg
  rw [decide_eq_false (p := c ≤ 57) (by omega), Bool.and_false]
def spTo (p : Nat → Bool) : Sp := fun vs H Q _ => ∃ (z : Str) (i : Nat), vs = [.str z, .int i] ∧ Gd z ∧ ∀ H', Same H H' → Q (.int ((i + spN p ((tl z).drop i) : Nat) : Int)) H'
end PX
/-! PXTr -/
namespace PX
open PySem PySem.Spec PyProof.Rows L2 TL PySem.Builtin PySem.Builtin.Str
/-! ### text.translate(table), a table that gives a blank for some small signs -/
def TabT (p : Nat → Bool) (f : Int → Option Value) : Prop := ∀ c : Nat, c < 128 → (p c = true → ∃ tk, f c = some (.str (Str.ofString " ") tk)) ∧ (p c = false → f c = none)
def exch (p : Nat → Bool) (c : Nat) : Nat := if p c then 32 else c
def mapd (p : Nat → Bool) (c : Nat) : Mapped := if p c then .text (Str.ofString " ") else .keep
section
variable {P : Program} {w : World}
theorem tab_keeps {h1 h2 : Heap} {d : Addr} {f : Int → Option Value} (m : h1.MapOf (intKind P w) d f) (k : ∀ a o, h1.get? a = some o → h2.get? a = some o) : h2.MapOf (intKind P w) d f :=
  let ⟨o, es, n, e, r⟩ := m
  ⟨o, es, n, k _ _ e, r⟩
theorem look_tab {p : Nat → Bool} {f : Int → Option Value} {A : Around} {s : Shared} {d : Addr} {c : Nat} {Q : Mapped → Shared → Prop} {E : Value → Shared → Prop} (quiet : A.handled = none) (low : (d == sysModules) = false)
    (m : s.heap.MapOf (intKind P w) d f) (tb : TabT p f) (hc : c < 128) (q : ∀ h2 k, (∀ a o, s.heap.get? a = some o → h2.get? a = some o) → Q (mapd p c) { s with heap := h2, toks := k }) :
    wpAny (model P w) A (tableLookup (.ref d) c) Q E s := by
  obtain ⟨t1, t2⟩ := tb c hc
  unfold tableLookup
  apply wpAny_bind
  apply wpAny_attempt
  apply wpAny_bind
  apply wpAny_mkInt
  cases hp : p c with
  | true =>
    obtain ⟨tk, e⟩ := t1 hp
    have em : mapd p c = .text (Str.ofString " ") := by
      unfold mapd
      rw [hp]
      rfl
    rw [em] at q
    refine wpAny_getItem_of (knd := intKind P w) (k := (c : Int)) ?_ m e ?_
    rotate_left
    · apply wpAny_bind
      apply wpAny_of_eq (a := (none : Option Int)) rfl
      apply wpAny_bind
      apply wpAny_of_eq (a := some (Str.ofString " ")) rfl
      exact wpAny_pure (q _ _ fun _ _ z => z)
    · simp [intKind, Value.isInt]
  | false =>
    have e := t2 hp
    have em : mapd p c = .keep := by
      unfold mapd
      rw [hp]
      rfl
    rw [em] at q
    refine wpAny_getItem_missing_of (knd := intKind P w) (k := (c : Int)) ?_ low quiet m e ?_
    rotate_left
    · intro h2 er nx
      obtain ⟨ob, _, ho, hcl, _⟩ := nx.there
      apply wpAny_bind
      refine wpAny_isInstance (T := "KeyError") (b := true) ?_ key_is_lookup ?_
      · exact ⟨ob, ho, hcl⟩
      show wpAny _ _ (if true = true then _ else _) _ _ _
      rw [if_pos rfl]
      exact wpAny_bind (wpAny_rule (wpAny_pure (q h2 _ nx.keeps)))
    · simp [intKind, Value.isInt]
/-- what stands while the signs are gone through -/
def Walked (p : Nat → Bool) (x : List Nat) (s : Shared) (rest : List Nat) (b : List Str × Nat × Bool × List (Nat × Option Nat) × Bool) (s2 : Shared) : Prop :=
  ∃ (done : List Nat) (known : List (Nat × Option Nat)) (h2 : Heap) (k : Nat), x = done ++ rest ∧ b = ((done.map fun c => (⟨#[exch p c]⟩ : Str)).reverse, done.length, true, known, false) ∧
    (∀ c r, known.lookup c = some r → r = some (exch p c)) ∧ s2 = { s with heap := h2, toks := k } ∧ ∀ a o, s.heap.get? a = some o → h2.get? a = some o
theorem Walked.on {p : Nat → Bool} {x done rest : List Nat} {c : Nat} {s : Shared} {known : List (Nat × Option Nat)} {h2 : Heap} {k : Nat} (hx : x = done ++ c :: rest) (hk : ∀ c r, known.lookup c = some r → r = some (exch p c)) (kp : ∀ a o, s.heap.get? a = some o → h2.get? a = some o) :
    Walked p x s rest (⟨#[exch p c]⟩ :: (done.map fun c => (⟨#[exch p c]⟩ : Str)).reverse, done.length + 1, true, known, false) { s with heap := h2, toks := k } := by
  refine ⟨done ++ [c], known, h2, k, by rw [hx, List.append_assoc]; rfl, ?_, hk, rfl, kp⟩
  rw [List.map_append, List.reverse_append, List.length_append]
  rfl
theorem known_add {p : Nat → Bool} {known : List (Nat × Option Nat)} (hk : ∀ c r, known.lookup c = some r → r = some (exch p c)) (c : Nat) : ∀ d r, List.lookup d ((c, some (exch p c)) :: known) = some r → r = some (exch p d) := by
  intro d r h
  rw [List.lookup_cons] at h
  cases q : d == c with
  | true =>
    rw [q] at h
    rw [eq_of_beq q]
    exact (Option.some.inj h).symm
  | false =>
    rw [q] at h
    exact hk d r h
theorem fold_one (p : Nat → Bool) : ∀ (l : List Nat) (acc : Array Nat), (l.map fun c => (⟨#[exch p c]⟩ : Str)).foldl (fun acc y => acc ++ y.cps) acc = acc ++ (l.map (exch p)).toArray
  | [], acc => by simp
  | c :: l, acc => by
    show (l.map fun c => (⟨#[exch p c]⟩ : Str)).foldl (fun acc y => acc ++ y.cps) (acc ++ #[exch p c]) = _
    rw [fold_one p l]
    refine Array.toList_inj.mp ?_
    simp
theorem meets_tab (p : Nat → Bool) (x : List Nat) (tk : Tok) (d : Addr) (low : (d == sysModules) = false) (small : ∀ c ∈ x, c < 128) (hz : x.length ≤ 16000000) :
    MeetsIn P w («str.translate» ⟨[.str (SX.S x) tk, .ref d], []⟩) (fun A R s => A.handled = none ∧ (∃ f, s.heap.MapOf (intKind P w) d f ∧ TabT p f) ∧
      ∀ (v : Value) (h2 : Heap) (k : Nat), (∀ a o, s.heap.get? a = some o → h2.get? a = some o) → (∃ tk, v = .str (SX.S (x.map (exch p))) tk) → R (.ok (.ret v)) { s with heap := h2, toks := k }) := by
  refine .of_wp fun A R s hyp => ?_
  obtain ⟨quiet, ⟨f, m, tb⟩, fin⟩ := hyp
  have quiet1 : A.in1.handled = none := quiet
  have hall : (SX.S x).cps.all (fun y => decide (y < 128)) = true := by
    rw [Array.all_eq_true_iff_forall_mem]
    intro c hc
    exact decide_eq_true (small c (by simpa using hc))
  show wpAny _ _ (if ((SX.S x).length == 0) = true then (do rule "str.translate.empty"; ret (.str (SX.S x) tk)) else (do
    let st ← forIn (SX.S x).cps (([], 0, (SX.S x).cps.all fun y => decide (y < 128), [], false) : List Str × Nat × Bool × List (Nat × Option Nat) × Bool) _
    _)) _ _ s
  rw [hall]
  cases h0 : ((SX.S x).length == 0) with
  | true =>
    rw [if_pos rfl]
    have e : x = [] := List.eq_nil_of_length_eq_zero (by rw [← SX.S_len x]; exact eq_of_beq h0)
    subst e
    exact wpAny_bind (wpAny_rule (wpAny_pure ⟨_, rfl, fin _ s.heap s.toks (fun _ _ z => z) ⟨tk, rfl⟩⟩))
  | false =>
    rw [if_neg Bool.false_ne_true]
    refine wpAny_bind (MeetsSeq2.wpAny_forIn_array _ (Walked p x s) _ ?_ ?_ (SX.S x).cps _ ?_)
    rotate_left 2
    · refine ⟨[], [], s.heap, s.toks, by simp, rfl, ?_, rfl, fun _ _ z => z⟩
      intro c r z
      cases z
    · rintro c rest b s2 ⟨done, known, h2, k, hx, rfl, hk, rfl, kp⟩
      have hd : done.length ≤ 16000000 := by
        have := congrArg List.length hx
        rw [List.length_append] at this
        omega
      have hc : c < 128 := small c (by rw [hx]; exact List.mem_append_right _ List.mem_cons_self)
      have m2 : ({ s with heap := h2, toks := k } : Shared).heap.MapOf (intKind P w) d f := tab_keeps m kp
      show wpAny _ _ (if tooLong done.length = true then _ else (if true = true then _ else _)) _ _ _
      rw [show tooLong done.length = false from PyProof.Rows.short24 (by omega), if_neg Bool.false_ne_true, if_pos rfl]
      cases hl : known.lookup c with
      | some a =>
        have ha := hk c a hl
        subst ha
        exact wpAny_bind (wpAny_pure (wpAny_pure (Walked.on hx hk kp)))
      | none =>
        refine wpAny_bind (look_tab quiet1 low m2 tb hc fun h3 k3 kp3 => ?_)
        have kp' : ∀ a o, s.heap.get? a = some o → h3.get? a = some o := fun a o z => kp3 a o (kp a o z)
        have w1 := Walked.on (k := k3) hx (known_add hk c) kp'
        cases hp : p c with
        | true =>
          have e1 : mapd p c = .text (Str.ofString " ") := by unfold mapd; rw [hp]; rfl
          have e2 : exch p c = 32 := by unfold exch; rw [hp]; rfl
          rw [e1]
          rw [e2] at w1
          have e3 : (if ((Str.ofString " ").length == 1 && (Str.ofString " ").cps.all fun x => decide (x < 128)) = true then some (Str.ofString " ").cps[0]? else none) = some (some 32) := by decide +kernel
          dsimp only
          rw [e3]
          exact wpAny_bind (wpAny_pure (wpAny_pure w1))
        | false =>
          have e1 : mapd p c = .keep := by unfold mapd; rw [hp]; rfl
          have e2 : exch p c = c := by unfold exch; rw [hp]; rfl
          rw [e1]
          rw [e2] at w1
          exact wpAny_bind (wpAny_pure (wpAny_pure w1))
    · rintro b s2 ⟨done, known, h2, k, hx, rfl, hk, rfl, kp⟩
      rw [List.append_nil] at hx
      subst hx
      show wpAny _ _ (if tooLong x.length = true then _ else retStr { cps := List.foldl (fun acc (y : Str) => acc ++ y.cps) #[] (x.map fun c => (⟨#[exch p c]⟩ : Str)).reverse.reverse }) _ _ _
      rw [show tooLong x.length = false from PyProof.Rows.short24 (by omega), if_neg Bool.false_ne_true, List.reverse_reverse, fold_one]
      have e : (⟨#[] ++ (x.map (exch p)).toArray⟩ : Str) = SX.S (x.map (exch p)) := by rw [Array.empty_append]
      rw [e]
      exact wpAny_bind (wpAny_mkStr (wpAny_pure ⟨_, rfl, fin _ h2 _ kp ⟨_, rfl⟩⟩) (by rw [SX.S_len, List.length_map, sizeLine_eq]; omega))
end
end PX
/-! PXT -/
namespace PX
open PySem PySem.Spec PyProof.Rows L2 TL PySem.Builtin PySem.Builtin.Str
/-! ### tests and calls that want a token given out before -/
def PTT (X : Cx) (c : Expr) (t : TT) : Prop := ∀ (pins : List (Addr × Obj)) (s : Shared) (σ : L2.St) (H : Hp) (Q : Bool → Hp → Prop), 1 ≤ s.toks → Inv X pins σ H s → t σ H Q → wpAny (model X.prog X.w) X.A (isTrue c X.env (eval c X.env)) (TP X pins σ Q) X.xe s
section
variable {X : Cx} {pos p apos : Pos}
theorem ptt_or {a b : Expr} {ta tb : TT} (ha : PT X a ta) (hb : PTT X b tb) : PTT X (.BoolOp .Or [a, b] pos) (tOr ta tb) := by
  intro pins s σ H Q h0 I h
  refine isTrue_or (wpAny_mono (PySem.wpAny_toks (ha.run pins s σ H _ I h)) (fun c s1 q => ?_) fun _ _ z => z.2)
  obtain ⟨hk, H1, I1, q1⟩ := q
  cases c with
  | true => exact ⟨H1, I1, q1⟩
  | false =>
    refine isTrue_or (thn (hb pins s1 σ H1 Q (Nat.le_trans h0 hk) I1 q1) fun d s2 q2 => ?_)
    cases d with
    | true => exact q2
    | false => exact isTrue_or_nil q2
theorem ptt_val {e : Expr} {t : TE} (h : PET X e t) (he : ∀ whole, isTrue e X.env whole = (do let v ← whole; standAt e.pos; holding [v] (truthy v)) := by intro _; rfl) : PTT X e (tB t) := by
  intro pins s σ H Q h0 I hw
  refine isTrue_plain (thn (h pins s σ H _ h0 I hw) fun v s1 ⟨x, H1, I1, r1, c, e1, q1⟩ => ?_) (he _)
  subst e1
  cases r1
  exact wpAny_truthy_bool ⟨H1, I1, q1⟩
theorem pst_ifT {c : Expr} {a b : List Stmt} {tc : TT} {t u : TS} (hc : PTT X c tc) (ha : PSsT X a t) (hb : PSsT X b u) : PST X (.If c a b pos) (tIfS tc t u) := by
  intro pins s σ H D h0 I h
  refine wpAny_If (wpAny_mono (PySem.wpAny_toks (hc pins s σ H _ h0 I h)) (fun d s1 q => ?_) fun _ _ z => z.2)
  obtain ⟨hk, H1, I1, q1⟩ := q
  have hk1 := Nat.le_trans h0 hk
  cases d
  · exact hb pins s1 σ H1 D hk1 I1 q1
  · exact ha pins s1 σ H1 D hk1 I1 q1
theorem pet_call {CX : CXT} {k : Nat} {f : Addr} {fd : FuncData} {ps : List Str} {sp : Sp} {E : XK} {x : Str} {e : Expr} {es : List Expr} {t : TA} (F : FnOk X.prog X.w X.K X.mg X.base CX k f fd ps sp) (hr : Room k X.A) (hg : Gl X x) (hm : X.mg x = some (.ref f)) (hk : PySem.W.keepIn X.K (.ref f) = true) (hb : Binds X.K fd ps []) (hx : Passes CX X E)
    (ha : PAT X (e :: es) t) (hdb : (x == ("__debug__" : Str)) = false := by decide) (he : starEach (e :: es) X.env = (false, eval e X.env) :: starEach es X.env := by rfl) (hpl : (backTo pos (starEach es X.env)).any (·.1) = false := by rfl) :
    PET X (.Call (.Name x p) (e :: es) [] pos) (tCall sp [] E t) := by
  intro pins s σ H Q h0 I h
  refine wpAny_Call_Name_kw (ld_glob I hg hm ?_ hdb)
  exact PySem.W.callWith_K (h₀ := X.base) I.ok.mod.kin hk (thn (ha pos pins s σ H _ h0 I h) fun us s1 ⟨vs, H1, I1, r, q⟩ => ⟨I1.kIn, run_fn F hr hb .nil hx I1 r q⟩) he hpl
theorem pet_bm0 {T id : String} {name : Str} {r : V → List V → Hp → VK → Prop} {o : Expr} {to : TE} (pa : PlainAttrs T) (slot : Slot T name id) (hty : typeOf (.builtin id) = pure (.type "method_descriptor")) (hm : MtR X id r) (ho : PET X o to)
    (hbase : attributeBase o name X.env (eval o X.env) = eval o X.env := by rfl) (hline : (apos.endLine == pos.line) = true := by rfl) : PET X (.Call (.Attribute o name apos) [] [] pos) (tBM0 X.K T r to) := by
  intro pins s σ H Q h0 I h
  refine wpAny_Call_method0_late hbase hline (thn (ho pins s σ H _ h0 I h) fun v s1 ⟨x, H1, I1, rx, ty, q1⟩ => ?_)
  have hty2 := tyV_is I1 rx ty
  exact ⟨T, id, pa, slot, hty, hty2.1, hty2.2, Calls.callWith_builtin rfl (PySem.evalArgs_none (hm pins s1 σ H1 x [] v [] Q I1 rx .nil q1))⟩
theorem psst_nox {st : List Stmt} {t : TS} (h : PSsT X.nox st t) : PSsT X st t := fun pins s σ H D h0 I hw =>
  wpAny_mono (h pins s σ H D h0 (Inv.wish I fun _ _ => False) hw) (fun _ _ q => SP.unwish q) fun _ _ z => z.elim
end
theorem okT {P : Program} {w : World} {K : PySem.W.Frag} {mg : Str → Option Value} {base : Heap} {x qual : Str} {params : Arguments} {body : List Stmt} {scope : Scope} {dvs : List V} {kws : List (Str × V)} {f : Addr} {fd : FuncData} {CX : CXT} {N ps : List Str} {k : Nat} {sp : Sp}
    (F : FunD K x qual params body scope dvs kws f fd) (S : FnScope N ps scope) (hnc : ∀ y ∈ scope.names, y.2 ≠ .cell) (hps : 1 ≤ ps.length) (len : ∀ vs H Q E, sp vs H Q E → vs.length = ps.length)
    (hbody : ∀ (cdv : Value) (A : Around) (outer : List Env) (s : Shared) (H : Hp) (vs : List V) (Q : VK) (E : XK), Room k (A.deeper (envOfC qual scope s.heap.objs.size f cdv)) → sp vs H Q E →
      ∃ t, PSsT (cxOf CX P w K mg base N qual scope f cdv A outer s H E) body t ∧ t { nx := fun x H' => Q V.non H', rt := Q } (L2.start N vs) H) : FnOk P w K mg base CX (k + 1) f fd ps sp := by
  obtain ⟨oc, od, dV, kV, doc, pm, an, cdv, ct, osl, hfd, lk, hcd, _, _⟩ := F.ex
  subst hfd
  exact fn_ofT lk hcd S hnc hps len fun A outer s H vs Q E hr hsp => hbody cdv A outer s H vs Q E hr hsp
/-! ### text.replace(one, two, 1) -/
def repl1 (x y z : Str) : Str := if ((occurrences x y 0 x.length 1).isEmpty || (y.length == 0 && z.length == 0)) = true then x else glued z (partsBetween x (occurrences x y 0 x.length 1) y.length)
theorem gives_replace1 (x y z : Str) (t u v k : Tok) (hu : u ≠ 0) (hv : v ≠ 0) (huv : u ≠ v) (hyz : (y == z) = false) (hl : tooLong (x.length + (occurrences x y 0 x.length 1).length * z.length) = false) :
    Gives («str.replace» ⟨[.str x t, .str y u, .str z v, .int 1 k], []⟩) (if ((occurrences x y 0 x.length 1).isEmpty || (y.length == 0 && z.length == 0)) = true then .val (.str x t) else .str (glued z (partsBetween x (occurrences x y 0 x.length 1) y.length))) := by
  show Gives (if ((occurrences x y 0 x.length 1).isEmpty || (y.length == 0 && z.length == 0)) = true then (do rule "str.replace.nothing"; ret (.str x t)) else
    (do
      let same ← isSame (.str y u) (.str z v)
      if same = true then (do rule "str.replace.old-is-new"; ret (.str x t)) else
        if tooLong (x.length + (occurrences x y 0 x.length 1).length * z.length) = true then unsupported "str.replace:memory" else retStr (glued z (partsBetween x (occurrences x y 0 x.length 1) y.length)))) _
  cases hc : ((occurrences x y 0 x.length 1).isEmpty || (y.length == 0 && z.length == 0)) with
  | true =>
    rw [if_pos rfl, if_pos rfl]
    exact .rule (.of_eq rfl)
  | false =>
    rw [isSame_str_other y z u v (by simp [hu, hv]) (by simp [huv]) hyz, hl]
    exact .of_eq rfl
def tRepl1 (to : TE) (y z : Str) : TE := fun σ H Q => to σ H fun v H1 => ∃ x, v = .str x ∧ x.length + z.length ≤ 16777216 ∧ Q (.str (repl1 x y z)) H1
theorem glued_fits {x y z : Str} (hl : tooLong (x.length + (occurrences x y 0 x.length 1).length * z.length) = false) : (glued z (partsBetween x (occurrences x y 0 x.length 1) y.length)).length ≤ sizeLine := by
  have hy : (glued y (partsBetween x (occurrences x y 0 x.length 1) y.length)).length = x.length := by rw [StrLaws.glued_between_self]
  rw [size_glued, length_partsBetween, Nat.add_sub_cancel] at hy
  rw [size_glued, length_partsBetween, Nat.add_sub_cancel]
  unfold tooLong at hl
  have hl := of_decide_eq_false hl
  omega
theorem pet_repl1 {X : Cx} {o : Expr} {to : TE} {y z : Str} {j k m : Nat} {c0 c1 c2 apos pos : Pos} (ho : PE X o to) (hyz : (y == z) = false := by decide)
    (hst : starEach [.Constant (.str y) j c0, .Constant (.str z) k c1, .Constant (.int 1) m c2] X.env = [(false, eval (.Constant (.str y) j c0) X.env), (false, eval (.Constant (.str z) k c1) X.env), (false, eval (.Constant (.int 1) m c2) X.env)] := by rfl)
    (hbase : attributeBase o "replace" X.env (eval o X.env) = eval o X.env := by rfl) (hline : (apos.endLine == pos.line) = true := by rfl) :
    PET X (.Call (.Attribute o "replace" apos) [.Constant (.str y) j c0, .Constant (.str z) k c1, .Constant (.int 1) m c2] [] pos) (tRepl1 to y z) := by
  intro pins s σ H Q h0 I h
  refine wpAny_Call_method_lateS hbase (by rw [hst]; rfl) hline ?_
  rw [hst]
  refine wpAny_mono (PySem.wpAny_toks (ho.run pins s σ H _ I h)) (fun v s1 q => ?_) fun _ _ z => z.2
  obtain ⟨hk, v', H1, I1, r1, x, e1, hb, q⟩ := q
  subst e1
  obtain ⟨tx, rfl⟩ := r1
  have hl : tooLong (x.length + (occurrences x y 0 x.length 1).length * z.length) = false := by
    have h1 := StrLaws.occ_length_le x y 0 x.length 1
    have h2 : (occurrences x y 0 x.length 1).length * z.length ≤ 1 * z.length := Nat.mul_le_mul_right _ h1
    have e : (2 : Nat) ^ 24 = 16777216 := by decide
    unfold tooLong sizeLine
    exact decide_eq_false (by omega)
  refine ⟨"str", _, PySem.F.plainAttrs_str, PySem.F.slot_str_replace, PySem.F.type_str_replace, typeIs_str _ _ _, (fun _ e => nomatch e), ?_⟩
  refine Calls.callWith_builtin rfl (Calls.evalArgs_plain ?_)
  refine Calls.spliced_cons ?_
  refine Calls.Constant_str (k := j) (pos := c0) ?_
  refine Calls.spliced_cons ?_
  refine Calls.Constant_str (k := k) (pos := c1) ?_
  refine Calls.spliced_cons ?_
  refine thn ((pe_int (j := m) (pos := c2)).run pins _ σ H1 (fun v H2 => v = .int 1 ∧ H2 = H1) ((I1.tok (s1.toks + 1)).tok _) ⟨rfl, rfl⟩) fun u s2 ⟨v2, H2, I2, r2, e2⟩ => ?_
  obtain ⟨rfl, rfl⟩ := e2
  obtain ⟨t2, rfl⟩ := r2
  refine Calls.spliced_nil ?_
  refine call_gives F.slot_str_replace (typeIs_str _ _ _) F.entry_str_replace (F.args_str_replace_4 _ _ _ _) (gives_replace1 x y z tx s1.toks (s1.toks + 1) t2 (by show s1.toks ≠ 0; omega) (Nat.succ_ne_zero _) (by show s1.toks ≠ s1.toks + 1; omega) hyz hl) ?_
  unfold repl1 at q
  cases hc : ((occurrences x y 0 x.length 1).isEmpty || (y.length == 0 && z.length == 0)) with
  | true =>
    rw [hc, if_pos rfl] at q
    rw [if_pos rfl]
    exact ⟨.str x, H2, I2, ⟨tx, rfl⟩, q⟩
  | false =>
    rw [hc, if_neg Bool.false_ne_true] at q
    rw [if_neg Bool.false_ne_true]
    exact ⟨glued_fits hl, .str _, H2, I2.tok _, ⟨_, rfl⟩, q⟩
end PX
/-! PXU -/
namespace PX
open PySem PySem.Spec PyProof.Rows L2 TL PySem.Builtin PySem.Builtin.Str
/-- the table stands in the written part -/
structure TabK (K : PySem.W.Frag) (P : Program) (w : World) (d : Addr) (p : Nat → Bool) : Prop where
  low : (d == sysModules) = false
  tab : ∀ h : Heap, K.In h → ∃ f, h.MapOf (intKind P w) d f ∧ TabT p f
theorem mt_tab {X : Cx} {d : Addr} {p : Nat → Bool} (calm : X.calm = true) (T : TabK X.K X.prog X.w d p) : MtR X "str.translate" (fun x xs H Q => ∃ l : List Nat, x = .str (SX.S l) ∧ xs = [.ref d] ∧ (∀ c ∈ l, c < 128) ∧ l.length ≤ 16000000 ∧ Q (.str (SX.S (l.map (exch p)))) H) := by
  intro pins s σ H x xs v us Q I rx rs ⟨l, e1, e2, small, hz, q⟩
  subst e1 e2
  obtain ⟨tk, rfl⟩ := rx
  match us, rs with
  | [u], .cons r1 .nil =>
    obtain rfl : u = .ref d := r1
    refine call_meetsIn F.slot_str_translate (typeIs_str _ _ _) F.entry_str_translate (F.args_str_translate_2 _ _) (meets_tab p l tk d T.low small hz) ⟨I.ok.hd calm, T.tab _ I.kIn, fun v h2 k kp hv => ?_⟩
    obtain ⟨t2, rfl⟩ := hv
    exact ⟨.str _, H, I.kept (t' := k) kp, ⟨t2, rfl⟩, q⟩
theorem isInt_key {v : Value} {i : Int} (h : v.isInt i = true) : ∃ t, v = .int i t := Value.isInt_shape h
/-- the table, from the entries that the head left -/
theorem tab_find : ∀ (es : List DictEntry) (l : List (Int × Str)), es.length = l.length → ((es.zip l).all fun q => q.1.key.isInt q.2.1 && (decide (q.1.hash = hashInt q.2.1) && q.1.val.isStr q.2.2)) = true →
    (∀ e ∈ es, ∃ k, e.key.isInt k = true ∧ e.hash = hashInt k) ∧ ∀ k : Int, ((l.lookup k = none → (es.find? fun e => e.key.isInt k) = none) ∧ ∀ z, l.lookup k = some z → ∃ e t, (es.find? fun e => e.key.isInt k) = some e ∧ e.val = .str z t)
  | [], [], _, _ => ⟨fun e h => (by cases h), fun k => ⟨fun _ => rfl, fun z h => (by cases h)⟩⟩
  | e :: es, (i, z) :: l, hl, h => by
    rw [List.zip_cons_cons, List.all_cons, Bool.and_eq_true, Bool.and_eq_true, Bool.and_eq_true] at h
    obtain ⟨⟨h1, h2, h3⟩, h4⟩ := h
    obtain ⟨ih1, ih2⟩ := tab_find es l (Nat.succ.inj hl) h4
    refine ⟨fun a ha => ?_, fun k => ?_⟩
    · rcases List.mem_cons.mp ha with rfl | ha
      · exact ⟨i, h1, of_decide_eq_true h2⟩
      · exact ih1 a ha
    · obtain ⟨t, ek⟩ := Value.isInt_shape h1
      have hk : e.key.isInt k = decide (k = i) := by
        rw [ek]
        show (i == k) = _
        by_cases q : k = i
        · subst q
          simp
        · simp [q, Ne.symm q]
      rw [List.find?_cons, hk, List.lookup_cons]
      by_cases q : k = i
      · subst q
        rw [decide_eq_true rfl, beq_self_eq_true]
        refine ⟨fun n => (by cases n), fun y hy => ⟨e, ?_⟩⟩
        cases hy
        cases q2 : e.val with
        | str a t2 =>
          rw [q2] at h3
          have h4 : (a == z) = true := h3
          rw [eq_of_beq h4]
          exact ⟨t2, rfl, rfl⟩
        | _ =>
          rw [q2] at h3
          cases h3
      · have q2 : (k == i) = false := beq_eq_false_iff_ne.mpr q
        rw [decide_eq_false q, q2]
        exact ih2 k
  | [], _ :: _, hl, _ => by cases hl
  | _ :: _, [], hl, _ => by cases hl
theorem tab_of {K : PySem.W.Frag} {x : Str} {l : List (Int × Str)} (h : intsB K x l = true) (P : Program) (w : World) (p : Nat → Bool) (hp : ∀ c, c < 128 → (p c = true → l.lookup ((c : Nat) : Int) = some (Str.ofString " ")) ∧ (p c = false → l.lookup ((c : Nat) : Int) = none)) : TabK K P w (He.ga K x) p := by
  unfold intsB at h
  rw [Bool.and_eq_true, Bool.not_eq_true'] at h
  obtain ⟨h0, h⟩ := h
  refine ⟨h0, fun g hg => ?_⟩
  cases q : K.lookup (He.ga K x) with
  | none => rw [q] at h; cases h
  | some o =>
    obtain ⟨oc, od, dt, sl⟩ := o
    rw [q] at h
    cases oc with
    | type n =>
      cases od with
      | none =>
        cases dt with
        | dict es ep =>
          dsimp only at h
          rw [Bool.and_eq_true, Bool.and_eq_true, Bool.and_eq_true] at h
          obtain ⟨a1, a2, a3, a4⟩ := h
          obtain ⟨t1, t2⟩ := tab_find es.toList l (of_decide_eq_true a3) a4
          have e1 : n = "dict" := of_decide_eq_true a1
          have e2 : sl = #[] := of_decide_eq_true a2
          subst e1 e2
          refine ⟨fun k => findBy Value.isInt es k, ⟨_, es, ep, hg _ _ q, ⟨rfl, rfl, rfl⟩, rfl, fun e he => t1 e (Array.mem_toList_iff.mpr he), fun k => rfl⟩, fun c hc => ?_⟩
          have hf : findBy Value.isInt es ((c : Nat) : Int) = ((es.toList.find? fun e => e.key.isInt ((c : Nat) : Int)).map (·.val)) := by
            unfold findBy
            rw [← Array.find?_toList]
          obtain ⟨b1, b2⟩ := t2 ((c : Nat) : Int)
          obtain ⟨p1, p2⟩ := hp c hc
          refine ⟨fun z => ?_, fun z => ?_⟩
          · obtain ⟨e, t, f1, f2⟩ := b2 _ (p1 z)
            refine ⟨t, hf.trans ?_⟩
            rw [f1]
            exact congrArg some f2
          · refine hf.trans ?_
            rw [b1 (p2 z)]
            rfl
        | _ => cases h
      | some _ => cases h
    | _ => cases od <;> cases dt <;> cases h
end PX
/-! PXFd -/
namespace PX
open PySem PySem.Spec PyProof.Rows L2 TL
/-- the first place of a text in another -/
def fdN (S : List Nat) : List Nat → Option Nat
  | [] => if S = [] then some 0 else none
  | c :: r => if (c :: r).take S.length = S then some 0 else (fdN S r).map (· + 1)
theorem fdN_some {S : List Nat} : ∀ {l : List Nat} {j : Nat}, fdN S l = some j → (l.drop j).take S.length = S ∧ ∀ k, k < j → (l.drop k).take S.length ≠ S
  | [], j, h => by
    unfold fdN at h
    split at h
    · rename_i e
      cases h
      subst e
      exact ⟨rfl, fun k hk => by omega⟩
    · cases h
  | c :: r, j, h => by
    unfold fdN at h
    split at h
    · rename_i e
      cases h
      exact ⟨e, fun k hk => by omega⟩
    · rename_i e
      cases q : fdN S r with
      | none => rw [q] at h; cases h
      | some m =>
        rw [q] at h
        cases h
        obtain ⟨h1, h2⟩ := fdN_some q
        refine ⟨h1, fun k hk => ?_⟩
        cases k with
        | zero => exact e
        | succ k =>
          have hk' : k + 1 < m + 1 := hk
          exact h2 k (by omega)
theorem fdN_none {S : List Nat} (hS : S ≠ []) : ∀ {l : List Nat}, fdN S l = none → ∀ k, (l.drop k).take S.length ≠ S
  | [], h, k => by
    intro e
    simp at e
    exact hS e
  | c :: r, h, k => by
    unfold fdN at h
    split at h
    · cases h
    · rename_i e
      have q : fdN S r = none := by
        cases q : fdN S r with
        | none => rfl
        | some m => rw [q] at h; cases h
      cases k with
      | zero => exact e
      | succ k => exact fdN_none hS q k
theorem fdN_of {S l : List Nat} {j : Nat} (hS : S ≠ []) (h1 : (l.drop j).take S.length = S) (h2 : ∀ k, k < j → (l.drop k).take S.length ≠ S) : fdN S l = some j := by
  cases q : fdN S l with
  | none => exact absurd h1 (fdN_none hS q j)
  | some m =>
    obtain ⟨a, b⟩ := fdN_some q
    have : m = j := by
      rcases Nat.lt_trichotomy m j with h | h | h
      · exact absurd a (h2 m h)
      · exact h
      · exact absurd h1 (b j h)
    rw [this]
open StrLaws Builtin.Str in
theorem occ_fd (x y : Str) (lo hi : Nat) (h1 : lo ≤ hi) (h2 : hi ≤ x.length) (hy : tl y ≠ []) :
    (fdN (tl y) (((tl x).drop lo).take (hi - lo)) = none ∧ occurrences x y lo hi 1 = []) ∨ ∃ j r, fdN (tl y) (((tl x).drop lo).take (hi - lo)) = some j ∧ occurrences x y lo hi 1 = (lo + j) :: r := by
  have hx := len_tl x
  have hl := len_tl y
  have hp : 0 < (tl y).length := List.length_pos_iff.mpr hy
  have conv : ∀ j, ((((tl x).drop lo).take (hi - lo)).drop j).take (tl y).length = tl y ↔ StrLaws.At x y hi (lo + j) := by
    intro j
    unfold StrLaws.At
    rw [subAt_eq, beq_iff_eq]
    show _ ↔ _ ∧ ((tl x).drop (lo + j)).take y.length = tl y
    rw [hl, List.drop_take, List.drop_drop, List.take_take]
    constructor
    · intro e
      have e1 := congrArg List.length e
      rw [List.length_take, List.length_drop] at e1
      have e2 : min (tl y).length (hi - lo - j) = (tl y).length := by omega
      rw [e2] at e
      exact ⟨by omega, e⟩
    · rintro ⟨a, b⟩
      rw [Nat.min_eq_left (by omega)]
      exact b
  rw [occ_eq]
  rcases occ_first x y hi 1 (Nat.le_refl _) (List.range' lo (hi + 1 - lo)) lo (fun i h => by simp [List.mem_range'] at h; omega) with ⟨h0, hn⟩ | ⟨pre, a, post, e, h0, ha, hn⟩
  · refine .inl ⟨?_, by rw [h0]⟩
    cases q : fdN (tl y) (((tl x).drop lo).take (hi - lo)) with
    | none => rfl
    | some j =>
      have z := (conv j).mp (fdN_some q).1
      have z2 := z.1
      exact absurd z (hn (lo + j) (by simp [List.mem_range']; omega))
  · have hmem : a ∈ List.range' lo (hi + 1 - lo) := by rw [e]; simp
    have hlo : lo ≤ a := by simp [List.mem_range'] at hmem; omega
    have hall : ∀ k, lo ≤ k → k < a → k ∈ pre := by
      intro k k1 k2
      have hL : hi + 1 - lo = pre.length + (post.length + 1) := by
        have := congrArg List.length e
        simpa using this
      have hlen : lo + pre.length = a := by
        have h1 : (List.range' lo (hi + 1 - lo))[pre.length]? = some a := by rw [e]; simp
        rw [List.getElem?_range'] at h1
        · simpa using h1
        · omega
      have h2 : (List.range' lo (hi + 1 - lo))[k - lo]? = pre[k - lo]? := by rw [e, List.getElem?_append_left (by omega)]
      rw [List.getElem?_range'] at h2
      · have h3 : pre[k - lo]? = some k := by
          rw [← h2]
          simp
          omega
        exact List.mem_of_getElem? h3
      · omega
    refine .inr ⟨a - lo, ((forIn (List.range' lo (hi + 1 - lo)) ((#[] : Array Nat), lo) (occBody x y hi 1)).run.fst.toList).tail, ?_, ?_⟩
    · refine fdN_of hy ((conv _).mpr (by rw [show lo + (a - lo) = a by omega]; exact ha)) fun k hk z => ?_
      exact hn (lo + k) (hall _ (by omega) (by omega)) ((conv k).mp z)
    · rw [show lo + (a - lo) = a by omega]
      generalize (forIn (List.range' lo (hi + 1 - lo)) ((#[] : Array Nat), lo) (occBody x y hi 1)).run.fst = arr at h0
      have h1 : arr.toList[0]? = some a := by simpa using h0
      cases hL : arr.toList with
      | nil => rw [hL] at h1; cases h1
      | cons b t => rw [hL] at h1; simp at h1; rw [h1]; rfl
open Builtin.Str in
theorem from_nat (n i : Nat) (h : i ≤ n) : fromIndex n (i : Int) = i := by
  unfold fromIndex
  split <;> omega
open Builtin.Str in
theorem to_nat (n i : Nat) (h : i ≤ n) : toIndexW n (i : Int) = i := by
  unfold toIndexW
  split <;> omega
/-- text.find(sub, i) -/
theorem find3_fd (x y : Str) (i : Nat) (h : i ≤ x.length) (hy : tl y ≠ []) : Txt.find3 x y (i : Int) = match fdN (tl y) ((tl x).drop i) with
    | some j => ((i + j : Nat) : Int)
    | none => -1 := by
  have e : ((tl x).drop i).take (x.length - i) = (tl x).drop i := List.take_of_length_le (by rw [List.length_drop, len_tl x]; omega)
  unfold Txt.find3
  rw [from_nat _ _ h]
  rcases occ_fd x y i x.length h (Nat.le_refl _) hy with ⟨h1, h2⟩ | ⟨j, r, h1, h2⟩
  · rw [e] at h1
    rw [h1, h2]
  · rw [e] at h1
    rw [h1, h2]
/-- text.find(sub, i, j) -/
theorem find4_fd (x y : Str) (i j : Nat) (h : i ≤ j) (h2 : j ≤ x.length) (hy : tl y ≠ []) : Txt.findIn x y (i : Int) (j : Int) = match fdN (tl y) (((tl x).drop i).take (j - i)) with
    | some m => ((i + m : Nat) : Int)
    | none => -1 := by
  unfold Txt.findIn
  rw [from_nat _ _ (by omega), to_nat _ _ h2]
  rcases occ_fd x y i j h h2 hy with ⟨h1, h2⟩ | ⟨m, r, h1, h2⟩
  · rw [h1, h2]
  · rw [h1, h2]
/-- text.startswith(sub, i) -/
theorem starts3 (x y : Str) (i : Nat) (h : i ≤ x.length) : Txt.startswith3 x y (i : Int) = decide (((tl x).drop i).take (tl y).length = tl y) := by
  unfold Txt.startswith3
  rw [from_nat _ _ h, StrLaws.subAt_eq, ← len_tl y]
  show (decide _ && (((tl x).drop i).take y.length == tl y)) = _
  by_cases q : ((tl x).drop i).take y.length = tl y
  · have e := congrArg List.length q
    rw [List.length_take, List.length_drop, ← len_tl x, ← len_tl y] at e
    rw [decide_eq_true q, q, decide_eq_true (by omega)]
    simp
  · rw [decide_eq_false q, show (((tl x).drop i).take y.length == tl y) = false by simp [q], Bool.and_false]
end PX
/-! PXEnum -/
namespace PX
open PySem PySem.Spec PyProof.Rows L2 TL
/-! ### enumerate(text) -/
def Itq (x : Str) : It := ⟨fun i _ => i < x.cps.size, fun i H v H' => ∃ T c, v = .ref T ∧ H T = none ∧ H' = upd H T (.tup [.int (i : Nat), .str ⟨#[c]⟩]) ∧ x.cps[i]? = some c, fun i _ => i = x.cps.size⟩
theorem turn_enumS {P : Program} {w : World} {K : PySem.W.Frag} {elts : List Expr} {kk : Nat} {tpos : Pos} (x : Str) (t : Tok) (e it : Addr) :
    Turn P w K (.Tuple elts kk tpos) (Itq x) [e, it] e (fun i h => (∃ old, IsEnum h e it ((i : Nat) : Int) old) ∧ h.IsStrIter it (strIterType x) x t i ∧ e ≠ it) where
  mem := by simp
  obj := fun i h st b hb => by
    obtain ⟨⟨old, he⟩, ⟨o, ho, hc, hd⟩, _⟩ := st
    have e' : b = e ∨ b = it := by simpa using hb
    rcases e' with z | z
    · rw [z]; exact ⟨_, he, fun v q => nomatch q⟩
    · rw [z]; exact ⟨o, ho, fun v q => by rw [hd] at q; cases q⟩
  keep := fun i h h' st k => let ⟨⟨old, he⟩, ⟨o, ho, r⟩, hne⟩ := st; ⟨⟨old, k e (by simp) _ he⟩, ⟨o, k it (by simp) o ho, r⟩, hne⟩
  item := by
    intro X hP hw hK hc i pins s σ H E I hf st hg
    subst hP hw hK
    obtain ⟨⟨old, he⟩, hit, hne⟩ := st
    have hel : e < s.heap.objs.size := Heap.lt_size he
    have hil : it < s.heap.objs.size := by obtain ⟨_, q, _⟩ := hit; exact Heap.lt_size q
    have D := Draws.text (prog := X.prog) (w := X.w) (A := X.A.in1) (I.ok.hd hc) it x t
    refine wpAny_pyNext_enum_itemD D he hit hg hne (by simpa using hne) fun v h' tk hv ho hit' hT hsz hk => ?_
    obtain ⟨c, u, hcx, rfl⟩ := hv
    refine ⟨_, rfl, wpAny_letOwnedTupleGo_enum (s := { s with heap := h', toks := tk + 1 }) ho fun h'' he' sb => ?_⟩
    have hT2 : h''.get? s.heap.objs.size = some { cls := .type "tuple", data := .seq #[.int i tk, .str ⟨#[c]⟩ u] } := (sb.2 _ (Nat.ne_of_gt hel)).trans hT
    have new : ObjOk X.prog X.w (upd H s.heap.objs.size (.tup [.int (i : Nat), .str ⟨#[c]⟩])) h'' s.heap.objs.size (.tup [.int (i : Nat), .str ⟨#[c]⟩]) :=
      ⟨by show 2 ≤ sizeLine; decide, [.int i tk, .str ⟨#[c]⟩ u], .cons ⟨_, rfl⟩ (.cons ⟨_, rfl⟩ .nil), ⟨_, hT2, rfl, _, rfl⟩⟩
    have I1 : Inv X pins σ (upd H s.heap.objs.size (.tup [.int (i : Nat), .str ⟨#[c]⟩])) { s with heap := h'', toks := tk + 1 } :=
      I.turnedNew (ch := [e, it]) (fun b ob hb q => (sb.2 b (fun z => hb (by simp [z]))).trans (hk b ob (fun z => hb (by simp [z])) (fun z => hb (by simp [z])) q)) hf (Nat.le_refl _) new
    refine ⟨.ref s.heap.objs.size, _, I1, rfl, ⟨_, c, rfl, I.hok.fresh (Nat.le_refl _), rfl, hcx⟩, ⟨⟨.str ⟨#[c]⟩ u, ?_⟩, ?_, hne⟩, fun b hb => ?_⟩
    · have e1 : ((i + 1 : Nat) : Int) = (i : Int) + 1 := by omega
      rw [e1]; exact he'
    · obtain ⟨o, q1, q2⟩ := hit'
      exact ⟨o, (sb.2 it (Ne.symm hne)).trans q1, q2⟩
    · have hb' : b < s.heap.objs.size := by
        have e' : b = e ∨ b = it := by simpa using hb
        rcases e' with z | z
        · rw [z]; exact hel
        · rw [z]; exact hil
      rw [upd_ne (Nat.ne_of_lt hb')]
      exact (hf b hb).1
  done := by
    intro X hP hw hK hc i pins s σ H E I hf st hg
    subst hP hw hK
    obtain ⟨⟨old, he⟩, hit, hne⟩ := st
    obtain ⟨f0, f1, f2, f3, f4, f5⟩ := hf it (by simp)
    have D := Draws.text (prog := X.prog) (w := X.w) (A := X.A.in1) (I.ok.hd hc) it x t
    have hg' : i = x.cps.size := hg
    subst hg'
    exact wpAny_pyNext_enum_endD D he hit fun h' eb => ⟨rfl, I.turned (t' := s.toks) (fun b o hb q => eb b o hb q) f0 f1 f3 f4 f5⟩
  self := fun A i s Q E st h => let ⟨⟨_, he⟩, _⟩ := st; wpAny_pyIter_enum he h
def iEnumS (ta : TA) : TI := fun σ H R => ta σ H fun vs H1 => ∃ x, vs = [.str x] ∧ R (Itq x) H1
theorem pi_enumS {X : Cx} {e : Expr} {ta : TA} {p pos tpos : Pos} {elts : List Expr} {kk : Nat} (hg : Gl X "enumerate") (hm : X.mg "enumerate" = none) (ha : PA X [e] ta) (hs : starEach [e] X.env = [(false, eval e X.env)] := by rfl) :
    PI X (.Tuple elts kk tpos) (.Call (.Name "enumerate" p) [e] [] pos) (iEnumS ta) := by
  refine ⟨fun pins s σ H R I h => ?_⟩
  refine Call_ (ld_blt I hg hm boot_enumerate (PyProof.Rows.callWith_type1 (thn (ha.run pos pins s σ H _ I h) fun us s1 ⟨vs, H1, I1, r1, q1⟩ => ?_) hs rfl))
  obtain ⟨x, ex, q⟩ := q1
  subst ex
  cases r1 with
  | cons r rr =>
    cases rr
    obtain ⟨t, rfl⟩ := r
    refine call_enumerate_str fun h' he hit hsz hk => wpAny_pyIter_enum he ?_
    have I2 : Inv X pins σ H1 { s1 with heap := h' } := I1.kept (t' := s1.toks) hk
    refine ⟨s1.heap.objs.size + 1, [s1.heap.objs.size + 1, s1.heap.objs.size], _, _, H1, rfl, I2, turn_enumS x t (s1.heap.objs.size + 1) s1.heap.objs.size, ⟨⟨.none, he⟩, hit, Nat.succ_ne_self _⟩, fun b hb => ?_, q⟩
    have e' : b = s1.heap.objs.size + 1 ∨ b = s1.heap.objs.size := by simpa using hb
    have hle : s1.heap.objs.size ≤ b := by
      rcases e' with z | z
      · rw [z]; exact Nat.le_add_right _ _
      · rw [z]; exact Nat.le_refl _
    exact I1.fpOk hle (I1.hok.fresh hle)
theorem walk_enumS {z : Str} : Walk (Itq z) z.cps.size (fun _ => True) (fun i H v H' => ∃ T c, v = .ref T ∧ H T = none ∧ H' = upd H T (.tup [.int (i : Nat), .str ⟨#[c]⟩]) ∧ z.cps[i]? = some c) :=
  ⟨fun _ _ hi _ => hi, fun _ _ => rfl, fun _ _ _ _ _ _ y => y⟩
end PX
/-! PXTk -/
namespace PX
open PySem PySem.Spec PyProof.Rows L2 TL
section
variable {P : Program} {w : World} {K : PySem.W.Frag} {mg : Str → Option Value} {base : Heap}
def spAny : Sp := fun vs H Q _ => ∃ z : Str, vs = [.str z] ∧ ∀ b, Q (.bl b) H
theorem ok_is_plain (T : Tx w K mg) : Ok P w K mg base CX0 1 (He.fAd K d_is_plain.at_) p_is_plain spAny := by
  obtain ⟨fd, F⟩ := f_is_plain T
  refine ⟨fd, ?_, b_is_plain F, F.kp⟩
  refine F.ok sc_is_plain (fun vs H Q E h => ?_) (fun cdv A outer s H vs Q E hr h => ?_)
  · obtain ⟨z, rfl, _⟩ := h
    rfl
  · obtain ⟨z, rfl, k⟩ := h
    refine ⟨_, PSs.nox (pss_one (ps_ret (pe_and (pe_m0 PySem.F.slot_str_isascii PySem.F.type_str_isascii mt_isascii (pv 0)) (pe_one (pe_m0 PySem.F.slot_str_isprintable PySem.F.type_str_isprintable mt_isprintable (pv 0)))))), ?_⟩
    refine ⟨_, rfl, ⟨_, rfl⟩, _, rfl, rfl, trivial, _, rfl, ?_⟩
    split
    · exact ⟨_, rfl, ⟨_, rfl⟩, _, rfl, rfl, trivial, k _⟩
    · exact k _
def spLen : Sp := fun vs H Q _ => ∃ z : Str, vs = [.str z] ∧ Gd z ∧ ∀ H', Same H H' → Q (.int ((z.length : Nat) : Int)) H'
theorem ok_end_of_signs (T : Tx w K mg) : Ok P w K mg base CX0 2 (He.fAd K d_end_of_signs.at_) p_end_of_signs spLen := by
  obtain ⟨fd, F⟩ := f_end_of_signs T
  obtain ⟨fP, GP, bP, kP⟩ := ok_is_plain (P := P) (base := base) T
  obtain ⟨fS, GS, bS, kS⟩ := ok_is_sign (P := P) (base := base) T
  refine ⟨fd, ?_, b_end_of_signs F, F.kp⟩
  refine okT F sc_end_of_signs (by decide +kernel) (by decide) (fun vs H Q E h => ?_) (fun cdv A outer s H vs Q E hr h => ?_)
  · obtain ⟨z, rfl, _⟩ := h
    rfl
  · obtain ⟨z, rfl, g, k⟩ := h
    have nd := sc_end_of_signs.nd
    refine ⟨_, psst_nox (psst_cons (pst_ifT (ptt_or (pt_val (pe_call (E := E0) GP (hr.mono (by decide)) (by rfl) (g_is_plain T) kP bP .nil pass0 (pa_cons (pv 0) pa_nil)))
        (ptt_val (pet_call (E := E0) GP (hr.mono (by decide)) (by rfl) (g_is_plain T) kP bP pass0 (pat_cons (CwR.pet_replT (CwR.pet_replC (pv 0))) pat_nil))))
        (PSsT.of (pss_one (ps_ret (pe_callB call_len (by rfl) (n_len T) PySem.boot_len (pa_cons (pv 0) pa_nil))))) (PSsT.of pss_nil))
      (PSsT.of (pss_cons (ps_for PassesOwn.never rfl (pi_enumS (by rfl) (n_enumerate T) (pa_cons (pv 0) pa_nil)) (pg_tup (by rfl) (pgs_cons (pg_name (i := 1) nd rfl (.inl rfl)) (pgs_cons (pg_name (i := 2) nd rfl (.inl rfl)) pgs_nil)))
          (pss_one (ps_if (pt_not (pt_val (pe_call (E := E0) GS (hr.mono (by decide)) (by rfl) (g_is_sign T) kS bS .nil pass0 (pa_cons (pv 2) pa_nil)))) (pss_one (ps_ret (pv 1))) pss_nil)))
        (pss_one (ps_ret (pe_callB call_len (by rfl) (n_len T) PySem.boot_len (pa_cons (pv 0) pa_nil))))))), ?_⟩
    have hz := g.len
    have l1 := TK.replace_len z "\n" ""
    have e0 : ("" : Str).length = 0 := rfl
    rw [e0, Nat.mul_zero, Nat.add_zero] at l1
    have fin : Q (.int ((z.length : Nat) : Int)) H := k H (Same.refl H)
    refine ⟨_, rfl, z, rfl, fun b => ⟨b, rfl, ?_⟩⟩
    cases b with
    | true => exact ⟨_, rfl, _, z.length, rfl, ⟨g.line, rfl⟩, fin⟩
    | false =>
      refine ⟨_, rfl, z, rfl, (by rw [e0]; omega), _, rfl, (by rw [e0]; omega), _, rfl, fun b => ⟨b, rfl, ?_⟩⟩
      cases b with
      | true => exact ⟨_, rfl, _, z.length, rfl, ⟨g.line, rfl⟩, fin⟩
      | false =>
        refine ⟨_, rfl, z, rfl, ?_⟩
        refine for_it walk_enumS (fun j σ H2 => Same H H2 ∧ ∃ v1 v2 : Option V, σ = [some (.str z), v1, v2]) ⟨Same.refl H, _, _, rfl⟩ (fun _ _ _ _ _ => trivial) ?_ ?_
        · rintro j x σ H2 H3 hj ⟨s2, v1, v2, rfl⟩ ⟨t, c, rfl, ht, rfl, hc⟩
          refine ⟨t, _, rfl, SqT.of upd_same, rfl, _, _, rfl, _, _, rfl, rfl, ?_⟩
          have hm : c ∈ tl z := by
            have : (tl z)[j]? = some c := by
              rw [← hc]
              exact Array.getElem?_toList
            exact List.mem_of_getElem? this
          have hsg := g.sg c hm
          refine ⟨_, rfl, [c], rfl, fun H4 s4 => ⟨_, rfl, ?_⟩⟩
          show if (!isSg c) = true then _ else _
          rw [hsg]
          refine iteF ?_
          exact ⟨(s2.trans (same_new ht)).trans s4, _, _, rfl⟩
        · rintro σ H2 ⟨s2, v1, v2, rfl⟩
          exact ⟨_, rfl, _, z.length, rfl, ⟨g.line, rfl⟩, k H2 s2⟩
def fstS : Str := "_ABCDEFGHIJKLMNOPQRSTUVWXYZabcdefghijklmnopqrstuvwxyz"
def digS : Str := "0123456789"
theorem glob_fst {X : Cx} {pos : Pos} (T : Tx X.w X.K X.mg) (hg : Gl X "FIRST_SIGNS") : PE X (.Name "FIRST_SIGNS" pos) (tC (.str fstS)) := by
  obtain ⟨t, e⟩ := c_FIRST_SIGNS T
  exact pe_glob hg e ⟨t, rfl⟩
theorem glob_dig {X : Cx} {pos : Pos} (T : Tx X.w X.K X.mg) (hg : Gl X "DIGITS") : PE X (.Name "DIGITS" pos) (tC (.str digS)) := by
  obtain ⟨t, e⟩ := c_DIGITS T
  exact pe_glob hg e ⟨t, rfl⟩
theorem isLt_hi (c : Nat) (h : 128 ≤ c) : isLt c = false := by
  unfold isLt
  rw [decide_eq_false (p := c ≤ 122) (by omega), decide_eq_false (p := c ≤ 90) (by omega), Bool.and_false, Bool.and_false]
  exact beq_eq_false_iff_ne.mpr (by omega)
theorem fst_eq (c : Nat) : decide (c ∈ fstS.cps.toList) = isLt c := mem_eq (l := fstS.cps.toList) (p := isLt) (by decide +kernel) (by decide +kernel) isLt_hi c
theorem dig_eq (c : Nat) : decide (c ∈ digS.cps.toList) = isDg c := mem_eq (l := digS.cps.toList) (p := isDg) (by decide +kernel) (by decide +kernel) isDg_hi c
theorem ok_begins_word (T : Tx w K mg) : Ok P w K mg base CX0 1 (He.fAd K d_begins_word.at_) p_begins_word (spSg isLt) := by
  obtain ⟨fd, F⟩ := f_begins_word T
  refine ⟨fd, ?_, b_begins_word F, F.kp⟩
  refine F.ok sc_begins_word (fun vs H Q E h => ?_) (fun cdv A outer s H vs Q E hr h => ?_)
  · obtain ⟨l, rfl, _⟩ := h
    rfl
  · obtain ⟨l, rfl, k⟩ := h
    refine ⟨_, PSs.nox (pss_one (ps_ret (pe_and (pe_cmpR op_ne (pv 0) pe_str (nomark _)) (pe_one (pe_cmpR op_in_sign (pv 0) (glob_fst T (by rfl)) (by rfl)))))), ?_⟩
    refine ⟨_, rfl, rfl, _, rfl, ?_⟩
    cases l with
    | nil =>
      refine iteF ?_
      exact k _ (Same.refl _)
    | cons c r =>
      show if (!decide (V.str (sg (c :: r)) = V.str (Str.ofString ""))) = true then _ else _
      rw [sg_empty]
      refine iteT ?_
      refine ⟨_, rfl, c, _, rfl, rfl, ?_⟩
      rw [fst_eq]
      exact k _ (Same.refl _)
/-! ### words_alone -/
def wdN (c : Nat) : Nat := if isWd c then c else 32
def tabP (c : Nat) : Bool := (ints_WORDS_ALONE.lookup ((c : Nat) : Int)).isSome
theorem tab_all : (List.range 128).all (fun c => (!tabP c || decide (ints_WORDS_ALONE.lookup ((c : Nat) : Int) = some (Str.ofString " "))) && (!isSg c || decide (exch tabP c = wdN c))) = true := by decide +kernel
theorem tab_at (c : Nat) (h : c < 128) : (tabP c = true → ints_WORDS_ALONE.lookup ((c : Nat) : Int) = some (Str.ofString " ")) ∧ (isSg c = true → exch tabP c = wdN c) := by
  have := List.all_eq_true.mp tab_all c (List.mem_range.mpr h)
  rw [Bool.and_eq_true, Bool.or_eq_true, Bool.or_eq_true, Bool.not_eq_true', Bool.not_eq_true', decide_eq_true_eq, decide_eq_true_eq] at this
  refine ⟨fun q => ?_, fun q => ?_⟩
  · rcases this.1 with h | h
    · rw [h] at q; cases q
    · exact h
  · rcases this.2 with h | h
    · rw [h] at q; cases q
    · exact h
theorem tab_ok (T : Tx w K mg) (P : Program) : TabK K P w (He.ga K "WORDS_ALONE") tabP := tab_of (x_i_WORDS_ALONE T) P w tabP fun c hc => ⟨(tab_at c hc).1, fun q => by
  unfold tabP at q
  cases e : ints_WORDS_ALONE.lookup ((c : Nat) : Int) with
  | none => rfl
  | some y => rw [e] at q; cases q⟩
def spWa : Sp := fun vs H Q _ => ∃ z : Str, vs = [.str z] ∧ Gd z ∧ Q (.str (mkS ((tl z).map wdN ++ [32]))) H
theorem ok_words_alone (T : Tx w K mg) : Ok P w K mg base CX0 1 (He.fAd K d_words_alone.at_) p_words_alone spWa := by
  obtain ⟨fd, F⟩ := f_words_alone T
  refine ⟨fd, ?_, b_words_alone F, F.kp⟩
  refine F.ok sc_words_alone (fun vs H Q E h => ?_) (fun cdv A outer s H vs Q E hr h => ?_)
  · obtain ⟨z, rfl, _⟩ := h
    rfl
  · obtain ⟨z, rfl, g, k⟩ := h
    refine ⟨_, PSs.nox (pss_one (ps_ret (pe_op op_add_str (pe_m1 PySem.F.slot_str_translate PySem.F.type_str_translate (mt_tab rfl (tab_ok T P)) (pv 0) (pe_glob (v := .ref (He.ga K "WORDS_ALONE")) (by rfl) (g_WORDS_ALONE T) rfl)) pe_str))), ?_⟩
    have small : ∀ c ∈ tl z, c < 128 := fun c hc => by
      have := g.sg c hc
      unfold isSg at this
      simp only [Bool.or_eq_true, Bool.and_eq_true, decide_eq_true_eq, beq_iff_eq] at this
      omega
    have hl : (tl z).length ≤ 400000 := by rw [← len_tl]; exact g.len
    refine ⟨_, rfl, ⟨_, rfl⟩, tl z, ?_, rfl, small, by omega, _, _, rfl, rfl, ?_, ?_⟩
    · show V.str z = V.str (mkS (tl z))
      rw [mkS_tl]
    · rw [SX.S_len, List.length_map, sizeLine_eq]
      show _ + 1 ≤ _
      omega
    · have e1 : (tl z).map (exch tabP) = (tl z).map wdN := List.map_congr_left fun c hc => (tab_at c (small c hc)).2 (g.sg c hc)
      have e2 : SX.S ((tl z).map (exch tabP)) ++ Str.ofString " " = mkS ((tl z).map wdN ++ [32]) := by
        rw [e1]
        exact SX.S_cat _ [32]
      rw [e2]
      exact k
end
end PX
/-! PXTl -/
namespace PX
open PySem PySem.Spec PyProof.Rows L2 TL PySem.Builtin PySem.Builtin.Str
/-! ### the first such sign -/
theorem fd1 (c : Nat) : ∀ l : List Nat, fdN [c] l = if spN (· != c) l < l.length then some (spN (· != c) l) else none
  | [] => rfl
  | d :: r => by
    show (if (d :: r).take 1 = [c] then some 0 else (fdN [c] r).map (· + 1)) = if (if (d != c) = true then spN (· != c) r + 1 else 0) < r.length + 1 then some (if (d != c) = true then spN (· != c) r + 1 else 0) else none
    cases q : d != c with
    | false =>
      have e : d = c := by simpa using q
      subst e
      rw [if_neg Bool.false_ne_true, if_pos (show List.take 1 (d :: r) = [d] from rfl), if_pos (Nat.succ_pos _)]
    | true =>
      have e : ¬ (d :: r).take 1 = [c] := fun h => by
        have h2 : d = c := (List.cons.inj h).1
        subst h2
        simp at q
      rw [if_neg e, if_pos rfl, fd1 c r]
      by_cases h : spN (· != c) r < r.length
      · rw [if_pos h, if_pos (by omega)]
        rfl
      · rw [if_neg h, if_neg (by omega)]
        rfl
theorem spN_words : ∀ l : List Nat, spN (· != 32) (l.map wdN ++ [32]) = spN isWd l
  | [] => rfl
  | c :: r => by
    show (if (wdN c != 32) = true then spN (· != 32) (r.map wdN ++ [32]) + 1 else 0) = if isWd c = true then spN isWd r + 1 else 0
    rw [spN_words r]
    unfold wdN
    cases q : isWd c with
    | false => rfl
    | true =>
      rw [if_pos rfl, if_pos rfl]
      have : (c != 32) = true := by
        cases e : c != 32 with
        | true => rfl
        | false =>
          have : c = 32 := by simpa using e
          subst this
          cases q
      rw [this, if_pos rfl]
/-- words.find(" ", i) -/
theorem find_word (z : Str) (i : Nat) (h : i ≤ z.length) : Txt.find3 (mkS ((tl z).map wdN ++ [32])) (Str.ofString " ") (i : Int) = ((i + spN isWd ((tl z).drop i) : Nat) : Int) := by
  have hz : z.length = (tl z).length := len_tl z
  have hl : (mkS ((tl z).map wdN ++ [32])).length = z.length + 1 := by
    rw [mkS_len, List.length_append, List.length_map, hz]
    rfl
  rw [find3_fd _ _ i (by omega) (by decide), tl_mkS]
  have ht : tl (Str.ofString " ") = [32] := rfl
  have hd : ((tl z).map wdN ++ [32]).drop i = ((tl z).drop i).map wdN ++ [32] := by
    rw [List.drop_append_of_le_length (by rw [List.length_map]; omega), List.map_drop]
  rw [ht, hd, fd1, spN_words]
  have hb := spN_le isWd ((tl z).drop i)
  rw [if_pos (by rw [List.length_append, List.length_map]; show _ < _ + 1; omega)]
/-! ### a word that is a number -/
def rm1 (l : List Nat) : List Nat := l.take (spN (· != 46) l) ++ l.drop (spN (· != 46) l + 1)
theorem repl_dot (l : List Nat) : repl1 (mkS l) (Str.ofString ".") (Str.ofString "") = mkS (rm1 l) := by
  have hy : tl (Str.ofString ".") = [46] := rfl
  have hyl : (Str.ofString ".").length = 1 := rfl
  have hm := mkS_len l
  have hfd := occ_fd (mkS l) (Str.ofString ".") 0 (mkS l).length (Nat.zero_le _) (Nat.le_refl _) (by rw [hy]; simp)
  rw [tl_mkS, hy, List.drop_zero, Nat.sub_zero, hm, List.take_length, fd1] at hfd
  have hb := spN_le (· != 46) l
  unfold repl1 rm1
  rw [hm, hyl]
  rcases hfd with ⟨h1, h2⟩ | ⟨j, r, h1, h2⟩
  · rw [h2]
    show mkS l = _
    by_cases q : spN (· != 46) l < l.length
    · rw [if_pos q] at h1
      cases h1
    · have e : spN (· != 46) l = l.length := by omega
      rw [e, List.take_length, List.drop_of_length_le (by omega), List.append_nil]
  · by_cases q : spN (· != 46) l < l.length
    · rw [if_pos q] at h1
      cases h1
      have hr : r = [] := by
        have h3 := StrLaws.occ_length_le (mkS l) (Str.ofString ".") 0 l.length 1
        rw [h2, List.length_cons] at h3
        exact List.eq_nil_of_length_eq_zero (by omega)
      rw [h2, hr, Nat.zero_add]
      show glued (Str.ofString "") (partsBetween (mkS l) [spN (· != 46) l] 1) = _
      generalize spN (· != 46) l = n at q ⊢
      refine ext_tl ?_
      rw [tl_mkS]
      unfold glued partsBetween strSub
      have e2 : (mkS l).length = l.length := hm
      show ((((mkS l).cps.extract 0 n) ++ (Str.ofString "").cps) ++ ((mkS l).cps.extract (n + 1) (mkS l).length)).toList = _
      rw [e2]
      have e3 : (Str.ofString "").cps = #[] := rfl
      rw [e3]
      have e4 : (mkS l).cps = l.toArray := rfl
      rw [e4]
      simp only [Array.append_empty, Array.toList_append, Array.toList_extract, List.extract_eq_drop_take, List.drop_zero, Nat.sub_zero]
      congr 1
      exact List.take_of_length_le (by rw [List.length_drop]; omega)
    · rw [if_neg q] at h1
      cases h1
theorem dig_all : ∀ c, c < 128 → Unicode.isDigit c = isDg c := by decide +kernel
theorem isdigit_mk (l : List Nat) (h : ∀ c ∈ l, c < 128) : Txt.isdigit (mkS l) = (!l.isEmpty && l.all isDg) := by
  unfold Txt.isdigit
  rw [mkS_len]
  have e : (mkS l).cps.all Unicode.isDigit = l.all isDg := by
    show l.toArray.all Unicode.isDigit = _
    rw [List.all_toArray]
    induction l with
    | nil => rfl
    | cons c r ih =>
      rw [List.all_cons, List.all_cons, dig_all c (h c List.mem_cons_self), ih fun d hd => h d (List.mem_cons_of_mem _ hd)]
  rw [e]
  cases l with
  | nil => rfl
  | cons c r =>
    rw [List.length_cons, decide_eq_true (show r.length + 1 > 0 by omega)]
    rfl
def numB (l : List Nat) : Bool := (!l.isEmpty && l.all isDg) || (!(rm1 l).isEmpty && (rm1 l).all isDg)
theorem spN_split {p : Nat → Bool} : ∀ l : List Nat, l = l.take (spN p l) ++ l.drop (spN p l) ∧ (l.take (spN p l)).all p = true ∧ hP p (l.drop (spN p l)) = false
  | [] => ⟨rfl, rfl, rfl⟩
  | c :: r => by
    obtain ⟨h1, h2, h3⟩ := spN_split (p := p) r
    have e : spN p (c :: r) = if p c = true then spN p r + 1 else 0 := rfl
    cases q : p c with
    | true =>
      rw [e, q, if_pos rfl, List.take_succ_cons, List.drop_succ_cons]
      refine ⟨by rw [List.cons_append, ← h1], by rw [List.all_cons, q, h2]; rfl, h3⟩
    | false =>
      rw [e, q, if_neg Bool.false_ne_true]
      exact ⟨rfl, rfl, q⟩
theorem spN_app {p : Nat → Bool} {r : List Nat} (hr : hP p r = false) : ∀ l : List Nat, l.all p = true → spN p (l ++ r) = l.length
  | [], _ => by
    cases r with
    | nil => rfl
    | cons c r =>
      have : p c = false := hr
      show (if p c = true then _ else 0) = 0
      rw [this, if_neg Bool.false_ne_true]
  | d :: l, h => by
    rw [List.all_cons, Bool.and_eq_true] at h
    show (if p d = true then spN p (l ++ r) + 1 else 0) = l.length + 1
    rw [if_pos h.1, spN_app hr l h.2]
theorem dg_wd {c : Nat} (h : isDg c = true) : isWd c = true := by
  unfold isDg at h
  unfold isWd
  rw [h]
  simp
theorem hP_dg {l : List Nat} (h : hP isWd l = false) : hP isDg l = false := by
  cases l with
  | nil => rfl
  | cons c r =>
    cases q : isDg c with
    | false => exact q
    | true =>
      have := dg_wd q
      rw [show hP isWd (c :: r) = isWd c from rfl, this] at h
      cases h
theorem hP_dot {l : List Nat} (h : hP isWd l = false) : hP (· == 46) l = false := by
  cases l with
  | nil => rfl
  | cons c r =>
    cases q : c == 46 with
    | false => exact q
    | true =>
      have e : c = 46 := eq_of_beq q
      subst e
      cases h
theorem nu_word {w r : List Nat} (hw : numB w = true) (hr : hP isWd r = false) : nuN (w ++ r) = w.length ∧ ∃ c t, w = c :: t ∧ (isDg c || (c == 46 && hP isDg (t ++ r))) = true := by
  unfold numB at hw
  rw [Bool.or_eq_true] at hw
  have hrd := hP_dg hr
  have hrp := hP_dot hr
  rcases hw with hw | hw
  · rw [Bool.and_eq_true] at hw
    obtain ⟨h1, h2⟩ := hw
    have e := spN_app hrd w h2
    refine ⟨?_, ?_⟩
    · unfold nuN
      rw [e, List.drop_left, hrp, if_neg Bool.false_ne_true]
    · cases w with
      | nil => cases h1
      | cons c t =>
        rw [List.all_cons, Bool.and_eq_true] at h2
        exact ⟨c, t, rfl, by rw [h2.1]; rfl⟩
  · rw [Bool.and_eq_true] at hw
    obtain ⟨h1, h2⟩ := hw
    obtain ⟨s1, s2, s3⟩ := spN_split (p := (· != 46)) w
    unfold rm1 at h1 h2
    have hd : w.drop (spN (· != 46) w + 1) = (w.drop (spN (· != 46) w)).drop 1 := by rw [List.drop_drop]
    rw [hd] at h1 h2
    generalize w.take (spN (· != 46) w) = a at s1 s2 h1 h2
    generalize w.drop (spN (· != 46) w) = b at s1 s3 h1 h2
    subst s1
    rw [List.all_append, Bool.and_eq_true] at h2
    cases b with
    | nil =>
      rw [List.append_nil]
      have e := spN_app hrd a h2.1
      refine ⟨?_, ?_⟩
      · unfold nuN
        rw [e, List.drop_left, hrp, if_neg Bool.false_ne_true]
      · cases a with
        | nil => cases h1
        | cons c t =>
          have h3 := h2.1
          rw [List.all_cons, Bool.and_eq_true] at h3
          exact ⟨c, t, rfl, by rw [h3.1]; rfl⟩
    | cons c b =>
      have hc : c = 46 := by
        have : (c != 46) = false := s3
        simpa using this
      subst hc
      rw [List.drop_succ_cons, List.drop_zero] at h1 h2
      have e1 : spN isDg ((a ++ 46 :: b) ++ r) = a.length := by
        rw [List.append_assoc]
        exact spN_app (r := 46 :: b ++ r) rfl a h2.1
      have e2 : ((a ++ 46 :: b) ++ r).drop a.length = 46 :: (b ++ r) := by
        rw [List.append_assoc, List.drop_left]
        rfl
      have e3 : ((a ++ 46 :: b) ++ r).drop (a.length + 1) = b ++ r := by
        rw [← List.drop_drop, e2]
        rfl
      refine ⟨?_, ?_⟩
      · unfold nuN
        rw [e1, e2, e3, spN_app hrd b h2.2]
        show (if true = true then _ else _) = _
        rw [if_pos rfl, List.length_append, List.length_cons]
        omega
      · cases a with
        | nil =>
          refine ⟨46, b, rfl, ?_⟩
          cases b with
          | nil => cases h1
          | cons d b =>
            have h3 := h2.2
            rw [List.all_cons, Bool.and_eq_true] at h3
            show (_ || (true && isDg d)) = true
            rw [h3.1, Bool.and_self, Bool.or_true]
        | cons d a =>
          have h3 := h2.1
          rw [List.all_cons, Bool.and_eq_true] at h3
          exact ⟨d, a ++ 46 :: b, rfl, by rw [h3.1]; rfl⟩
end PX
/-! PXTm -/
namespace PX
open PySem PySem.Spec PyProof.Rows L2 TL PySem.Builtin PySem.Builtin.Str
/-! ### texts cut and stripped -/
theorem sub_mk (l : List Nat) (a b : Nat) : strSub (mkS l) a b = mkS ((l.drop a).take (b - a)) := by
  refine ext_tl ?_
  rw [tl_mkS]
  unfold strSub
  show ((mkS l).cps.extract a b).toList = _
  have e4 : (mkS l).cps = l.toArray := rfl
  rw [e4, Array.toList_extract, List.extract_eq_drop_take]
theorem tw_spN (p : Nat → Bool) : ∀ l : List Nat, (l.takeWhile p).length = spN p l
  | [] => rfl
  | c :: r => by
    rw [List.takeWhile_cons]
    show _ = if p c = true then spN p r + 1 else 0
    split
    · rw [List.length_cons, tw_spN p r]
    · rfl
theorem spN_congr {p q : Nat → Bool} (h : ∀ c, p c = q c) : ∀ l : List Nat, spN p l = spN q l
  | [] => rfl
  | c :: r => by
    show (if p c = true then spN p r + 1 else 0) = if q c = true then spN q r + 1 else 0
    rw [h c, spN_congr h r]
theorem cont_mem (y : Str) (c : Nat) : y.cps.contains c = decide (c ∈ y.cps.toList) := by
  rw [Array.contains_eq_mem]
  simp
theorem lstrip_mk (l : List Nat) (y : Str) (p : Nat → Bool) (hp : ∀ c, decide (c ∈ y.cps.toList) = p c) : Txt.lstripChars (mkS l) y = mkS (l.drop (spN p l)) := by
  unfold Txt.lstripChars
  rw [stripBy_eq]
  have e1 : stripLo (fun c => y.cps.contains c) true (mkS l) = spN p l := by
    unfold stripLo
    rw [if_pos rfl]
    show (l.takeWhile _).length = _
    rw [tw_spN]
    exact spN_congr (fun c => (cont_mem y c).trans (hp c)) l
  have e2 : stripHi (fun c => y.cps.contains c) false (mkS l) (spN p l) = l.length := by
    unfold stripHi
    rw [if_neg Bool.false_ne_true, mkS_len]
  show strSub (mkS l) (stripLo (fun c => y.cps.contains c) true (mkS l)) (stripHi (fun c => y.cps.contains c) false (mkS l) (stripLo (fun c => y.cps.contains c) true (mkS l))) = _
  rw [e1, e2, sub_mk, List.take_of_length_le (by rw [List.length_drop]; omega)]
theorem rstrip_mk (l : List Nat) (y : Str) (p : Nat → Bool) (hp : ∀ c, decide (c ∈ y.cps.toList) = p c) : Txt.rstripChars (mkS l) y = mkS (l.take (l.length - spN p l.reverse)) := by
  unfold Txt.rstripChars
  rw [stripBy_eq]
  have e1 : stripLo (fun c => y.cps.contains c) false (mkS l) = 0 := rfl
  have e2 : stripHi (fun c => y.cps.contains c) true (mkS l) 0 = l.length - spN p l.reverse := by
    unfold stripHi
    rw [if_pos rfl, mkS_len]
    show l.length - ((l.drop 0).reverse.takeWhile _).length = _
    rw [tw_spN, List.drop_zero]
    rw [spN_congr (fun c => (cont_mem y c).trans (hp c)) l.reverse]
  show strSub (mkS l) (stripLo (fun c => y.cps.contains c) false (mkS l)) (stripHi (fun c => y.cps.contains c) true (mkS l) (stripLo (fun c => y.cps.contains c) false (mkS l))) = _
  rw [e1, e2, sub_mk, List.drop_zero, Nat.sub_zero]
theorem cut_from (z : Str) (i : Nat) : cutS z (some (i : Int)) none = mkS ((tl z).drop i) := by
  refine ext_tl ?_
  show ((z.cps.toList.drop (HT.sIx z.length 0 (some (i : Int)))).take (HT.sIx z.length z.length none - HT.sIx z.length 0 (some (i : Int)))) = (tl z).drop i
  rw [HT.sIx_nat, HT.sIx_none]
  have hl : z.length = (tl z).length := len_tl z
  rw [hl]
  show (((tl z).drop (min i (tl z).length)).take ((tl z).length - min i (tl z).length)) = _
  rw [List.take_of_length_le (by rw [List.length_drop]; exact Nat.le_refl _)]
  by_cases h : i ≤ (tl z).length
  · rw [Nat.min_eq_left h]
  · rw [Nat.min_eq_right (by omega), List.drop_of_length_le (Nat.le_refl _), List.drop_of_length_le (by omega)]
theorem glob_piece {X : Cx} {mg : Str → Option Value} {K : PySem.W.Frag} {w : World} {pos : Pos} (hm : X.mg = mg) (T : Tx w K mg) (hg : Gl X "PIECE") : PE X (.Name "PIECE" pos) (tC (.int 32)) := by
  obtain ⟨t, e⟩ := c_PIECE T
  exact pe_glob hg (hm ▸ e) ⟨t, rfl⟩
/-- digits at the head of a piece -/
theorem spN_piece {p : Nat → Bool} (l : List Nat) (m : Nat) : spN p (l.take m) = min (spN p l) (l.take m).length := by
  induction l generalizing m with
  | nil => simp [spN]
  | cons c r ih =>
    cases m with
    | zero => simp [spN]
    | succ m =>
      rw [List.take_succ_cons, List.length_cons]
      show (if p c = true then spN p (r.take m) + 1 else 0) = min (if p c = true then spN p r + 1 else 0) _
      cases p c with
      | false => rw [if_neg Bool.false_ne_true, if_neg Bool.false_ne_true, Nat.zero_min]
      | true =>
        rw [if_pos rfl, if_pos rfl, ih]
        omega
theorem spN_on {p : Nat → Bool} : ∀ (l : List Nat) (n : Nat), n ≤ spN p l → spN p l = n + spN p (l.drop n)
  | l, 0, _ => by rw [List.drop_zero, Nat.zero_add]
  | [], n + 1, h => by
    have : n + 1 ≤ 0 := h
    omega
  | c :: r, n + 1, h => by
    have e : spN p (c :: r) = if p c = true then spN p r + 1 else 0 := rfl
    cases q : p c with
    | false =>
      rw [e, q, if_neg Bool.false_ne_true] at h
      omega
    | true =>
      rw [e, q, if_pos rfl] at h ⊢
      rw [List.drop_succ_cons, spN_on r n (by omega)]
      omega
section
variable {P : Program} {w : World} {K : PySem.W.Frag} {mg : Str → Option Value} {base : Heap}
def spRun : Sp := fun vs H Q _ => ∃ (z : Str) (i : Nat), vs = [.str z, .int (i : Int), .str digS] ∧ Gd z ∧ i ≤ z.length ∧ Q (.int ((i + spN isDg ((tl z).drop i) : Nat) : Int)) H
theorem ok_end_of_run (T : Tx w K mg) : Ok P w K mg base CX0 1 (He.fAd K d_end_of_run.at_) p_end_of_run spRun := by
  obtain ⟨fd, F⟩ := f_end_of_run T
  refine ⟨fd, ?_, b_end_of_run F, F.kp⟩
  refine F.ok sc_end_of_run (fun vs H Q E h => ?_) (fun cdv A outer s H vs Q E hr h => ?_)
  · obtain ⟨z, i, rfl, _⟩ := h
    rfl
  · obtain ⟨z, i, rfl, g, hi, k⟩ := h
    have nd := sc_end_of_run.nd
    have hlen : z.length = (tl z).length := len_tl z
    refine ⟨_, PSs.nox (pss_one (ps_while PassesOwn.never (pt_val pe_bl)
      (pss_cons (ps_set (i := 3) nd rfl (.inl rfl) (pe_slice sl_str (pv 0) (po_some (pv 1)) (po_some (pe_op op_add (pv 1) (glob_piece rfl T (by rfl))))))
      (pss_cons (ps_set (i := 4) nd rfl (.inl rfl) (pe_m1 PySem.F.slot_str_lstrip PySem.F.type_str_lstrip mt_lstripChars (pv 3) (pv 2)))
      (pss_cons (ps_aug (i := 1) nd rfl (.inl rfl) (pe_op op_sub (pe_callB call_len (by rfl) (n_len T) PySem.boot_len (pa_cons (pv 3) pa_nil)) (pe_callB call_len (by rfl) (n_len T) PySem.boot_len (pa_cons (pv 4) pa_nil))) ip_add)
      (pss_one (ps_if (pw_or (pt_cmpR op_ne (pv 4) pe_str (nomark _)) (pw_or1 (pt_cmpR op_eq (pv 3) pe_str (nomark _)))).pt (pss_one (ps_ret (pv 1))) pss_nil))))))), ?_⟩
    have hdd : ∀ n, (tl z).drop (i + n) = ((tl z).drop i).drop n := fun n => drop_add
    generalize hl : (tl z).drop i = l at *
    have hll : l.length = z.length - i := by rw [← hl, List.length_drop, hlen]
    refine while_x (fun mm σ H2 => H2 = H ∧ ∃ (j : Nat) (v3 v4 : Option V), mm = l.length - j ∧ σ = [some (V.str z), some (.int ((i + j : Nat) : Int)), some (.str digS), v3, v4] ∧ j ≤ l.length ∧ spN isDg l = j + spN isDg (l.drop j))
      (fun σ H2 => False) ⟨_, rfl, 0, none, none, rfl, rfl, Nat.zero_le _, by rw [List.drop_zero, Nat.zero_add]⟩ (fun _ _ h => h.elim) ?_
    rintro - mm σ H2 R ⟨rfl, j, v3, v4, rfl, rfl, hj, e⟩ hfin hbody
    refine ⟨_, rfl, ?_⟩
    refine hbody _ ?_
    refine ⟨_, rfl, _, rfl, _, rfl, _, rfl, _, _, rfl, rfl, _, rfl, z, rfl, g.line, ?_⟩
    have ec := cut_nat z (i + j) (i + j + 32)
    rw [show i + j + 32 - (i + j) = 32 by omega, hdd j] at ec
    have ec2 : cutS z (some ((i + j : Nat) : Int)) (some (((i + j : Nat) : Int) + 32)) = mkS ((l.drop j).take 32) := by
      rw [show ((i + j : Nat) : Int) + 32 = ((i + j + 32 : Nat) : Int) by omega]
      exact ec
    rw [ec2]
    have hpl : ((l.drop j).take 32).length ≤ 32 := by rw [List.length_take]; omega
    have hpl2 : ((l.drop j).take 32).length = min 32 (l.length - j) := by rw [List.length_take, List.length_drop]
    have hsp := spN_piece (p := isDg) (l.drop j) 32
    have hspb := spN_le isDg (l.drop j)
    rw [List.length_drop] at hspb
    generalize (l.drop j).take 32 = pc at hpl hpl2 hsp ⊢
    refine ⟨_, rfl, ⟨_, rfl⟩, _, rfl, _, _, rfl, rfl, (by rw [mkS_len, sizeLine_eq]; omega), ?_⟩
    rw [lstrip_mk pc digS isDg dig_eq]
    have hb := spN_le isDg pc
    have hrl : (pc.drop (spN isDg pc)).length = pc.length - spN isDg pc := List.length_drop
    refine ⟨_, rfl, _, rfl, _, _, rfl, ⟨(by rw [mkS_len, sizeLine_eq]; omega), rfl⟩, _, rfl, _, _, rfl, ⟨(by rw [mkS_len, sizeLine_eq]; omega), rfl⟩, _, _, rfl, rfl, _, _, rfl, rfl, ?_⟩
    rw [mkS_len, mkS_len, hrl]
    dsimp only
    rw [show ((i + j : Nat) : Int) + (((pc.length : Nat) : Int) - ((pc.length - spN isDg pc : Nat) : Int)) = ((i + (j + spN isDg pc) : Nat) : Int) by omega]
    refine ⟨_, rfl, rfl, _, rfl, ?_⟩
    have e1 : decide (V.str (mkS (pc.drop (spN isDg pc))) = V.str (Str.ofString "")) = (pc.drop (spN isDg pc)).isEmpty := by
      rw [dec_str, lit (s := "") (l := []), tl_mkS, tl_mkS]
      cases pc.drop (spN isDg pc) with
      | nil => rfl
      | cons a b => exact decide_eq_false (fun h => by cases h)
    have e2 : decide (V.str (mkS pc) = V.str (Str.ofString "")) = pc.isEmpty := by
      rw [dec_str, lit (s := "") (l := []), tl_mkS, tl_mkS]
      cases pc with
      | nil => rfl
      | cons a b => exact decide_eq_false (fun h => by cases h)
    show if (!decide (V.str (mkS (pc.drop (spN isDg pc))) = V.str (Str.ofString ""))) = true then _ else _
    rw [e1]
    have ret : spN isDg l = j + spN isDg pc → Q (.int ((i + (j + spN isDg pc) : Nat) : Int)) H2 := fun h => by
      rw [← h]
      exact k
    cases q1 : (pc.drop (spN isDg pc)).isEmpty with
    | false =>
      refine iteT ?_
      refine iteT ?_
      refine ⟨_, rfl, ret ?_⟩
      have : (pc.drop (spN isDg pc)).length ≠ 0 := fun h => by
        rw [List.eq_nil_of_length_eq_zero h] at q1
        cases q1
      omega
    | true =>
      have h0 : pc.length - spN isDg pc = 0 := by
        rw [← hrl, List.isEmpty_iff.mp q1]
        rfl
      refine iteF ?_
      refine ⟨_, rfl, rfl, _, rfl, ?_⟩
      show if decide (V.str (mkS pc) = V.str (Str.ofString "")) = true then _ else _
      rw [e2]
      cases q2 : pc.isEmpty with
      | true =>
        refine iteT ?_
        refine ⟨_, rfl, ret ?_⟩
        have : pc.length = 0 := by
          rw [List.isEmpty_iff.mp q2]
          rfl
        omega
      | false =>
        refine iteF ?_
        have hne : pc.length ≠ 0 := fun h => by
          rw [List.eq_nil_of_length_eq_zero h] at q2
          cases q2
        refine ⟨l.length - (j + spN isDg pc), by omega, rfl, j + spN isDg pc, _, _, rfl, rfl, by omega, ?_⟩
        have hn : spN isDg pc ≤ spN isDg (l.drop j) := by omega
        rw [e, spN_on (l.drop j) (spN isDg pc) hn, List.drop_drop]
        omega
end
end PX
/-! PXKd -/
namespace PX
open PySem PySem.Spec PyProof.Rows L2 TL
/-! ### a key that a dict of the head has not -/
theorem kd_find {w : World} {z : Str} : ∀ {l : List DictEntry} {ks : List Str}, l.map He.keyOf = He.keysIn w.params ks → z ∉ ks → l.find? (·.key.isStr z) = none ∧ l.any (·.refKey) = false
  | [], [], _, _ => ⟨rfl, rfl⟩
  | [], _ :: _, h, _ => by cases h
  | _ :: _, [], h, _ => by cases h
  | e :: l, k :: ks, h, hz => by
    have h1 : He.keyOf e = some (k, PyData.keyHash w.params k) := (List.cons.inj h).1
    have h2 : l.map He.keyOf = He.keysIn w.params ks := (List.cons.inj h).2
    obtain ⟨i1, i2⟩ := kd_find h2 (fun hm => hz (List.mem_cons_of_mem _ hm))
    have hk : k ≠ z := fun e => hz (by rw [e]; exact List.mem_cons_self)
    unfold He.keyOf at h1
    cases hkey : e.key with
    | str x t =>
      rw [hkey] at h1
      dsimp only at h1
      have hx : x = k := congrArg Prod.fst (Option.some.inj h1)
      subst hx
      refine ⟨?_, ?_⟩
      · have hf : e.key.isStr z = false := by
          rw [hkey]
          exact decide_eq_false hk
        rw [List.find?_cons, hf]
        exact i1
      · have hf : e.refKey = false := by
          unfold DictEntry.refKey
          rw [hkey]
        rw [List.any_cons, hf, i2]
        rfl
    | _ => rw [hkey] at h1; cases h1
theorem kd_no {K : PySem.W.Frag} {w : World} {a : Addr} {ks : List Str} {z : Str} (h : He.dicW K a = some (He.keysIn w.params ks)) (hz : z ∉ ks) : PySem.W.nsIn K a z = some none := by
  obtain ⟨es, n, D⟩ := He.dicW_ok h
  unfold He.dicW at h
  rw [D.at_] at h
  have h1 : (match decide (("dict" : String) = "dict") && ((#[] : Array (Option Value)).isEmpty && !(a == sysModules)) with
    | true => some (es.toList.map He.keyOf)
    | false => none) = some (He.keysIn w.params ks) := h
  rw [D.low] at h1
  have h2 : es.toList.map He.keyOf = He.keysIn w.params ks := Option.some.inj h1
  obtain ⟨f1, f2⟩ := kd_find h2 hz
  unfold PySem.W.nsIn
  rw [D.at_]
  dsimp only
  rw [f1]
  dsimp only
  rw [f2]
  rfl
/-- the value that a dict of the head has for a key -/
theorem kd_val {K : PySem.W.Frag} {w : World} {a : Addr} {ks : List Str} {kvs : List (Str × He.Dv)} {k : Str} {v : He.Dv} (h : He.dicW K a = some (He.keysIn w.params ks)) (hv : He.valsB K a kvs = true) (hm : (k, v) ∈ kvs) : KDct K w a k (v.v K) := by
  obtain ⟨es, n, D⟩ := He.dicW_ok h
  obtain ⟨u, e3, e4⟩ := He.valsB_ok hv hm
  exact ⟨es, n, u, D.at_, D.lit, e3, e4⟩
theorem kd_has {K : PySem.W.Frag} {a : Addr} {kvs : List (Str × He.Dv)} {k : Str} {v : He.Dv} (hv : He.valsB K a kvs = true) (hm : (k, v) ∈ kvs) : ∃ u, PySem.W.nsIn K a k = some (some u) := by
  obtain ⟨u, e3, _⟩ := He.valsB_ok hv hm
  exact ⟨u, e3⟩
end PX
/-! PXTn -/
namespace PX
open PySem PySem.Spec PyProof.Rows L2 TL
def kiS : Ki → Str
  | .nam => "name" | .num => "number" | .txt => "text" | .sgn => "sign" | .opn => "open" | .brk => "broken" | .fin => "end"
def tkV (k : Ki) (wd : List Nat) (i : Nat) : List V := [.str (kiS k), .str (mkS wd), .int (i : Int)]
def rTk (H : Hp) (Q : VK) (k : Ki) (wd : List Nat) (i : Nat) : Prop := ∀ H' t, Same H H' → H t = none → H' t = some (.tup (tkV k wd i)) → Q (.ref t) H'
theorem rTk_new {H H1 : Hp} {Q : VK} {k : Ki} {wd : List Nat} {i : Nat} (h : rTk H Q k wd i) (s : Same H H1) : ∀ p, H1 p = none → ∀ ks ws : Str, ks = kiS k → ws = mkS wd → Q (.ref p) (upd H1 p (.tup [.str ks, .str ws, .int (i : Int)])) := by
  intro p hp ks ws e1 e2
  subst e1 e2
  refine h _ p (s.trans (same_new hp)) ?_ upd_same
  cases q : H p with
  | none => rfl
  | some u =>
    have := s _ _ q
    rw [hp] at this
    cases this
theorem cp_at {z : Str} {i c : Nat} {r : List Nat} (h : (tl z).drop i = c :: r) : atI z.cps.toList (i : Int) = some c := by
  refine atI_nat ?_
  show (tl z)[i]? = some c
  have h1 : ((tl z).drop i)[0]? = some c := by rw [h]; rfl
  rw [List.getElem?_drop] at h1
  exact h1
theorem spN_mem {p q : Nat → Bool} : ∀ l : List Nat, (∀ c ∈ l, p c = q c) → spN p l = spN q l
  | [], _ => rfl
  | c :: r, h => by
    show (if p c = true then spN p r + 1 else 0) = if q c = true then spN q r + 1 else 0
    rw [h c List.mem_cons_self, spN_mem r fun d hd => h d (List.mem_cons_of_mem _ hd)]
section
variable {P : Program} {w : World} {K : PySem.W.Frag} {mg : Str → Option Value} {base : Heap}
def spF (f : List Nat → Nat) : Sp := fun vs H Q _ => ∃ (z : Str) (i : Nat), vs = [.str z, .int i] ∧ Gd z ∧ i ≤ z.length ∧ Q (.int ((i + f ((tl z).drop i) : Nat) : Int)) H
theorem ok_end_of_digits (T : Tx w K mg) : Ok P w K mg base CX0 2 (He.fAd K d_end_of_digits.at_) p_end_of_digits (spF (spN isDg)) := by
  obtain ⟨fd, F⟩ := f_end_of_digits T
  obtain ⟨fR, GR, bR, kR⟩ := ok_end_of_run (P := P) (base := base) T
  refine ⟨fd, ?_, b_end_of_digits F, F.kp⟩
  refine F.ok sc_end_of_digits (fun vs H Q E h => ?_) (fun cdv A outer s H vs Q E hr h => ?_)
  · obtain ⟨z, i, rfl, _⟩ := h
    rfl
  · obtain ⟨z, i, rfl, g, hi, k⟩ := h
    refine ⟨_, PSs.nox (pss_one (ps_ret (pe_call (E := E0) GR (hr.mono (by decide)) rfl (g_end_of_run T) kR bR .nil pass0 (pa_cons (pv 0) (pa_cons (pv 1) (pa_cons (glob_dig T (by rfl)) pa_nil)))))), ?_⟩
    exact ⟨_, rfl, _, rfl, z, i, rfl, g, hi, k⟩
theorem ok_end_of_number (T : Tx w K mg) : Ok P w K mg base CX0 3 (He.fAd K d_end_of_number.at_) p_end_of_number (spF nuN) := by
  obtain ⟨fd, F⟩ := f_end_of_number T
  obtain ⟨fW, GW, bW, kW⟩ := ok_end_of_digits (P := P) (base := base) T
  refine ⟨fd, ?_, b_end_of_number F, F.kp⟩
  refine F.ok sc_end_of_number (fun vs H Q E h => ?_) (fun cdv A outer s H vs Q E hr h => ?_)
  · obtain ⟨z, i, rfl, _⟩ := h
    rfl
  · obtain ⟨z, i, rfl, g, hi, k⟩ := h
    have nd := sc_end_of_number.nd
    have hlen : z.length = (tl z).length := len_tl z
    refine ⟨_, PSs.nox (pss_cons (ps_set (i := 2) nd rfl (.inl rfl) (pe_call (E := E0) GW (hr.mono (by decide)) rfl (g_end_of_digits T) kW bW .nil pass0 (pa_cons (pv 0) (pa_cons (pv 1) pa_nil))))
      (pss_cons (ps_if (pt_cmpR op_eq (pe_slice sl_str (pv 0) (po_some (pv 2)) (po_some (pe_op op_add (pv 2) pe_int))) pe_str (nomark _))
        (pss_one (ps_set (i := 2) nd rfl (.inl rfl) (pe_call (E := E0) GW (hr.mono (by decide)) rfl (g_end_of_digits T) kW bW .nil pass0 (pa_cons (pv 0) (pa_cons (pe_op op_add (pv 2) pe_int) pa_nil))))) pss_nil)
      (pss_one (ps_ret (pv 2))))), ?_⟩
    refine ⟨_, rfl, _, rfl, z, i, rfl, g, hi, ?_⟩
    have hd : ∀ n, (tl z).drop (i + n) = ((tl z).drop i).drop n := fun n => drop_add
    have hll : ((tl z).drop i).length = z.length - i := by rw [List.length_drop, hlen]
    generalize hl : (tl z).drop i = l at *
    have hd1 : (tl z).drop (i + spN isDg l + 1) = l.drop (spN isDg l + 1) := hd (spN isDg l + 1)
    have hb := spN_le isDg l
    refine ⟨_, rfl, _, rfl, _, rfl, _, rfl, _, _, rfl, rfl, _, rfl, z, rfl, g.line, ?_⟩
    rw [cut_one, hd]
    refine ⟨rfl, _, rfl, ?_⟩
    show if decide (V.str (sg (l.drop (spN isDg l))) = V.str (Str.ofString ".")) = true then _ else _
    rw [sg_lit _ (c := 46)]
    cases h1 : hP (· == 46) (l.drop (spN isDg l)) with
    | false =>
      refine iteF ?_
      refine ⟨_, rfl, ?_⟩
      have e : nuN l = spN isDg l := by
        unfold nuN
        rw [h1]
        rfl
      rw [e] at k
      exact k
    | true =>
      have hlt : spN isDg l < l.length := by
        cases q : l.drop (spN isDg l) with
        | nil => rw [q] at h1; cases h1
        | cons a b =>
          have := congrArg List.length q
          rw [List.length_drop, List.length_cons] at this
          omega
      refine iteT ?_
      refine ⟨_, rfl, _, rfl, _, _, rfl, rfl, z, i + spN isDg l + 1, rfl, g, by omega, ?_⟩
      refine ⟨_, rfl, ?_⟩
      have e : nuN l = spN isDg l + 1 + spN isDg (l.drop (spN isDg l + 1)) := by
        unfold nuN
        rw [h1]
        rfl
      rw [e] at k
      rw [hd1, show i + spN isDg l + 1 + spN isDg (l.drop (spN isDg l + 1)) = i + (spN isDg l + 1 + spN isDg (l.drop (spN isDg l + 1))) by omega]
      exact k
def qtK (c : Nat) (r : List Nat) : Ki := if hP (· == c) (r.drop (spN (fun d => isSg d && d != c) r)) = true then .txt else .opn
def qtL (c : Nat) (r : List Nat) : Nat := if hP (· == c) (r.drop (spN (fun d => isSg d && d != c) r)) = true then spN (fun d => isSg d && d != c) r + 2 else spN (fun d => isSg d && d != c) r + 1
def spQt : Sp := fun vs H Q _ => ∃ (z : Str) (i c : Nat) (r : List Nat), vs = [.str z, .int (i : Int)] ∧ Gd z ∧ (tl z).drop i = c :: r ∧ rTk H Q (qtK c r) ((c :: r).take (qtL c r)) i
theorem ok_quoted_token (T : Tx w K mg) : Ok P w K mg base CX0 1 (He.fAd K d_quoted_token.at_) p_quoted_token spQt := by
  obtain ⟨fd, F⟩ := f_quoted_token T
  refine ⟨fd, ?_, b_quoted_token F, F.kp⟩
  refine F.ok sc_quoted_token (fun vs H Q E h => ?_) (fun cdv A outer s H vs Q E hr h => ?_)
  · obtain ⟨z, i, c, r, rfl, _⟩ := h
    rfl
  · obtain ⟨z, i, c, r, rfl, g, hz, k⟩ := h
    have nd := sc_quoted_token.nd
    have hlen : z.length = (tl z).length := len_tl z
    refine ⟨_, PSs.nox (pss_cons (ps_set (i := 2) nd rfl (.inl rfl) (pe_bm PySem.F.plainAttrs_str PySem.F.slot_str_find PySem.F.type_str_find mt_find3 (pv 0) (pa_cons (pe_ix ix_str (pv 0) (pv 1) (fun _ _ => rfl)) (pa_cons (pe_op op_add (pv 1) pe_int) pa_nil))))
      (pss_cons (ps_if (pt_cmpR op_lt (pv 2) pe_int (nomark _)) (pss_one (ps_ret (pe_tup (pa_cons pe_str (pa_cons (pe_slice sl_str (pv 0) (po_some (pv 1)) po_none) (pa_cons (pv 1) pa_nil)))))) pss_nil)
      (pss_one (ps_ret (pe_tup (pa_cons pe_str (pa_cons (pe_slice sl_str (pv 0) (po_some (pv 1)) (po_some (pe_op op_add (pv 2) pe_int))) (pa_cons (pv 1) pa_nil)))))))), ?_⟩
    obtain ⟨hlt, hdr⟩ := drop_cons hz
    have hsg : ∀ d ∈ r, (isSg d && d != c) = (d != c) := fun d hd => by
      have : d ∈ tl z := List.mem_of_mem_drop (i := i + 1) (by rw [hdr]; exact hd)
      rw [g.sg d this, Bool.true_and]
    have hn := spN_mem (p := fun d => isSg d && d != c) (q := fun d => d != c) r hsg
    have hrl : r.length = z.length - (i + 1) := by rw [← hdr, List.length_drop, hlen]
    have hf : Txt.find3 z ⟨#[c]⟩ ((i : Int) + 1) = if spN (fun d => d != c) r < r.length then (((i + 1) + spN (fun d => d != c) r : Nat) : Int) else -1 := by
      rw [show ((i : Int) + 1) = ((i + 1 : Nat) : Int) by omega, find3_fd z ⟨#[c]⟩ (i + 1) (by omega) (by show [c] ≠ []; simp), hdr]
      show (match fdN [c] r with | some j => ((i + 1 + j : Nat) : Int) | none => -1) = _
      rw [fd1]
      by_cases q : spN (fun d => d != c) r < r.length
      · rw [if_pos q, if_pos q]
      · rw [if_neg q, if_neg q]
    refine ⟨_, rfl, rfl, _, rfl, _, rfl, z, (i : Int), c, rfl, rfl, g.line, cp_at hz, _, rfl, _, _, rfl, rfl, z, ⟨#[c]⟩, (i : Int) + 1, rfl, rfl, ?_⟩
    rw [hf]
    have hb := spN_le (fun d => d != c) r
    unfold qtK qtL at k
    rw [hn] at k
    obtain ⟨s1, s2, s3⟩ := spN_split (p := fun d => d != c) r
    by_cases q : spN (fun d => d != c) r < r.length
    · rw [if_pos q]
      have h1 : hP (· == c) (r.drop (spN (fun d => d != c) r)) = true := by
        cases e : r.drop (spN (fun d => d != c) r) with
        | nil =>
          have := congrArg List.length e
          rw [List.length_drop, List.length_nil] at this
          omega
        | cons a b =>
          rw [e] at s3
          have : (a != c) = false := s3
          show (a == c) = true
          simpa using this
      rw [h1, if_pos rfl, if_pos rfl] at k
      refine ⟨_, rfl, _, _, rfl, rfl, _, rfl, ?_⟩
      refine iteF ?_ (decide_eq_false (by omega))
      refine ⟨_, rfl, _, rfl, _, rfl, _, rfl, _, _, rfl, rfl, _, rfl, z, rfl, g.line, _, rfl, (by show 3 ≤ sizeLine; decide), fun p hp => ?_⟩
      refine rTk_new k (Same.refl H) p hp _ _ rfl ?_
      have ec := cut_nat z i (i + 1 + spN (fun d => d != c) r + 1)
      rw [show i + 1 + spN (fun d => d != c) r + 1 - i = spN (fun d => d != c) r + 2 by omega, hz] at ec
      rw [show ((i + 1 + spN (fun d => d != c) r : Nat) : Int) + 1 = ((i + 1 + spN (fun d => d != c) r + 1 : Nat) : Int) by omega]
      exact ec
    · rw [if_neg q]
      have e1 : spN (fun d => d != c) r = r.length := by omega
      have h1 : hP (· == c) (r.drop (spN (fun d => d != c) r)) = false := by
        rw [e1, List.drop_length]
        rfl
      rw [h1, if_neg Bool.false_ne_true, if_neg Bool.false_ne_true] at k
      refine ⟨_, rfl, _, _, rfl, rfl, _, rfl, ?_⟩
      refine iteT ?_
      refine ⟨_, rfl, _, rfl, _, rfl, z, rfl, g.line, _, rfl, (by show 3 ≤ sizeLine; decide), fun p hp => ?_⟩
      refine rTk_new k (Same.refl H) p hp _ _ rfl ?_
      rw [cut_from, hz, e1, List.take_of_length_le (by rw [List.length_cons]; omega)]
end
end PX
/-! PXTo -/
namespace PX
open PySem PySem.Spec PyProof.Rows L2 TL
/-! ### signs that may be longer -/
def longN (c : Nat) : Option Nat := if c == 47 then some 47 else if c == 58 then some 58 else if c == 46 then some 46 else if c == 33 || c == 60 || c == 62 then some 61 else none
def aloneN (c : Nat) : Bool := c == 47 || c == 46 || c == 60 || c == 62
def loneN (c : Nat) : Bool := decide (c ∈ ([64, 36, 42, 124, 43, 45, 61, 40, 41, 91, 93, 44] : List Nat))
theorem t1 (c a : Nat) (r : List Nat) : ((c :: r).take ([a] : List Nat).length == [a]) = (c == a) := by
  show ([c] == [a]) = _
  simp
theorem t2 (c a b : Nat) (r : List Nat) : ((c :: r).take ([a, b] : List Nat).length == [a, b]) = (c == a && hP (· == b) r) := by
  cases r with
  | nil =>
    show ([c] == [a, b]) = (_ && false)
    rw [Bool.and_false]
    simp
  | cons d r =>
    show ([c, d] == [a, b]) = (c == a && d == b)
    simp
theorem sgN_eq (c : Nat) (r : List Nat) : sgN (c :: r) = if loneN c = true then some [c] else match longN c with
    | some d => if hP (· == d) r = true then some [c, d] else if aloneN c = true then some [c] else none
    | none => none := by
  unfold sgN sgL
  simp only [List.find?_cons, List.find?_nil, t1, t2]
  by_cases h1 : c = 47
  · subst h1; cases h : hP (· == 47) r <;> simp [loneN, longN, aloneN, h]
  by_cases h2 : c = 58
  · subst h2; cases h : hP (· == 58) r <;> simp [loneN, longN, aloneN, h]
  by_cases h3 : c = 46
  · subst h3; cases h : hP (· == 46) r <;> simp [loneN, longN, aloneN, h]
  by_cases h4 : c = 33
  · subst h4; cases h : hP (· == 61) r <;> simp [loneN, longN, aloneN, h]
  by_cases h5 : c = 60
  · subst h5; cases h : hP (· == 61) r <;> simp [loneN, longN, aloneN, h]
  by_cases h6 : c = 62
  · subst h6; cases h : hP (· == 61) r <;> simp [loneN, longN, aloneN, h]
  have e1 : longN c = none := by simp [longN, h1, h2, h3, h4, h5, h6]
  rw [e1]
  by_cases h7 : loneN c = true
  · rw [if_pos h7]
    unfold loneN at h7
    have hm := of_decide_eq_true h7
    simp only [List.mem_cons, List.not_mem_nil, or_false] at hm
    rcases hm with rfl | rfl | rfl | rfl | rfl | rfl | rfl | rfl | rfl | rfl | rfl | rfl <;> simp
  · rw [if_neg h7]
    unfold loneN at h7
    have hm : ¬ c ∈ ([64, 36, 42, 124, 43, 45, 61, 40, 41, 91, 93, 44] : List Nat) := fun h => h7 (decide_eq_true h)
    simp only [List.mem_cons, List.not_mem_nil, or_false, not_or] at hm
    obtain ⟨a1, a2, a3, a4, a5, a6, a7, a8, a9, a10, a11, a12⟩ := hm
    have b : ∀ a, c ≠ a → (c == a) = false := fun a h => beq_eq_false_iff_ne.mpr h
    rw [b 58 h2, b 47 h1, b 46 h3, b 33 h4, b 60 h5, b 62 h6, b 64 a1, b 36 a2, b 42 a3, b 124 a4, b 43 a5, b 45 a6, b 61 a7, b 40 a8, b 41 a9, b 91 a10, b 93 a11, b 44 a12]
    rfl
theorem tk_eq (c : Nat) (r : List Nat) : tkN (c :: r) = if isLt c = true then (.nam, nmN (c :: r)) else if (isDg c || (c == 46 && hP isDg r)) = true then (.num, nuN (c :: r)) else if (c == 39 || c == 34) = true then (qtK c r, qtL c r)
    else match sgN (c :: r) with
      | some w => (.sgn, w.length)
      | none => (.brk, 1) := by
  show (if isLt c = true then (.nam, nmN (c :: r)) else if (isDg c || (c == 46 && hP isDg r)) = true then (.num, nuN (c :: r)) else if (c == 39 || c == 34) = true then
      (if hP (· == c) (r.drop (spN (fun d => isSg d && d != c) r)) = true then (Ki.txt, spN (fun d => isSg d && d != c) r + 2) else (.opn, spN (fun d => isSg d && d != c) r + 1)) else _) = _
  unfold qtK qtL
  cases hP (· == c) (r.drop (spN (fun d => isSg d && d != c) r)) <;> rfl
theorem inV2 (c : Nat) : inV (.str (mkS [c])) [.str (Str.ofString "'"), .str (Str.ofString "\"")] = (c == 39 || c == 34) := by
  show (eqV _ _ || (eqV _ _ || false)) = _
  rw [eqV_str, eqV_str, lit (s := "'") (l := [39]), lit (s := "\"") (l := [34]), tl_mkS, tl_mkS, tl_mkS]
  rw [dec1, dec1, Bool.or_false]
theorem inV2b (c : Nat) : inV (.str (mkS [c])) (tup_BROKEN_ALONE.map V.str) = (c == 58 || c == 33) := by
  show (eqV _ _ || (eqV _ _ || false)) = _
  rw [eqV_str, eqV_str, lit (s := ":") (l := [58]), lit (s := "!") (l := [33]), tl_mkS, tl_mkS, tl_mkS]
  rw [dec1, dec1, Bool.or_false]
theorem long_kvs {c d : Nat} (h : longN c = some d) : (mkS [c], He.Dv.str (mkS [d])) ∈ kvs_LONGER_BY := by
  have key : ∀ x ∈ ([(47, 47), (58, 58), (46, 46), (33, 61), (60, 61), (62, 61)] : List (Nat × Nat)), (mkS [x.1], He.Dv.str (mkS [x.2])) ∈ kvs_LONGER_BY := by
    intro x hx
    simp only [List.mem_cons, List.not_mem_nil, or_false] at hx
    have a1 : ("/" : Str) = mkS [47] := lit (s := "/") (l := [47])
    have a2 : (":" : Str) = mkS [58] := lit (s := ":") (l := [58])
    have a3 : ("." : Str) = mkS [46] := lit (s := ".") (l := [46])
    have a4 : ("!" : Str) = mkS [33] := lit (s := "!") (l := [33])
    have a5 : ("<" : Str) = mkS [60] := lit (s := "<") (l := [60])
    have a6 : (">" : Str) = mkS [62] := lit (s := ">") (l := [62])
    have a7 : ("=" : Str) = mkS [61] := lit (s := "=") (l := [61])
    unfold kvs_LONGER_BY
    rw [a1, a2, a3, a4, a5, a6, a7]
    rcases hx with rfl | rfl | rfl | rfl | rfl | rfl <;> simp
  refine key (c, d) ?_
  unfold longN at h
  simp only [List.mem_cons, List.not_mem_nil, or_false, Prod.mk.injEq]
  by_cases h1 : c = 47
  · subst h1; simp at h; omega
  by_cases h2 : c = 58
  · subst h2; simp at h; omega
  by_cases h3 : c = 46
  · subst h3; simp at h; omega
  by_cases h4 : c = 33
  · subst h4; simp at h; omega
  by_cases h5 : c = 60
  · subst h5; simp at h; omega
  by_cases h6 : c = 62
  · subst h6; simp at h; omega
  simp [h1, h2, h3, h4, h5, h6] at h
theorem long_no {c : Nat} (h : longN c = none) : mkS [c] ∉ keys_LONGER_BY := by
  have key : keys_LONGER_BY = [mkS [47], mkS [58], mkS [46], mkS [33], mkS [60], mkS [62]] := by
    have a1 : ("/" : Str) = mkS [47] := lit (s := "/") (l := [47])
    have a2 : (":" : Str) = mkS [58] := lit (s := ":") (l := [58])
    have a3 : ("." : Str) = mkS [46] := lit (s := ".") (l := [46])
    have a4 : ("!" : Str) = mkS [33] := lit (s := "!") (l := [33])
    have a5 : ("<" : Str) = mkS [60] := lit (s := "<") (l := [60])
    have a6 : (">" : Str) = mkS [62] := lit (s := ">") (l := [62])
    unfold keys_LONGER_BY
    rw [a1, a2, a3, a4, a5, a6]
  rw [key]
  intro hm
  simp only [List.mem_cons, List.not_mem_nil, or_false] at hm
  unfold longN at h
  rcases hm with e | e | e | e | e | e <;> (have := mkS_inj e; simp at this; subst this; simp at h)
theorem long_alone {c d : Nat} (h : longN c = some d) : (c == 58 || c == 33) = !aloneN c := by
  unfold longN at h
  by_cases h1 : c = 47
  · subst h1; rfl
  by_cases h2 : c = 58
  · subst h2; rfl
  by_cases h3 : c = 46
  · subst h3; rfl
  by_cases h4 : c = 33
  · subst h4; rfl
  by_cases h5 : c = 60
  · subst h5; rfl
  by_cases h6 : c = 62
  · subst h6; rfl
  simp [h1, h2, h3, h4, h5, h6] at h
theorem cut_next (z : Str) (i : Nat) : cutS z (some ((i : Int) + 1)) (some ((i : Int) + 2)) = sg ((tl z).drop (i + 1)) := by
  have h := cut_one z (i + 1)
  rw [show ((i : Int) + 2) = (((i + 1 : Nat) : Int) + 1) by omega, show ((i : Int) + 1) = ((i + 1 : Nat) : Int) by omega]
  exact h
theorem rTk_same {H H1 : Hp} {Q : VK} {k : Ki} {wd : List Nat} {i : Nat} (h : rTk H Q k wd i) (s : Same H H1) : rTk H1 Q k wd i := fun H' t s2 ht hv => h H' t (s.trans s2) (by
  cases q : H t with
  | none => rfl
  | some u =>
    have := s _ _ q
    rw [ht] at this
    cases this) hv
theorem flat_strs (ws : List Str) : (ws.map V.str).all flatV = true := by
  induction ws with
  | nil => rfl
  | cons a ws ih =>
    show (flatV (.str a) && (ws.map V.str).all flatV) = true
    rw [ih]
    rfl
section
variable {P : Program} {w : World} {K : PySem.W.Frag} {mg : Str → Option Value} {base : Heap}
def spTk : Sp := fun vs H Q _ => ∃ (z : Str) (i c : Nat) (r : List Nat), vs = [.str z, .int (i : Int), .int ((i + spN isWd (c :: r) : Nat) : Int)] ∧ Gd z ∧ (tl z).drop i = c :: r ∧ isLt c = false ∧ loneN c = false ∧ rTk H Q (tkN (c :: r)).1 ((c :: r).take (tkN (c :: r)).2) i
theorem ok_token_at (T : Tx w K mg) : Ok P w K mg base CX0 4 (He.fAd K d_token_at.at_) p_token_at spTk := by
  obtain ⟨fd, F⟩ := f_token_at T
  obtain ⟨fU, GU, bU, kU⟩ := ok_end_of_number (P := P) (base := base) T
  obtain ⟨fQ, GQ, bQ, kQ⟩ := ok_quoted_token (P := P) (base := base) T
  obtain ⟨es, n, D⟩ := He.dicW_ok T.tab_LONGER_BY
  refine ⟨fd, ?_, b_token_at F, F.kp⟩
  refine okT F sc_token_at (by decide +kernel) (by decide) (fun vs H Q E h => ?_) (fun cdv A outer s H vs Q E hr h => ?_)
  · obtain ⟨z, i, c, r, rfl, _⟩ := h
    rfl
  · obtain ⟨z, i, c, r, rfl, g, hz, hlt, hlo, k⟩ := h
    have nd := sc_token_at.nd
    have hlen : z.length = (tl z).length := len_tl z
    refine ⟨_, psst_nox (psst_cons (PST.of (ps_set (i := 3) nd rfl (.inl rfl) (pe_ix ix_str (pv 0) (pv 1) (fun _ _ => rfl))))
      (psst_cons (PST.of (ps_set (i := 4) nd rfl (.inl rfl) (pe_slice sl_str (pv 0) (po_some (pv 1)) (po_some (pv 2)))))
      (psst_cons (pst_ifT (ptt_or (pt_val (pe_m0 PySem.F.slot_str_isdigit PySem.F.type_str_isdigit mt_isdigit (pv 4))) (ptt_val (pet_bm0 PySem.F.plainAttrs_str PySem.F.slot_str_isdigit PySem.F.type_str_isdigit mt_isdigit (pet_repl1 (pv 4)))))
          (PSsT.of (pss_one (ps_ret (pe_tup (pa_cons pe_str (pa_cons (pv 4) (pa_cons (pv 1) pa_nil))))))) (PSsT.of pss_nil))
      (PSsT.of (pss_cons (ps_set (i := 5) nd rfl (.inl rfl) (pe_slice sl_str (pv 0) (po_some (pe_op op_add (pv 1) pe_int)) (po_some (pe_op op_add (pv 1) pe_int))))
      (Evl.pss_cut (ps_if (pw_or (pt_cmpR op_in_sign (pv 3) (glob_dig T (by rfl)) (by rfl)) (pw_or1 (pw_and (pt_cmpR op_eq (pv 3) pe_str (nomark _)) (pw_and1 (pt_val (pe_m0 PySem.F.slot_str_isdigit PySem.F.type_str_isdigit mt_isdigit (pv 5))))).pt)).pt
          (pss_one (ps_ret (pe_tup (pa_cons pe_str (pa_cons (pe_slice sl_str (pv 0) (po_some (pv 1)) (po_some (pe_call (E := E0) GU (hr.mono (by decide)) (by rfl) (g_end_of_number T) kU bU .nil pass0 (pa_cons (pv 0) (pa_cons (pv 1) pa_nil))))) (pa_cons (pv 1) pa_nil)))))) pss_nil)
      (pss_cons (ps_if (pt_cmpR op_in_seq (pv 3) (pe_tup (pa_cons pe_str (pa_cons pe_str pa_nil))) (by rfl))
          (pss_one (ps_ret (pe_call (E := E0) GQ (hr.mono (by decide)) (by rfl) (g_quoted_token T) kQ bQ .nil pass0 (pa_cons (pv 0) (pa_cons (pv 1) pa_nil))))) pss_nil)
      (pss_cons (ps_if (pw_and (pt_cmpR (op_in_kd D) (pv 3) (pe_glob (v := .ref (He.ga K "LONGER_BY")) (by rfl) (g_LONGER_BY T) rfl) (by rfl))
            (pw_and1 (pt_cmpR op_eq (pe_ix ix_kdict (pe_glob (v := .ref (He.ga K "LONGER_BY")) (by rfl) (g_LONGER_BY T) rfl) (pv 3) (fun _ _ => rfl)) (pv 5) (nomark _)))).pt
          (pss_one (ps_ret (pe_tup (pa_cons pe_str (pa_cons (pe_op op_add_str (pv 3) (pv 5)) (pa_cons (pv 1) pa_nil)))))) pss_nil)
      (pss_cons (ps_if (pw_or (pt_cmpR (op_notIn_kd D) (pv 3) (pe_glob (v := .ref (He.ga K "LONGER_BY")) (by rfl) (g_LONGER_BY T) rfl) (by rfl))
            (pw_or1 (pt_cmpR op_in_seq (pv 3) (pe_glob (v := .ref (He.ga K "BROKEN_ALONE")) (by rfl) (g_BROKEN_ALONE T) rfl) (by rfl)))).pt
          (pss_one (ps_ret (pe_tup (pa_cons pe_str (pa_cons (pv 3) (pa_cons (pv 1) pa_nil)))))) pss_nil)
      (pss_one (ps_ret (pe_tup (pa_cons pe_str (pa_cons (pv 3) (pa_cons (pv 1) pa_nil))))))))))))))), ?_⟩
    have hn := spN_le isWd (c :: r)
    have hcl : (c :: r).length = z.length - i := by rw [← hz, List.length_drop, hlen]
    have small : ∀ d ∈ c :: r, d < 128 := fun d hd => by
      have hm : d ∈ tl z := List.mem_of_mem_drop (i := i) (by rw [hz]; exact hd)
      have := g.sg d hm
      unfold isSg at this
      simp only [Bool.or_eq_true, Bool.and_eq_true, decide_eq_true_eq, beq_iff_eq] at this
      omega
    obtain ⟨w1, w2, w3⟩ := spN_split (p := isWd) (c :: r)
    have hwl : ((c :: r).take (spN isWd (c :: r))).length = spN isWd (c :: r) := by
      rw [List.length_take]
      omega
    have ec := cut_nat z i (i + spN isWd (c :: r))
    rw [Nat.add_sub_cancel_left, hz] at ec
    refine ⟨_, rfl, _, rfl, z, (i : Int), c, rfl, rfl, g.line, cp_at hz, ?_⟩
    refine ⟨_, rfl, _, rfl, _, rfl, _, rfl, _, rfl, z, rfl, g.line, ?_⟩
    rw [ec]
    generalize hw : (c :: r).take (spN isWd (c :: r)) = wd at w1 w2 hwl ⊢
    generalize hrr : (c :: r).drop (spN isWd (c :: r)) = rr at w1 w3
    have hws : ∀ d ∈ wd, d < 128 := fun d hd => small d (by rw [w1]; exact List.mem_append_left _ hd)
    have hrs : ∀ d ∈ rm1 wd, d < 128 := fun d hd => by
      unfold rm1 at hd
      rcases List.mem_append.mp hd with h | h
      · exact hws d (List.mem_of_mem_take h)
      · exact hws d (List.mem_of_mem_drop h)
    have i1 := isdigit_mk wd hws
    have i2 := isdigit_mk (rm1 wd) hrs
    have num : numB wd = true → ∀ p, H p = none → Q (.ref p) (upd H p (.tup [.str (Str.ofString "number"), .str (mkS wd), .int (i : Int)])) := by
      intro hb p hp
      obtain ⟨n1, c2, t2, e1, e2⟩ := nu_word hb w3
      rw [← w1] at n1
      have e3 : c2 = c ∧ t2 ++ rr = r := by
        rw [e1] at w1
        have := List.cons.inj w1
        exact ⟨this.1.symm, this.2.symm⟩
      rw [e3.1, e3.2] at e2
      have et : tkN (c :: r) = (.num, wd.length) := by
        rw [tk_eq, hlt, if_neg Bool.false_ne_true, if_pos e2, n1]
      rw [et] at k
      refine rTk_new k (Same.refl H) p hp _ _ rfl ?_
      show mkS wd = mkS ((c :: r).take wd.length)
      rw [w1, List.take_left]
    refine ⟨_, rfl, ⟨_, rfl⟩, _, rfl, rfl, trivial, _, rfl, ?_⟩
    rw [i1]
    cases hb1 : (!wd.isEmpty && wd.all isDg) with
    | true =>
      refine iteT ?_
      exact ⟨_, rfl, _, rfl, (by show 3 ≤ sizeLine; decide), fun p hp => num (by unfold numB; rw [hb1]; rfl) p hp⟩
    | false =>
      refine iteF ?_
      refine ⟨_, rfl, _, rfl, (by rw [mkS_len]; show _ + 0 ≤ _; have := g.len; omega), rfl, _, rfl, rfl, trivial, _, rfl, ?_⟩
      rw [repl_dot, i2]
      cases hb2 : (!(rm1 wd).isEmpty && (rm1 wd).all isDg) with
      | true =>
        exact ⟨_, rfl, _, rfl, (by show 3 ≤ sizeLine; decide), fun p hp => num (by unfold numB; rw [hb1, hb2]; rfl) p hp⟩
      | false =>
        refine iteF ?_
        refine ⟨_, rfl, _, rfl, _, _, rfl, rfl, _, rfl, _, rfl, _, _, rfl, rfl, _, rfl, z, rfl, g.line, ?_⟩
        have hdr := (drop_cons hz).2
        rw [cut_next, hdr]
        have hil : i ≤ z.length := by have := (drop_cons hz).1; omega
        refine ⟨fun σ H2 => σ = [some (V.str z), some (.int (i : Int)), some (.int ((i + spN isWd (c :: r) : Nat) : Int)), some (.str (mkS [c])), some (.str (mkS wd)), some (.str (sg r))] ∧ H2 = H ∧ (isDg c || (c == 46 && hP isDg r)) = false, ?_, ?_⟩
        · have numR : (isDg c || (c == 46 && hP isDg r)) = true → ∀ p, H p = none → Q (.ref p) (upd H p (.tup [.str (Str.ofString "number"), .str (cutS z (some (i : Int)) (some ((i + nuN ((tl z).drop i) : Nat) : Int))), .int (i : Int)])) := by
            intro hb p hp
            have et : tkN (c :: r) = (.num, nuN (c :: r)) := by
              rw [tk_eq, hlt, if_neg Bool.false_ne_true, if_pos hb]
            rw [et] at k
            refine rTk_new k (Same.refl H) p hp _ _ rfl ?_
            have ec := cut_nat z i (i + nuN (c :: r))
            rw [Nat.add_sub_cancel_left, hz] at ec
            rw [hz]
            exact ec
          refine ⟨_, rfl, c, digS, rfl, rfl, _, rfl, ?_⟩
          rw [dig_eq]
          cases hd : isDg c with
          | true =>
            refine iteT (iteT ?_)
            exact ⟨_, rfl, _, rfl, _, rfl, _, rfl, _, rfl, z, i, rfl, g, hil, _, rfl, z, rfl, g.line, _, rfl, (by show 3 ≤ sizeLine; decide), fun p hp => numR (by rw [hd]; rfl) p hp⟩
          | false =>
            refine iteF ?_
            refine ⟨_, rfl, rfl, _, rfl, ?_⟩
            show if decide (V.str (mkS [c]) = V.str (Str.ofString ".")) = true then _ else _
            have e46 : decide (V.str (mkS [c]) = V.str (Str.ofString ".")) = (c == 46) := by
              rw [dec_str, lit (s := ".") (l := [46]), tl_mkS, tl_mkS]
              exact dec1r 46 c
            rw [e46]
            cases h46 : c == 46 with
            | false =>
              refine iteF (iteF ?_)
              exact ⟨rfl, rfl, rfl⟩
            | true =>
              refine iteT ?_
              refine ⟨_, rfl, ⟨_, rfl⟩, _, rfl, rfl, trivial, _, rfl, ?_⟩
              have e2 : Txt.isdigit (sg r) = hP isDg r := by
                rw [isdigit_mk _ (fun d hd => small d (List.mem_cons_of_mem _ (List.mem_of_mem_take hd)))]
                cases r with
                | nil => rfl
                | cons a b =>
                  show (true && (isDg a && true)) = isDg a
                  rw [Bool.true_and, Bool.and_true]
              rw [e2]
              cases hr : hP isDg r with
              | true =>
                refine iteT ?_
                exact ⟨_, rfl, _, rfl, _, rfl, _, rfl, _, rfl, z, i, rfl, g, hil, _, rfl, z, rfl, g.line, _, rfl, (by show 3 ≤ sizeLine; decide), fun p hp => numR (by rw [h46, hr, hd]; rfl) p hp⟩
              | false =>
                refine iteF ?_
                exact ⟨rfl, rfl, rfl⟩
        · rintro σ H2 ⟨rfl, rfl, hnum⟩
          refine ⟨_, rfl, (by show 2 ≤ sizeLine; decide), fun q hq => ⟨q, _, rfl, .inr (SqT.of upd_same), rfl, rfl, ?_⟩⟩
          rw [if_neg Bool.false_ne_true]
          refine ⟨_, rfl, ?_⟩
          have sq := same_new hq (o := .tup [.str (Str.ofString "'"), .str (Str.ofString "\"")])
          generalize upd H2 q (.tup [.str (Str.ofString "'"), .str (Str.ofString "\"")]) = H3 at sq ⊢
          have k3 := rTk_same k sq
          show if inV (.str (mkS [c])) [.str (Str.ofString "'"), .str (Str.ofString "\"")] = true then _ else _
          rw [inV2]
          have et0 := tk_eq c r
          rw [hlt, if_neg Bool.false_ne_true, hnum, if_neg Bool.false_ne_true] at et0
          cases hqc : (c == 39 || c == 34) with
          | true =>
            rw [hqc, if_pos rfl] at et0
            rw [et0] at k3
            refine iteT ?_
            exact ⟨_, rfl, _, rfl, z, i, c, r, rfl, g, hz, k3⟩
          | false =>
            rw [hqc, if_neg Bool.false_ne_true, sgN_eq, hlo, if_neg Bool.false_ne_true] at et0
            refine iteF ?_
            have ret : ∀ (kd : Ki) (wd2 : List Nat), tkN (c :: r) = (kd, wd2.length) → (c :: r).take wd2.length = wd2 → ∀ p, H3 p = none → ∀ ks ws : Str, ks = kiS kd → ws = mkS wd2 → Q (.ref p) (upd H3 p (.tup [.str ks, .str ws, .int (i : Int)])) := by
              intro kd wd2 e1 e2 p hp ks ws e3 e4
              rw [e1] at k3
              exact rTk_new k3 (Same.refl _) p hp ks ws e3 (by rw [e4]; show _ = mkS ((c :: r).take wd2.length); rw [e2])
            cases hlg : longN c with
            | none =>
              rw [hlg] at et0
              have hno := kd_no T.tab_LONGER_BY (long_no hlg)
              refine ⟨_, rfl, mkS [c], none, rfl, rfl, hno, _, rfl, ?_⟩
              refine iteF (iteF ?_)
              refine ⟨_, rfl, mkS [c], none, rfl, rfl, hno, _, rfl, ?_⟩
              refine iteT (iteT ?_)
              exact ⟨_, rfl, _, rfl, (by show 3 ≤ sizeLine; decide), fun p hp => ret .brk [c] et0 rfl p hp _ _ rfl rfl⟩
            | some d =>
              rw [hlg] at et0
              dsimp only at et0
              obtain ⟨u, hu⟩ := kd_has (x_v_LONGER_BY T) (long_kvs hlg)
              refine ⟨_, rfl, mkS [c], some u, rfl, rfl, hu, _, rfl, ?_⟩
              refine iteT ?_
              refine ⟨_, rfl, He.ga K "LONGER_BY", mkS [c], .str (mkS [d]), rfl, rfl, kd_val T.tab_LONGER_BY (x_v_LONGER_BY T) (long_kvs hlg), _, rfl, rfl, _, rfl, ?_⟩
              have e5 : decide (V.str (mkS [d]) = V.str (sg r)) = hP (· == d) r := by
                rw [dec_str, tl_mkS, tl_mkS]
                cases r with
                | nil => exact decide_eq_false (fun h => by cases h)
                | cons a b =>
                  show decide ([d] = [a]) = (a == d)
                  exact dec1 d a
              show if decide (V.str (mkS [d]) = V.str (sg r)) = true then _ else _
              rw [e5]
              cases hd : hP (· == d) r with
              | true =>
                rw [hd, if_pos rfl] at et0
                refine iteT ?_
                obtain ⟨r2, rfl⟩ : ∃ r2, r = d :: r2 := by
                  cases r with
                  | nil => cases hd
                  | cons a b =>
                    have : (a == d) = true := hd
                    exact ⟨b, by rw [eq_of_beq this]⟩
                exact ⟨_, rfl, _, rfl, _, _, rfl, rfl, (by show 1 + 1 ≤ sizeLine; decide), _, rfl, (by show 3 ≤ sizeLine; decide), fun p hp => ret .sgn [c, d] et0 rfl p hp _ _ rfl rfl⟩
              | false =>
                rw [hd, if_neg Bool.false_ne_true] at et0
                refine iteF ?_
                refine ⟨_, rfl, mkS [c], some u, rfl, rfl, hu, _, rfl, ?_⟩
                refine iteF ?_
                refine ⟨_, rfl, He.ga K "BROKEN_ALONE", _, rfl, .inr (strs_of (x_t_BROKEN_ALONE T) (by decide) _), rfl, flat_strs _, ?_⟩
                rw [if_neg Bool.false_ne_true]
                refine ⟨_, rfl, ?_⟩
                show if inV (.str (mkS [c])) (tup_BROKEN_ALONE.map V.str) = true then _ else _
                rw [inV2b, long_alone hlg]
                cases ha : aloneN c with
                | true =>
                  rw [ha, if_pos rfl] at et0
                  refine iteF ?_
                  exact ⟨_, rfl, _, rfl, (by show 3 ≤ sizeLine; decide), fun p hp => ret .sgn [c] et0 rfl p hp _ _ rfl rfl⟩
                | false =>
                  rw [ha, if_neg Bool.false_ne_true] at et0
                  refine iteT ?_
                  exact ⟨_, rfl, _, rfl, (by show 3 ≤ sizeLine; decide), fun p hp => ret .brk [c] et0 rfl p hp _ _ rfl rfl⟩
end
end PX
/-! PXTp -/
namespace PX
open PySem PySem.Spec PyProof.Rows L2 TL
theorem pss_no {X : Cx} {b : List Stmt} : PSs X b (fun _ _ _ => False) := ⟨by intros; contradiction⟩
theorem ps_no {X : Cx} {b : Stmt} : PS X b (fun _ _ _ => False) := ⟨by intros; contradiction⟩
theorem pt_nev {X : Cx} {e : Expr} : PT X e (fun _ _ _ => False) := ⟨by intros; contradiction⟩
theorem pe_no {X : Cx} {e : Expr} : PE X e (fun _ _ _ => False) := ⟨by intros; contradiction⟩
theorem same_upd0 {H0 H : Hp} {b : Addr} {o : HO} (s : Same H0 H) (h : H0 b = none) : Same H0 (upd H b o) := fun c u e => by
  rw [upd_ne (ne_of_none e h)]
  exact s _ _ e
abbrev Tk : Type := Ki × List Nat × Nat
def TkAt (H : Hp) (v : V) (t : Tk) : Prop := ∃ a, v = .ref a ∧ H a = some (.tup (tkV t.1 t.2.1 t.2.2))
def Toks (H : Hp) : List V → List Tk → Prop
  | [], [] => True
  | v :: vs, t :: ts => TkAt H v t ∧ Toks H vs ts
  | _, _ => False
theorem Toks.keep {H H' : Hp} (k : ∀ a xs, H a = some (.tup xs) → H' a = some (.tup xs)) : ∀ {vs : List V} {ts : List Tk}, Toks H vs ts → Toks H' vs ts
  | [], [], _ => trivial
  | _ :: _, _ :: _, ⟨⟨a, e, h⟩, r⟩ => ⟨⟨a, e, k _ _ h⟩, Toks.keep k r⟩
  | [], _ :: _, h => h.elim
  | _ :: _, [], h => h.elim
theorem Toks.add {H : Hp} : ∀ {vs : List V} {ts : List Tk} {v : V} {t : Tk}, Toks H vs ts → TkAt H v t → Toks H (vs ++ [v]) (ts ++ [t])
  | [], [], _, _, _, h => ⟨h, trivial⟩
  | _ :: _, _ :: _, _, _, ⟨a, r⟩, h => ⟨a, Toks.add r h⟩
  | [], _ :: _, _, _, h, _ => h.elim
  | _ :: _, [], _, _, h, _ => h.elim
theorem Toks.len {H : Hp} : ∀ {vs : List V} {ts : List Tk}, Toks H vs ts → vs.length = ts.length
  | [], [], _ => rfl
  | _ :: _, _ :: _, ⟨_, r⟩ => by
    show _ + 1 = _ + 1
    rw [Toks.len r]
  | [], _ :: _, h => h.elim
  | _ :: _, [], h => h.elim
theorem inV_end (k : Ki) : inV (.str (kiS k)) [.str (Str.ofString "open"), .str (Str.ofString "broken")] = (k == .opn || k == .brk) := by
  cases k <;> decide +kernel
theorem atI0 (x : V) (xs : List V) : atI (x :: xs) 0 = some x := atI_nat (show (x :: xs)[0]? = some x from rfl)
theorem atI1 (x y : V) (xs : List V) : atI (x :: y :: xs) 1 = some y := atI_nat (show (x :: y :: xs)[1]? = some y from rfl)
def tokL (z : Str) : List Tk := tksN (z.length + 1) 0 (tl z)
/-! ### one step of the tokens -/
theorem tks_nil (f j : Nat) : tksN (f + 1) j [] = [(.fin, [], j)] := rfl
theorem tks_bl {f j c : Nat} {r : List Nat} (h : isBl c = true) : tksN (f + 1) j (c :: r) = tksN (f + 1) (j + 1) r := by
  have e : spN isBl (c :: r) = spN isBl r + 1 := by
    show (if isBl c = true then spN isBl r + 1 else 0) = _
    rw [if_pos h]
  unfold tksN
  rw [e]
  dsimp only
  rw [show spN isBl r + 1 + (List.take (tkN (List.drop (spN isBl r + 1) (c :: r))).2 (List.drop (spN isBl r + 1) (c :: r))).length = (spN isBl r + (List.take (tkN (List.drop (spN isBl r + 1) (c :: r))).2 (List.drop (spN isBl r + 1) (c :: r))).length) + 1 by omega]
  rw [List.drop_succ_cons, List.drop_succ_cons, show j + (spN isBl r + 1) = j + 1 + spN isBl r by omega]
theorem tks_tok {f j c : Nat} {r wd : List Nat} {k : Ki} (h : isBl c = false) (hk : (tkN (c :: r)).1 = k) (hw : (c :: r).take (tkN (c :: r)).2 = wd) : tksN (f + 1) j (c :: r) = (k, wd, j) :: if k.ends = true then [] else tksN f (j + wd.length) ((c :: r).drop wd.length) := by
  have e : spN isBl (c :: r) = 0 := by
    show (if isBl c = true then spN isBl r + 1 else 0) = _
    rw [h, if_neg Bool.false_ne_true]
  subst hk hw
  show (_, _, _) :: _ = _
  rw [e, List.drop_zero, Nat.add_zero, Nat.zero_add]
theorem lt_bl {c : Nat} (h : isLt c = true) : isBl c = false := by
  unfold isLt at h
  unfold isBl
  simp only [Bool.or_eq_true, Bool.and_eq_true, decide_eq_true_eq, beq_iff_eq] at h
  simp only [Bool.or_eq_false_iff, beq_eq_false_iff_ne]
  omega
theorem lone_cases {c : Nat} (h : loneN c = true) : c = 64 ∨ c = 36 ∨ c = 42 ∨ c = 124 ∨ c = 43 ∨ c = 45 ∨ c = 61 ∨ c = 40 ∨ c = 41 ∨ c = 91 ∨ c = 93 ∨ c = 44 := by
  unfold loneN at h
  have hm := of_decide_eq_true h
  simp only [List.mem_cons, List.not_mem_nil, or_false] at hm
  exact hm
theorem tk_lone {c : Nat} {r : List Nat} (h : loneN c = true) : tkN (c :: r) = (.sgn, 1) := by
  rw [tk_eq, sgN_eq, h, if_pos rfl]
  rcases lone_cases h with rfl | rfl | rfl | rfl | rfl | rfl | rfl | rfl | rfl | rfl | rfl | rfl <;> rfl
theorem tk_slash (r : List Nat) : tkN (47 :: r) = (.sgn, if hP (· == 47) r = true then 2 else 1) := by
  rw [tk_eq, sgN_eq]
  cases h : hP (· == 47) r <;> simp [loneN, longN, aloneN, isLt, isDg, h]
theorem nmN_le (l : List Nat) : nmN l ≤ l.length := by
  unfold nmN
  have h1 := spN_le isWd l
  have h2 := spN_le isWd (l.drop (spN isWd l + 1))
  rw [List.length_drop] at h2
  split
  · rename_i h
    rw [Bool.and_eq_true] at h
    have : spN isWd l < l.length := by
      cases q : l.drop (spN isWd l) with
      | nil => rw [q] at h; cases h.1
      | cons a b =>
        have := congrArg List.length q
        rw [List.length_drop, List.length_cons] at this
        omega
    omega
  · exact h1
theorem tk_ends (c : Nat) (r : List Nat) : (tkN (c :: r)).1.ends = ((tkN (c :: r)).1 == .opn || (tkN (c :: r)).1 == .brk) := by
  have h : (tkN (c :: r)).1 ≠ .fin := by
    rw [tk_eq]
    split
    · exact fun h => by cases h
    · split
      · exact fun h => by cases h
      · split
        · unfold qtK
          split <;> exact fun h => by cases h
        · split <;> exact fun h => by cases h
  cases hk : (tkN (c :: r)).1 with
  | fin => exact absurd hk h
  | _ => rfl
def blS : Str := " \t\n"
def loneS : Str := "@$*|+-=()[],"
theorem glob_bl {X : Cx} {pos : Pos} (T : Tx X.w X.K X.mg) (hg : Gl X "BLANKS") : PE X (.Name "BLANKS" pos) (tC (.str blS)) := by
  obtain ⟨t, e⟩ := c_BLANKS T
  exact pe_glob hg e ⟨t, rfl⟩
theorem glob_lone {X : Cx} {pos : Pos} (T : Tx X.w X.K X.mg) (hg : Gl X "LONE_SIGNS") : PE X (.Name "LONE_SIGNS" pos) (tC (.str loneS)) := by
  obtain ⟨t, e⟩ := c_LONE_SIGNS T
  exact pe_glob hg e ⟨t, rfl⟩
theorem isBl_hi (c : Nat) (h : 128 ≤ c) : isBl c = false := by
  unfold isBl
  simp only [Bool.or_eq_false_iff, beq_eq_false_iff_ne]
  omega
theorem loneN_hi (c : Nat) (h : 128 ≤ c) : loneN c = false := by
  cases q : loneN c with
  | false => rfl
  | true => rcases lone_cases q with rfl | rfl | rfl | rfl | rfl | rfl | rfl | rfl | rfl | rfl | rfl | rfl <;> omega
theorem blk_eq (c : Nat) : decide (c ∈ blS.cps.toList) = isBl c := mem_eq (l := blS.cps.toList) (p := isBl) (by decide +kernel) (by decide +kernel) isBl_hi c
theorem lon_eq (c : Nat) : decide (c ∈ loneS.cps.toList) = loneN c := mem_eq (l := loneS.cps.toList) (p := loneN) (by decide +kernel) (by decide +kernel) loneN_hi c
/-- one token more in the list -/
theorem add_tok {H H2 H3 : Hp} {L t : Addr} {vs : List V} {pre : List Tk} {k : Ki} {wd : List Nat} {i : Nat} (hL : H L = none) (s2 : Same H H2) (h2 : H2 L = some (.lst vs)) (tk : Toks H2 vs pre) (s3 : Same H2 H3) (ht : H3 t = some (.tup (tkV k wd i))) :
    Same H (upd H3 L (.lst (vs ++ [.ref t]))) ∧ upd H3 L (.lst (vs ++ [.ref t])) L = some (.lst (vs ++ [.ref t])) ∧ Toks (upd H3 L (.lst (vs ++ [.ref t]))) (vs ++ [.ref t]) (pre ++ [(k, wd, i)]) ∧ upd H3 L (.lst (vs ++ [.ref t])) t = some (.tup (tkV k wd i)) := by
  have h3 := s3 _ _ h2
  have htL : t ≠ L := fun e => by
    subst e
    rw [ht] at h3
    cases h3
  have ht5 : upd H3 L (.lst (vs ++ [.ref t])) t = some (.tup (tkV k wd i)) := by rw [upd_ne htL]; exact ht
  refine ⟨same_upd0 (s2.trans s3) hL, upd_same, Toks.add (Toks.keep (fun a xs ha => ?_) tk) ⟨t, rfl, ht5⟩, ht5⟩
  have ha4 := s3 _ _ ha
  rw [upd_ne (fun e => by subst e; rw [h3] at ha4; cases ha4)]
  exact ha4
theorem len_lt {z : Str} {j c : Nat} {r : List Nat} (h : (tl z).drop j = c :: r) : j < z.length := by
  rw [len_tl]
  exact (drop_cons h).1
/-- the sign at a place -/
theorem tok_step {z : Str} {f j c : Nat} {r wd : List Nat} {k : Ki} {pre : List Tk} (e : tokL z = pre ++ tksN (f + 1) j (c :: r)) (hz : (tl z).drop j = c :: r) (hb : isBl c = false) (hk : (tkN (c :: r)).1 = k) (hw : (c :: r).take (tkN (c :: r)).2 = wd) (he : k.ends = false) :
    tokL z = (pre ++ [(k, wd, j)]) ++ tksN f (j + wd.length) ((tl z).drop (j + wd.length)) := by
  rw [e, tks_tok hb hk hw, he, if_neg Bool.false_ne_true, List.append_assoc, ← hz, List.drop_drop]
  rfl
def spTs : Sp := fun vs H Q _ => ∃ (z : Str), vs = [.str z] ∧ Gd z ∧ ∀ H' L ts, Same H H' → H L = none → H' L = some (.lst ts) → Toks H' ts (tokL z) → Q (.ref L) H'
section
variable {P : Program} {w : World} {K : PySem.W.Frag} {mg : Str → Option Value} {base : Heap}
theorem ok_tokens_in (T : Tx w K mg) : Ok P w K mg base CX0 5 (He.fAd K d_tokens_in.at_) p_tokens_in spTs := by
  obtain ⟨fd, F⟩ := f_tokens_in T
  obtain ⟨fS, GS, bS, kS⟩ := ok_end_of_signs (P := P) (base := base) T
  obtain ⟨fW, GW, bW, kW⟩ := ok_words_alone (P := P) (base := base) T
  obtain ⟨fB, GB, bB, kB⟩ := ok_begins_word (P := P) (base := base) T
  obtain ⟨fT, GT, bT, kT⟩ := ok_token_at (P := P) (base := base) T
  refine ⟨fd, ?_, b_tokens_in F, F.kp⟩
  refine F.ok sc_tokens_in (fun vs H Q E h => ?_) (fun cdv A outer s H vs Q E hr h => ?_)
  · obtain ⟨z, rfl, _⟩ := h
    rfl
  · obtain ⟨z, rfl, g, k⟩ := h
    have nd := sc_tokens_in.nd
    have hlen : z.length = (tl z).length := len_tl z
    refine ⟨_, PSs.nox (pss_cons (ps_set (i := 1) nd rfl (.inl rfl) (pe_call (E := E0) GS (hr.mono (by decide)) (by rfl) (g_end_of_signs T) kS bS .nil pass0 (pa_cons (pv 0) pa_nil)))
      (pss_cons (ps_if (pt_cmpR op_lt (pv 1) (pe_callB call_len (by rfl) (n_len T) PySem.boot_len (pa_cons (pv 0) pa_nil)) (nomark _)) pss_no pss_nil)
      (pss_cons (ps_set (i := 2) nd rfl (.inl rfl) (pe_lst pa_nil))
      (pss_cons (ps_set (i := 3) nd rfl (.inl rfl) (pe_call (E := E0) GW (hr.mono (by decide)) (by rfl) (g_words_alone T) kW bW .nil pass0 (pa_cons (pv 0) pa_nil)))
      (pss_cons (ps_set (i := 4) nd rfl (.inl rfl) pe_int)
      (pss_cons (ps_while PassesOwn.never (pt_cmpR op_lt (pv 4) (pv 1) (nomark _))
        (pss_cons (ps_set (i := 5) nd rfl (.inl rfl) (pe_ix ix_str (pv 0) (pv 4) (fun _ _ => rfl)))
        (pss_one (ps_if (pt_cmpR op_in_sign (pv 5) (glob_fst T (by rfl)) (by rfl))
          (pss_cons (ps_set (i := 6) nd rfl (.inl rfl) (pe_bm PySem.F.plainAttrs_str PySem.F.slot_str_find PySem.F.type_str_find mt_find3 (pv 3) (pa_cons pe_str (pa_cons (pv 4) pa_nil))))
          (Evl.pss_cut (ps_if (pw_and (pt_cmpR op_eq (pe_slice sl_str (pv 0) (po_some (pv 6)) (po_some (pe_op op_add (pv 6) pe_int))) pe_str (nomark _)) (pw_and1 (pt_val (pe_call (E := E0) GB (hr.mono (by decide)) (by rfl) (g_begins_word T) kB bB .nil pass0 (pa_cons (pe_slice sl_str (pv 0) (po_some (pe_op op_add (pv 6) pe_int)) (po_some (pe_op op_add (pv 6) pe_int))) pa_nil))))).pt
              (pss_one (ps_set (i := 6) nd rfl (.inl rfl) (pe_bm PySem.F.plainAttrs_str PySem.F.slot_str_find PySem.F.type_str_find mt_find3 (pv 3) (pa_cons pe_str (pa_cons (pe_op op_add (pv 6) pe_int) pa_nil))))) pss_nil)
          (pss_cons (ps_expr (pe_bm PySem.F.plainAttrs_list PySem.F.slot_list_append PySem.F.type_list_append mt_append (pv 2) (pa_cons (pe_tup (pa_cons pe_str (pa_cons (pe_slice sl_str (pv 0) (po_some (pv 4)) (po_some (pv 6))) (pa_cons (pv 4) pa_nil)))) pa_nil)))
          (pss_one (ps_set (i := 4) nd rfl (.inl rfl) (pv 6))))))
          (pss_one (ps_if (pt_cmpR op_in_sign (pv 5) (glob_bl T (by rfl)) (by rfl)) (pss_one (ps_aug (i := 4) nd rfl (.inl rfl) pe_int ip_add))
            (pss_one (ps_if (pt_cmpR op_in_sign (pv 5) (glob_lone T (by rfl)) (by rfl))
              (pss_cons (ps_expr (pe_bm PySem.F.plainAttrs_list PySem.F.slot_list_append PySem.F.type_list_append mt_append (pv 2) (pa_cons (pe_tup (pa_cons pe_str (pa_cons (pv 5) (pa_cons (pv 4) pa_nil)))) pa_nil)))
                (pss_one (ps_aug (i := 4) nd rfl (.inl rfl) pe_int ip_add)))
              (pss_one (ps_if (pt_cmpR op_eq (pv 5) pe_str (nomark _))
                (pss_cons (ps_set (i := 7) nd rfl (.inl rfl) (pe_ifExp (pt_val (pe_bm PySem.F.plainAttrs_str PySem.F.slot_str_startswith PySem.F.type_str_startswith mt_startswith3 (pv 0) (pa_cons pe_str (pa_cons (pv 4) pa_nil)))) pe_str pe_str))
                (pss_cons (ps_expr (pe_bm PySem.F.plainAttrs_list PySem.F.slot_list_append PySem.F.type_list_append mt_append (pv 2) (pa_cons (pe_tup (pa_cons pe_str (pa_cons (pv 7) (pa_cons (pv 4) pa_nil)))) pa_nil)))
                (pss_one (ps_aug (i := 4) nd rfl (.inl rfl) (pe_callB call_len (by rfl) (n_len T) PySem.boot_len (pa_cons (pv 7) pa_nil)) ip_add))))
                (pss_cons (ps_set (i := 8) nd rfl (.inl rfl) (pe_call (E := E0) GT (hr.mono (by decide)) (by rfl) (g_token_at T) kT bT .nil pass0 (pa_cons (pv 0) (pa_cons (pv 4) (pa_cons (pe_bm PySem.F.plainAttrs_str PySem.F.slot_str_find PySem.F.type_str_find mt_find3 (pv 3) (pa_cons pe_str (pa_cons (pv 4) pa_nil))) pa_nil)))))
                (pss_cons (ps_expr (pe_bm PySem.F.plainAttrs_list PySem.F.slot_list_append PySem.F.type_list_append mt_append (pv 2) (pa_cons (pv 8) pa_nil)))
                (pss_cons (ps_if (pt_cmpR op_in_seq (pe_ix ix_tup (pv 8) pe_int (fun _ _ => rfl)) (pe_tup (pa_cons pe_str (pa_cons pe_str pa_nil))) (by rfl)) (pss_one (ps_ret (pv 2))) pss_nil)
                (pss_one (ps_aug (i := 4) nd rfl (.inl rfl) (pe_callB call_len (by rfl) (n_len T) PySem.boot_len (pa_cons (pe_ix ix_tup (pv 8) pe_int (fun _ _ => rfl)) pa_nil)) ip_add)))))))))))))))
      (pss_cons (ps_expr (pe_bm PySem.F.plainAttrs_list PySem.F.slot_list_append PySem.F.type_list_append mt_append (pv 2) (pa_cons (pe_tup (pa_cons pe_str (pa_cons pe_str (pa_cons (pv 1) pa_nil)))) pa_nil)))
      (pss_one (ps_ret (pv 2)))))))))), ?_⟩
    refine ⟨_, rfl, z, rfl, g, fun H0 s0 => ?_⟩
    refine ⟨_, rfl, _, rfl, _, z.length, rfl, ⟨g.line, rfl⟩, _, _, rfl, rfl, _, rfl, ?_⟩
    refine iteF ?_ (decide_eq_false (Int.lt_irrefl _))
    refine ⟨by decide, fun L hL0 => ?_⟩
    have hL : H L = none := by
      cases q : H L with
      | none => rfl
      | some u =>
        have := s0 _ _ q
        rw [hL0] at this
        cases this
    have s1 : Same H (upd H0 L (.lst [])) := s0.trans (same_new hL0)
    have hL1 : upd H0 L (.lst []) L = some (.lst []) := upd_same
    generalize upd H0 L (.lst []) = H1 at s1 hL1 ⊢
    refine ⟨_, rfl, z, rfl, g, ?_⟩
    generalize hW : mkS ((tl z).map wdN ++ [32]) = W
    have hfind : ∀ i, i ≤ z.length → Txt.find3 W (Str.ofString " ") (i : Int) = ((i + spN isWd ((tl z).drop i) : Nat) : Int) := fun i hi => by rw [← hW]; exact find_word z i hi
    dsimp only [tSeq]
    refine while_x (fun mm σ H2 => ∃ (j : Nat) (v5 v6 v7 v8 : Option V) (pre : List Tk) (vs : List V), mm = z.length - j ∧ σ = [some (V.str z), some (.int (z.length : Int)), some (.ref L), some (.str W), some (.int (j : Int)), v5, v6, v7, v8] ∧ Same H H2 ∧ H2 L = some (.lst vs) ∧ Toks H2 vs pre ∧ pre.length ≤ j ∧ j ≤ z.length ∧
        ∃ f, z.length + 1 ≤ j + f ∧ tokL z = pre ++ tksN f j ((tl z).drop j))
      (fun σ H2 => ∃ (v5 v6 v7 v8 : Option V) (pre : List Tk) (vs : List V), σ = [some (V.str z), some (.int (z.length : Int)), some (.ref L), some (.str W), some (.int (z.length : Int)), v5, v6, v7, v8] ∧ Same H H2 ∧ H2 L = some (.lst vs) ∧ Toks H2 vs pre ∧ pre.length ≤ z.length ∧ tokL z = pre ++ [(.fin, [], z.length)])
      ⟨_, 0, none, none, none, none, [], [], rfl, rfl, s1, hL1, trivial, Nat.le_refl _, Nat.zero_le _, z.length + 1, by omega, rfl⟩ ?_ ?_
    · rintro σ H2 ⟨v5, v6, v7, v8, pre, vs, rfl, s2, h2, tk, hpl, e⟩
      refine ⟨_, rfl, .inl ⟨rfl, _, SqL.of h2⟩, _, rfl, (by show 3 ≤ sizeLine; decide), fun p hp => ?_⟩
      have hvl := tk.len
      obtain ⟨a1, a2, a3, a4⟩ := add_tok (k := .fin) (wd := []) (i := z.length) hL s2 h2 tk (same_new hp) (upd_same (o := .tup [.str (Str.ofString "end"), .str (Str.ofString ""), .int (z.length : Int)]))
      refine ⟨L, vs, .ref p, rfl, rfl, same_new hp _ _ h2, (by rw [sizeLine_eq]; have := g.len; omega), ?_⟩
      refine ⟨_, rfl, k _ L _ a1 hL a2 ?_⟩
      rw [e]
      exact a3
    · rintro - mm σ H2 R ⟨j, v5, v6, v7, v8, pre, vs, rfl, rfl, s2, h2, tk, hpj, hj, f, hf, e⟩ hfin hbody
      obtain ⟨f, rfl⟩ : ∃ f', f = f' + 1 := ⟨f - 1, by omega⟩
      refine ⟨_, rfl, _, rfl, _, _, rfl, rfl, _, rfl, ?_⟩
      by_cases hjz : j = z.length
      · subst hjz
        rw [decide_eq_false (Int.lt_irrefl _)]
        refine hfin _ ⟨v5, v6, v7, v8, pre, vs, rfl, s2, h2, tk, hpj, ?_⟩
        rw [e, hlen, List.drop_length]
        rfl
      · rw [decide_eq_true (show (j : Int) < (z.length : Int) by omega)]
        refine hbody _ ?_
        dsimp only [tSeq]
        cases hz : (tl z).drop j with
        | nil =>
          have := congrArg List.length hz
          rw [List.length_drop, List.length_nil, ← hlen] at this
          omega
        | cons c r =>
          rw [hz] at e
          refine ⟨_, rfl, _, rfl, z, (j : Int), c, rfl, rfl, g.line, cp_at hz, ?_⟩
          refine ⟨_, rfl, c, fstS, rfl, rfl, _, rfl, ?_⟩
          rw [fst_eq]
          have hvl := tk.len
          have hvs : vs.length ≤ 500000 := by have := g.len; omega
          cases hlt : isLt c with
          | true =>
            refine iteT ?_
            have hnb := lt_bl hlt
            refine ⟨_, rfl, rfl, _, rfl, W, Str.ofString " ", (j : Int), rfl, rfl, ?_⟩
            rw [hfind j hj, hz]
            have hn := spN_le isWd (c :: r)
            have hcl : (c :: r).length = z.length - j := by rw [← hz, List.length_drop, hlen]
            have hdd : ∀ n, (tl z).drop (j + n) = (c :: r).drop n := fun n => by rw [← hz, List.drop_drop]
            refine ⟨fun σ H3 => σ = [some (V.str z), some (.int (z.length : Int)), some (.ref L), some (.str W), some (.int (j : Int)), some (.str ⟨#[c]⟩), some (.int ((j + nmN (c :: r) : Nat) : Int)), v7, v8] ∧ Same H2 H3, ?_, ?_⟩
            · refine ⟨_, rfl, _, rfl, _, rfl, _, rfl, _, _, rfl, rfl, _, rfl, z, rfl, g.line, ?_⟩
              rw [cut_one, hdd]
              refine ⟨rfl, _, rfl, ?_⟩
              show if decide (V.str (sg ((c :: r).drop (spN isWd (c :: r)))) = V.str (Str.ofString ":")) = true then _ else _
              rw [sg_lit _ (c := 58)]
              unfold nmN
              cases h1 : hP (· == 58) ((c :: r).drop (spN isWd (c :: r))) with
              | false =>
                refine iteF (iteF ?_)
                exact ⟨rfl, Same.refl _⟩
              | true =>
                have hlt2 : spN isWd (c :: r) < (c :: r).length := by
                  cases q : (c :: r).drop (spN isWd (c :: r)) with
                  | nil => rw [q] at h1; cases h1
                  | cons a b =>
                    have h3 : ((c :: r).drop (spN isWd (c :: r))).length = b.length + 1 := by rw [q]; rfl
                    rw [List.length_drop] at h3
                    omega
                refine iteT ?_
                refine ⟨_, rfl, _, rfl, _, _, rfl, rfl, _, rfl, _, rfl, _, _, rfl, rfl, _, rfl, z, rfl, g.line, ?_⟩
                rw [cut_next, show j + spN isWd (c :: r) + 1 = j + (spN isWd (c :: r) + 1) by omega, hdd]
                refine ⟨_, rfl, fun H4 s4 => ⟨_, rfl, ?_⟩⟩
                rw [hB_hP]
                cases h2 : hP isLt ((c :: r).drop (spN isWd (c :: r) + 1)) with
                | false =>
                  refine iteF ?_
                  exact ⟨rfl, s4⟩
                | true =>
                  refine iteT ?_
                  refine ⟨_, rfl, rfl, _, rfl, _, _, rfl, rfl, W, Str.ofString " ", _, rfl, rfl, ?_⟩
                  rw [show ((j + spN isWd (c :: r) : Nat) : Int) + 1 = ((j + (spN isWd (c :: r) + 1) : Nat) : Int) by omega, hfind _ (by omega), hdd]
                  refine ⟨?_, s4⟩
                  show [_, _, _, _, _, _, some (V.int ((j + (spN isWd (c :: r) + 1) + spN isWd ((c :: r).drop (spN isWd (c :: r) + 1)) : Nat) : Int)), _, _] = _
                  rw [show j + (spN isWd (c :: r) + 1) + spN isWd ((c :: r).drop (spN isWd (c :: r) + 1)) = j + (spN isWd (c :: r) + 1 + spN isWd ((c :: r).drop (spN isWd (c :: r) + 1))) by omega]
                  rfl
            · rintro σ H3 ⟨rfl, s3⟩
              have hnl := nmN_le (c :: r)
              have hnp := nmN_pos (r := r) hlt
              have htk : tkN (c :: r) = (.nam, nmN (c :: r)) := by rw [tk_eq, hlt, if_pos rfl]
              refine ⟨_, rfl, .inl ⟨rfl, _, SqL.of (s3 _ _ h2)⟩, _, rfl, _, rfl, _, rfl, _, rfl, _, rfl, z, rfl, g.line, _, rfl, (by show 3 ≤ sizeLine; decide), fun p hp => ?_⟩
              have ec := cut_nat z j (j + nmN (c :: r))
              rw [Nat.add_sub_cancel_left, hz] at ec
              rw [ec]
              have hwl : ((c :: r).take (nmN (c :: r))).length = nmN (c :: r) := by rw [List.length_take]; omega
              obtain ⟨a1, a2, a3, a4⟩ := add_tok (k := .nam) (wd := (c :: r).take (nmN (c :: r))) (i := j) hL s2 h2 tk (s3.trans (same_new hp)) (upd_same (o := .tup [.str (Str.ofString "name"), .str (mkS ((c :: r).take (nmN (c :: r)))), .int (j : Int)]))
              refine ⟨L, vs, .ref p, rfl, rfl, same_new hp _ _ (s3 _ _ h2), (by rw [sizeLine_eq]; omega), ?_⟩
              refine ⟨_, rfl, ?_⟩
              refine ⟨z.length - (j + nmN (c :: r)), by omega, j + nmN (c :: r), some (.str ⟨#[c]⟩), _, v7, v8, pre ++ [(.nam, (c :: r).take (nmN (c :: r)), j)], vs ++ [.ref p], rfl, rfl, a1, a2, a3, (by rw [List.length_append]; show _ + 1 ≤ _; omega), by omega, f, by omega, ?_⟩
              have := tok_step e hz hnb (by rw [htk]) (by rw [htk]) rfl
              rw [hwl] at this
              exact this
          | false =>
            refine iteF ?_
            refine ⟨_, rfl, c, blS, rfl, rfl, _, rfl, ?_⟩
            rw [blk_eq]
            cases hbl : isBl c with
            | true =>
              refine iteT ?_
              refine ⟨_, rfl, _, _, rfl, rfl, ?_⟩
              refine ⟨z.length - (j + 1), by omega, j + 1, some (.str ⟨#[c]⟩), v6, v7, v8, pre, vs, rfl, ?_, s2, h2, tk, by omega, by omega, f + 1, by omega, ?_⟩
              · show [_, _, _, _, some (V.int ((j : Int) + 1)), _, _, _, _] = _
                rw [show ((j : Int) + 1) = ((j + 1 : Nat) : Int) by omega]
              · rw [e, tks_bl hbl, (drop_cons hz).2]
            | false =>
              refine iteF ?_
              refine ⟨_, rfl, c, loneS, rfl, rfl, _, rfl, ?_⟩
              rw [lon_eq]
              cases hlo : loneN c with
              | true =>
                refine iteT ?_
                refine ⟨_, rfl, .inl ⟨rfl, _, SqL.of h2⟩, _, rfl, _, rfl, (by show 3 ≤ sizeLine; decide), fun p hp => ?_⟩
                have htk := tk_lone (r := r) hlo
                obtain ⟨a1, a2, a3, a4⟩ := add_tok (k := .sgn) (wd := [c]) (i := j) hL s2 h2 tk (same_new hp) (upd_same (o := .tup [.str (Str.ofString "sign"), .str ⟨#[c]⟩, .int (j : Int)]))
                refine ⟨L, vs, .ref p, rfl, rfl, same_new hp _ _ h2, (by rw [sizeLine_eq]; omega), ?_⟩
                refine ⟨_, rfl, _, _, rfl, rfl, ?_⟩
                refine ⟨z.length - (j + 1), by omega, j + 1, some (.str ⟨#[c]⟩), v6, v7, v8, pre ++ [(.sgn, [c], j)], vs ++ [.ref p], rfl, ?_, a1, a2, a3, (by rw [List.length_append]; show _ + 1 ≤ _; omega), by omega, f, by omega, ?_⟩
                · show [_, _, _, _, some (V.int ((j : Int) + 1)), _, _, _, _] = _
                  rw [show ((j : Int) + 1) = ((j + 1 : Nat) : Int) by omega]
                · exact tok_step e hz hbl (by rw [htk]) (by rw [htk]; rfl) rfl
              | false =>
                refine iteF ?_
                refine ⟨_, rfl, rfl, _, rfl, ?_⟩
                have e47 : decide (V.str (mkS [c]) = V.str (Str.ofString "/")) = (c == 47) := by
                  rw [dec_str, lit (s := "/") (l := [47]), tl_mkS, tl_mkS]
                  exact dec1r 47 c
                show if decide (V.str (mkS [c]) = V.str (Str.ofString "/")) = true then _ else _
                rw [e47]
                cases h47 : c == 47 with
                | true =>
                  obtain rfl : c = 47 := eq_of_beq h47
                  refine iteT ?_
                  refine ⟨_, rfl, rfl, _, rfl, z, Str.ofString "//", (j : Int), rfl, rfl, _, rfl, ?_⟩
                  have hst : Txt.startswith3 z (Str.ofString "//") (j : Int) = hP (· == 47) r := by
                    rw [starts3 z _ j hj, lit (s := "//") (l := [47, 47]), tl_mkS, hz]
                    show decide ((47 :: r).take 2 = [47, 47]) = _
                    cases r with
                    | nil => rfl
                    | cons d r =>
                      show decide ([47, d] = [47, 47]) = (d == 47)
                      by_cases q : d = 47
                      · subst q; rfl
                      · rw [decide_eq_false (fun h => q (List.cons.inj (List.cons.inj h).2).1)]
                        exact (beq_eq_false_iff_ne.mpr q).symm
                  rw [hst]
                  have htk := tk_slash r
                  cases hs : hP (· == 47) r with
                  | true =>
                    rw [hs, if_pos rfl] at htk
                    obtain ⟨r2, rfl⟩ : ∃ r2, r = 47 :: r2 := by
                      cases r with
                      | nil => cases hs
                      | cons a b =>
                        have : (a == 47) = true := hs
                        exact ⟨b, by rw [eq_of_beq this]⟩
                    refine iteT ?_
                    refine ⟨_, rfl, .inl ⟨rfl, _, SqL.of h2⟩, _, rfl, _, rfl, (by show 3 ≤ sizeLine; decide), fun p hp => ?_⟩
                    obtain ⟨a1, a2, a3, a4⟩ := add_tok (k := .sgn) (wd := [47, 47]) (i := j) hL s2 h2 tk (same_new hp) (upd_same (o := .tup [.str (Str.ofString "sign"), .str (Str.ofString "//"), .int (j : Int)]))
                    refine ⟨L, vs, .ref p, rfl, rfl, same_new hp _ _ h2, (by rw [sizeLine_eq]; omega), ?_⟩
                    refine ⟨_, rfl, _, rfl, _, 2, rfl, ⟨(by decide), rfl⟩, _, _, rfl, rfl, ?_⟩
                    have hl2 : (47 :: 47 :: r2).length = z.length - j := by rw [← hz, List.length_drop, hlen]
                    rw [List.length_cons, List.length_cons] at hl2
                    refine ⟨z.length - (j + 2), by omega, j + 2, some (.str ⟨#[47]⟩), v6, _, v8, pre ++ [(.sgn, [47, 47], j)], vs ++ [.ref p], rfl, rfl, a1, a2, a3, (by rw [List.length_append]; show _ + 1 ≤ _; omega), by omega, f, by omega, ?_⟩
                    exact tok_step e hz hbl (by rw [htk]) (by rw [htk]; rfl) rfl
                  | false =>
                    rw [hs, if_neg Bool.false_ne_true] at htk
                    refine iteF ?_
                    refine ⟨_, rfl, .inl ⟨rfl, _, SqL.of h2⟩, _, rfl, _, rfl, (by show 3 ≤ sizeLine; decide), fun p hp => ?_⟩
                    obtain ⟨a1, a2, a3, a4⟩ := add_tok (k := .sgn) (wd := [47]) (i := j) hL s2 h2 tk (same_new hp) (upd_same (o := .tup [.str (Str.ofString "sign"), .str (Str.ofString "/"), .int (j : Int)]))
                    refine ⟨L, vs, .ref p, rfl, rfl, same_new hp _ _ h2, (by rw [sizeLine_eq]; omega), ?_⟩
                    refine ⟨_, rfl, _, rfl, _, 1, rfl, ⟨(by decide), rfl⟩, _, _, rfl, rfl, ?_⟩
                    refine ⟨z.length - (j + 1), by omega, j + 1, some (.str ⟨#[47]⟩), v6, _, v8, pre ++ [(.sgn, [47], j)], vs ++ [.ref p], rfl, rfl, a1, a2, a3, (by rw [List.length_append]; show _ + 1 ≤ _; omega), by omega, f, by omega, ?_⟩
                    exact tok_step e hz hbl (by rw [htk]) (by rw [htk]; rfl) rfl
                | false =>
                  refine iteF ?_
                  refine ⟨_, rfl, _, rfl, _, rfl, rfl, _, rfl, W, Str.ofString " ", (j : Int), rfl, rfl, ?_⟩
                  rw [hfind j hj, hz]
                  refine ⟨z, j, c, r, rfl, g, hz, hlt, hlo, fun H3 t s3 ht0 ht => ?_⟩
                  obtain ⟨a1, a2, a3, a4⟩ := add_tok hL s2 h2 tk s3 ht
                  refine ⟨_, rfl, .inl ⟨rfl, _, SqL.of (s3 _ _ h2)⟩, _, rfl, L, vs, .ref t, rfl, rfl, s3 _ _ h2, (by rw [sizeLine_eq]; omega), ?_⟩
                  generalize upd H3 L (.lst (vs ++ [.ref t])) = H4 at a1 a2 a3 a4 ⊢
                  refine ⟨_, rfl, t, _, 0, _, rfl, rfl, SqT.of a4, atI0 _ _, (by decide), fun p hp => ⟨p, _, rfl, .inr (SqT.of upd_same), rfl, rfl, ?_⟩⟩
                  rw [if_neg Bool.false_ne_true]
                  refine ⟨_, rfl, ?_⟩
                  rw [inV_end]
                  have s5 := same_new hp (o := .tup [.str (Str.ofString "open"), .str (Str.ofString "broken")])
                  generalize upd H4 p (.tup [.str (Str.ofString "open"), .str (Str.ofString "broken")]) = H5 at s5 ⊢
                  have tk5 := Toks.keep (fun a xs ha => s5 _ _ ha) a3
                  have hke := tk_ends c r
                  have hpos := tkN_pos (l := c :: r)
                  have hst := tok_step e hz hbl rfl rfl
                  have htt := tks_tok (f := f) (j := j) hbl (rfl : (tkN (c :: r)).1 = _) rfl
                  generalize tkN (c :: r) = tk2 at *
                  obtain ⟨kd, n⟩ := tk2
                  dsimp only at hke hpos hst htt a1 a2 a3 a4 tk5 ht ⊢
                  rw [← hke]
                  cases hk : kd.ends with
                  | true =>
                    refine iteT ?_
                    refine ⟨_, rfl, k H5 L _ (a1.trans s5) hL (s5 _ _ a2) ?_⟩
                    rw [e, htt, hk, if_pos rfl]
                    exact tk5
                  | false =>
                    refine iteF ?_
                    have hcl : (c :: r).length = z.length - j := by rw [← hz, List.length_drop, hlen]
                    have hn1 := (hpos hk).1
                    have hwl : ((c :: r).take n).length = min n (c :: r).length := List.length_take
                    have hst := hst hk
                    generalize (c :: r).take n = wd at *
                    have hcp : 1 ≤ (c :: r).length := by rw [List.length_cons]; omega
                    have hw1 : 1 ≤ wd.length := by rw [hwl]; exact Nat.le_min.mpr ⟨hn1, hcp⟩
                    have hw2 : wd.length ≤ (c :: r).length := by rw [hwl]; exact Nat.min_le_right _ _
                    refine ⟨_, rfl, _, rfl, t, _, 1, _, rfl, rfl, SqT.of (s5 _ _ a4), atI1 _ _ _, _, _, rfl, ⟨?_, rfl⟩, _, _, rfl, rfl, ?_⟩
                    · rw [mkS_len, sizeLine_eq]
                      have := g.len
                      omega
                    · refine ⟨z.length - (j + wd.length), by omega, j + wd.length, some (.str ⟨#[c]⟩), v6, v7, some (.ref t), pre ++ [(kd, wd, j)], vs ++ [.ref t], rfl, ?_, a1.trans s5, s5 _ _ a2, tk5, (by rw [List.length_append]; show _ + 1 ≤ _; omega), by omega, f, by omega, hst⟩
                      show [_, _, _, _, some (V.int ((j : Int) + (((mkS wd).length : Nat) : Int))), _, _, _, _] = _
                      rw [mkS_len, show (j : Int) + ((wd.length : Nat) : Int) = ((j + wd.length : Nat) : Int) by omega]
end
end PX
/-! PXSt -/
namespace PX
open PySem PySem.Spec PyProof.Rows L2 TL
/-! ### the reader's state -/
theorem lk_hit {k : Str} {v : V} {r : List (Str × V)} : List.lookup k ((k, v) :: r) = some v := by
  rw [List.lookup_cons, beq_self_eq_true]
theorem lk_skip {k f : Str} {v : V} {r : List (Str × V)} (h : (k == f) = false) : List.lookup k ((f, v) :: r) = List.lookup k r := by
  rw [List.lookup_cons, h]
theorem put_hit {k : Str} {u v : V} {r : List (Str × V)} : putF k v ((k, u) :: r) = (k, v) :: r := by
  show (if k = k then _ else _) = _
  rw [if_pos rfl]
theorem put_skip {k f : Str} {u v : V} {r : List (Str × V)} (h : ¬ f = k) : putF k v ((f, u) :: r) = (f, u) :: putF k v r := by
  show (if f = k then _ else _) = _
  rw [if_neg h]
abbrev CP (K : PySem.W.Frag) : Addr := He.ga K "PathReader"
/-- what a token is told by: a sign by itself, all else by its sort -/
def kdS (t : Tk) : Str := if t.1 = .sgn then mkS t.2.1 else kiS t.1
def kdL (t : Tk) : List Nat := match t.1 with
  | .sgn => t.2.1
  | .nam => [110, 97, 109, 101]
  | .num => [110, 117, 109, 98, 101, 114]
  | .txt => [116, 101, 120, 116]
  | .opn => [111, 112, 101, 110]
  | .brk => [98, 114, 111, 107, 101, 110]
  | .fin => [101, 110, 100]
theorem kd_tl (t : Tk) : kdS t = mkS (kdL t) := by
  obtain ⟨k, wd, i⟩ := t
  cases k <;> rfl
def kdV (ts : List Tk) : List V := ts.map fun t => .str (kdS t)
def prF (z : Str) (L M : Addr) (j : Nat) : List (Str × V) := [("text", .str z), ("closed", .bl false), ("tokens", .ref L), ("kinds", .ref M), ("at", .int (j : Int))]
section
variable {z : Str} {L M : Addr} {j : Nat}
theorem pr_text : (prF z L M j).lookup ("text" : Str) = some (.str z) := lk_hit
theorem pr_closed : (prF z L M j).lookup ("closed" : Str) = some (.bl false) := (lk_skip (by decide +kernel)).trans lk_hit
theorem pr_tokens : (prF z L M j).lookup ("tokens" : Str) = some (.ref L) := (lk_skip (by decide +kernel)).trans ((lk_skip (by decide +kernel)).trans lk_hit)
theorem pr_kinds : (prF z L M j).lookup ("kinds" : Str) = some (.ref M) := (lk_skip (by decide +kernel)).trans ((lk_skip (by decide +kernel)).trans ((lk_skip (by decide +kernel)).trans lk_hit))
theorem pr_at : (prF z L M j).lookup ("at" : Str) = some (.int (j : Int)) := (lk_skip (by decide +kernel)).trans ((lk_skip (by decide +kernel)).trans ((lk_skip (by decide +kernel)).trans ((lk_skip (by decide +kernel)).trans lk_hit)))
theorem pr_no {m : Str} (h : (["text", "closed", "tokens", "kinds", "at"] : List Str).all (fun f => !(m == f)) = true) : (prF z L M j).lookup m = none := by
  simp only [List.all_cons, List.all_nil, Bool.and_true, Bool.and_eq_true, Bool.not_eq_true'] at h
  obtain ⟨h1, h2, h3, h4, h5⟩ := h
  exact (lk_skip h1).trans ((lk_skip h2).trans ((lk_skip h3).trans ((lk_skip h4).trans ((lk_skip h5).trans rfl))))
theorem pr_put {n : Int} {i : Nat} (h : n = (i : Int)) : putF "at" (.int n) (prF z L M j) = prF z L M i := by
  subst h
  unfold prF
  rw [put_skip (by decide +kernel), put_skip (by decide +kernel), put_skip (by decide +kernel), put_skip (by decide +kernel), put_hit]
end
/-- all but p stands -/
def SameB (p : Addr) (H H' : Hp) : Prop := ∀ b o, b ≠ p → H b = some o → H' b = some o
theorem SameB.refl (p : Addr) (H : Hp) : SameB p H H := fun _ _ _ h => h
theorem SameB.trans {p : Addr} {H H1 H2 : Hp} (a : SameB p H H1) (b : SameB p H1 H2) : SameB p H H2 := fun c o n h => b c o n (a c o n h)
theorem SameB.of {p : Addr} {H H1 : Hp} (a : Same H H1) : SameB p H H1 := fun c o _ h => a c o h
theorem SameB.up {p : Addr} {H : Hp} {o : HO} : SameB p H (upd H p o) := fun c o' n h => by rw [upd_ne n]; exact h
/-- a reader: its addresses, its text, its tokens -/
structure Rd0 where
  r : Addr
  dx : Addr
  L : Addr
  M : Addr
  z : Str
  vs : List V
/-- the reader d stands ahead of the tokens l -/
def PR (K : PySem.W.Frag) (H : Hp) (d : Rd0) (l : List Tk) : Prop :=
  ∃ j, Gd d.z ∧ (tokL d.z).drop j = l ∧ H d.r = some (.ins (CP K) d.dx (prF d.z d.L d.M j)) ∧ H d.L = some (.lst d.vs) ∧ H d.M = some (.lst (kdV (tokL d.z))) ∧ Toks H d.vs (tokL d.z)
theorem PR.ne {K : PySem.W.Frag} {H : Hp} {d : Rd0} {l : List Tk} (a : PR K H d l) : H d.r ≠ none := by
  obtain ⟨j, _, _, h, _⟩ := a
  rw [h]
  exact fun e => by cases e
theorem PR.same {K : PySem.W.Frag} {H H' : Hp} {d : Rd0} {l : List Tk} (a : PR K H d l) (s : Same H H') : PR K H' d l := by
  obtain ⟨j, h0, h1, h2, h3, h5, h4⟩ := a
  exact ⟨j, h0, h1, s _ _ h2, s _ _ h3, s _ _ h5, h4.keep fun a xs h => s _ _ h⟩
theorem PR.rm {K : PySem.W.Frag} {H : Hp} {d : Rd0} {l : List Tk} (a : PR K H d l) : ∃ j, H d.r = some (.ins (CP K) d.dx (prF d.z d.L d.M j)) := by
  obtain ⟨j, _, _, h, _⟩ := a
  exact ⟨j, h⟩
/-- behind a step: the reader stands ahead of l, all else stands -/
def MvR (K : PySem.W.Frag) (H H' : Hp) (d : Rd0) (l : List Tk) : Prop := SameB d.r H H' ∧ PR K H' d l
theorem MvR.refl {K : PySem.W.Frag} {H : Hp} {d : Rd0} {l : List Tk} (a : PR K H d l) : MvR K H H d l := ⟨.refl _ _, a⟩
theorem MvR.same {K : PySem.W.Frag} {H H1 : Hp} {d : Rd0} {l : List Tk} (a : PR K H d l) (s : Same H H1) : MvR K H H1 d l := ⟨.of s, a.same s⟩
theorem MvR.trans {K : PySem.W.Frag} {H H1 H2 : Hp} {d : Rd0} {l m : List Tk} (a : MvR K H H1 d l) (b : MvR K H1 H2 d m) : MvR K H H2 d m := ⟨a.1.trans b.1, b.2⟩
theorem MvR.more {K : PySem.W.Frag} {H H1 H2 : Hp} {d : Rd0} {l : List Tk} (a : MvR K H H1 d l) (s : Same H1 H2) : MvR K H H2 d l := ⟨a.1.trans (.of s), a.2.same s⟩
theorem SameB.free {p d : Addr} {H H' : Hp} (s : SameB p H H') (hp : H p ≠ none) (hp' : H' p ≠ none) (h : H' d = none) : H d = none := by
  by_cases e : d = p
  · subst e
    exact absurd h hp'
  · cases q : H d with
    | none => rfl
    | some o =>
      have := s d o e q
      rw [h] at this
      cases this
theorem Toks.at {H : Hp} : ∀ {vs : List V} {ts : List Tk} {j : Nat} {t : Tk} {r : List Tk}, Toks H vs ts → ts.drop j = t :: r → ∃ a, vs[j]? = some (.ref a) ∧ H a = some (.tup (tkV t.1 t.2.1 t.2.2))
  | [], [], j, t, r, _, h => by simp at h
  | v :: vs, u :: ts, 0, t, r, ⟨⟨a, e, h⟩, _⟩, hd => by
    cases hd
    exact ⟨a, by rw [e]; rfl, h⟩
  | v :: vs, u :: ts, j + 1, t, r, ⟨_, k⟩, hd => Toks.at (j := j) k hd
  | [], _ :: _, _, _, _, h, _ => h.elim
  | _ :: _, [], _, _, _, h, _ => h.elim
theorem kd_at : ∀ {ts : List Tk} {j : Nat} {t : Tk} {r : List Tk}, ts.drop j = t :: r → (kdV ts)[j]? = some (.str (kdS t))
  | [], j, t, r, h => by simp at h
  | u :: ts, 0, t, r, h => by
    cases h
    rfl
  | u :: ts, j + 1, t, r, h => kd_at (ts := ts) (j := j) h
theorem drop_one {l : List Tk} {j : Nat} {t : Tk} {r : List Tk} (h : l.drop j = t :: r) : l.drop (j + 1) = r := by
  rw [← List.drop_drop, h]
  rfl
theorem ne_ins {H : Hp} {K : PySem.W.Frag} {d : Rd0} {j : Nat} (h2 : H d.r = some (.ins (CP K) d.dx (prF d.z d.L d.M j))) : ∀ b o, H b = some o → (∀ C dx fs, o ≠ .ins C dx fs) → b ≠ d.r := fun b o hb hn e => by
  subst e
  rw [h2] at hb
  cases hb
  exact hn _ _ _ rfl
/-- the reader goes on -/
theorem PR.go {K : PySem.W.Frag} {H : Hp} {d : Rd0} {l m : List Tk} (a : PR K H d l) {i : Nat} (hi : (tokL d.z).drop i = m) : MvR K H (upd H d.r (.ins (CP K) d.dx (prF d.z d.L d.M i))) d m := by
  obtain ⟨j, g, hj, h2, h3, h5, h4⟩ := a
  have hne := ne_ins h2
  refine ⟨.up, i, g, hi, upd_same, ?_, ?_, ?_⟩
  · rw [upd_ne (hne _ _ h3 (fun _ _ _ => by simp))]
    exact h3
  · rw [upd_ne (hne _ _ h5 (fun _ _ _ => by simp))]
    exact h5
  · exact h4.keep fun b xs hb => by
      rw [upd_ne (hne _ _ hb (fun _ _ _ => by simp))]
      exact hb
/-- self.at += 1 -/
theorem PR.inc {K : PySem.W.Frag} {H : Hp} {d : Rd0} {t : Tk} {r : List Tk} (a : PR K H d (t :: r)) {Q : Hp → Prop} (k : ∀ H', MvR K H H' d r → Q H') :
    ∃ j, H d.r = some (.ins (CP K) d.dx (prF d.z d.L d.M j)) ∧ Q (upd H d.r (.ins (CP K) d.dx (prF d.z d.L d.M (j + 1)))) := by
  have a' := a
  obtain ⟨j, g, hj, h2, _⟩ := a'
  exact ⟨j, h2, k _ (a.go (drop_one hj))⟩
theorem tks_place : ∀ (f i : Nat) (l : List Nat), ∀ t ∈ tksN f i l, t.2.2 + t.2.1.length ≤ i + l.length
  | 0, _, _, t, h => by cases h
  | f + 1, i, l, t, h => by
    have hb := spN_le isBl l
    have hld : (l.drop (spN isBl l)).length = l.length - spN isBl l := List.length_drop
    have hwl : ((l.drop (spN isBl l)).take (tkN (l.drop (spN isBl l))).2).length ≤ (l.drop (spN isBl l)).length := by
      rw [List.length_take]
      exact Nat.min_le_right _ _
    have h' : t ∈ ((tkN (l.drop (spN isBl l))).1, (l.drop (spN isBl l)).take (tkN (l.drop (spN isBl l))).2, i + spN isBl l) ::
        if (tkN (l.drop (spN isBl l))).1.ends = true then [] else tksN f (i + spN isBl l + ((l.drop (spN isBl l)).take (tkN (l.drop (spN isBl l))).2).length) (l.drop (spN isBl l + ((l.drop (spN isBl l)).take (tkN (l.drop (spN isBl l))).2).length)) := h
    rcases List.mem_cons.mp h' with h1 | h1
    · subst h1
      dsimp only
      omega
    · split at h1
      · cases h1
      · have := tks_place f _ _ t h1
        rw [List.length_drop] at this
        omega
theorem PR.place {K : PySem.W.Frag} {H : Hp} {d : Rd0} {t : Tk} {r : List Tk} (a : PR K H d (t :: r)) : t.2.2 + t.2.1.length ≤ d.z.length ∧ Gd d.z := by
  obtain ⟨j, g, hj, _⟩ := a
  have hm : t ∈ tokL d.z := List.mem_of_mem_drop (i := j) (by rw [hj]; exact List.mem_cons_self)
  have := tks_place _ _ _ t hm
  rw [Nat.zero_add, ← len_tl] at this
  exact ⟨this, g⟩
theorem tks_len : ∀ (f i : Nat) (l : List Nat), (tksN f i l).length ≤ f
  | 0, _, _ => Nat.le_refl _
  | f + 1, i, l => by
    show (if _ then _ else _ : List Tk).length + 1 ≤ f + 1
    split
    · exact Nat.succ_le_succ (Nat.zero_le _)
    · exact Nat.succ_le_succ (tks_len _ _ _)
theorem PR.len {K : PySem.W.Frag} {H : Hp} {d : Rd0} {l : List Tk} (a : PR K H d l) : l.length ≤ 400001 := by
  obtain ⟨j, g, hj, _⟩ := a
  have h1 := tks_len (d.z.length + 1) 0 (tl d.z)
  have h2 := g.len
  have h3 : l.length = (tokL d.z).length - j := by rw [← hj, List.length_drop]
  have h4 : (tokL d.z).length ≤ d.z.length + 1 := h1
  omega
/-! ### what a sort is compared with -/
theorem dec_mk (a b : List Nat) : decide (V.str (mkS a) = V.str (mkS b)) = (a == b) := by
  rw [dec_str, tl_mkS, tl_mkS]
  by_cases h : a = b
  · subst h
    simp
  · rw [decide_eq_false h]
    exact (beq_eq_false_iff_ne.mpr h).symm
theorem kd_lit (t : Tk) {s : String} (l : List Nat) (h : Str.ofString s = mkS l := by rfl) : decide (V.str (kdS t) = V.str (Str.ofString s)) = (kdL t == l) := by
  rw [kd_tl, h, dec_mk]
theorem inV_mk (x : List Nat) (ws : List (List Nat)) : inV (.str (mkS x)) (ws.map fun wd => V.str (mkS wd)) = ws.any fun wd => wd == x := by
  induction ws with
  | nil => rfl
  | cons a ws ih =>
    show (eqV (.str (mkS a)) (.str (mkS x)) || inV (.str (mkS x)) (ws.map fun wd => V.str (mkS wd))) = _
    rw [ih, eqV_str, tl_mkS, tl_mkS]
    show _ = ((a == x) || _)
    congr 1
    by_cases h : a = x
    · subst h
      simp
    · rw [decide_eq_false h]
      exact (beq_eq_false_iff_ne.mpr h).symm
end PX
/-! PXPl -/
namespace PX
open PySem PySem.Spec PyProof.Rows L2 TL
/-! What a row of tokens means, and how a tree is written: plain Lean. Trees are data. Only what is right is told; all else is `none`. -/
abbrev Rz := Option (PyData × List Tk)
def dW (wd : List Nat) : PyData := .str (mkS wd)
def dT (s : String) : PyData := .str (Str.ofString s)
def dNode : PyData := .tuple [dT "kind", dT "node", .none]
def dAny : PyData := .tuple [dT "descendant-or-self", dNode, .tuple []]
def dHere : PyData := .tuple [dT "self", dNode, .tuple []]
def dAbove : PyData := .tuple [dT "parent", dNode, .tuple []]
def dPath (start : PyData) (steps : List PyData) : PyData := .tuple [dT "path", start, .tuple steps]
def cNam : List Nat := [110, 97, 109, 101]
def cNum : List Nat := [110, 117, 109, 98, 101, 114]
def cTxt : List Nat := [116, 101, 120, 116]
def cOpn : List Nat := [111, 112, 101, 110]
def cBrk : List Nat := [98, 114, 111, 107, 101, 110]
def cEnd : List Nat := [101, 110, 100]
def cChi : List Nat := [99, 104, 105, 108, 100]
def cAtt : List Nat := [97, 116, 116, 114, 105, 98, 117, 116, 101]
def cKind : List Nat := [107, 105, 110, 100]
def cAny : List Nat := [97, 110, 121]
def cNeg : List Nat := [110, 101, 103]
def cUni : List Nat := [117, 110, 105, 111, 110]
def is1 (l : List Nat) (ws : List (List Nat)) : Bool := ws.any fun wd => wd == l
def rkN (wd : List Nat) : Nat := ((kvs_RANKS.find? fun q => tl q.1 == wd).map fun q => match q.2 with | .int i => i.toNat | _ => 0).getD 0
def opWords : List (List Nat) := tup_OPERATOR_WORDS.map tl
def opSign (wd : List Nat) : Option (List Nat) := (kvs_OPERATOR_OF_SIGN.find? fun q => tl q.1 == wd).map fun q => match q.2 with | .str s => tl s | _ => []
def axesL : List (List Nat) := tup_AXES.map tl
def kindOf (wd : List Nat) : Option (List Nat) := (kvs_KINDS.find? fun q => tl q.1 == wd).map fun q => match q.2 with | .str s => tl s | _ => []
def fnLook (wd : List Nat) : Option (Int × Option Int) := (funKvs.find? fun q => tl q.1 == wd).map (·.2)
def behLong : List (List Nat) := [[58, 58], [40], cBrk, [91], [47], [47, 47]]
def behOther : List (List Nat) := [[58, 58], [40], cBrk]
/-- the colon right behind a name that has none -/
def ccN (z : Str) (t : Tk) : Bool := hP (· == 58) ((tl z).drop (t.2.2 + t.2.1.length)) && !(t.2.1.any (· == 58))
/-- a sign that must stand here -/
def exN (s : List Nat) : List Tk → Option (List Tk)
  | t :: r => if kdL t == s then some r else none
  | [] => none
def lstrip0 : List Nat → List Nat
  | 48 :: r => lstrip0 r
  | l => l
def rstrip0 (l : List Nat) : List Nat := (lstrip0 l.reverse).reverse
def shortN (wd : List Nat) : List Nat :=
  if !(wd.head? == some 48) && !(wd.any (· == 46)) then wd
  else
    let n := spN (· != 46) wd
    let front := lstrip0 (wd.take n)
    let frac := rstrip0 (wd.drop (n + 1))
    (if front != [] then front else [48]) ++ (if frac != [] then 46 :: frac else [])
/-- the text of a literal -/
def inText (wd : List Nat) : List Nat := (wd.drop 1).take (wd.length - 2)
def litN : List Tk → Rz
  | t :: r => match t.1 with
    | .num => some (.tuple [dT "number", dW (shortN t.2.1)], r)
    | .txt => some (.tuple [dT "text", dW (inText t.2.1)], r)
    | _ => none
  | [] => none
def varN (z : Str) : List Tk → Rz
  | t :: u :: r => if u.1 = .nam ∧ u.2.2 = t.2.2 + 1 ∧ ccN z u = false then some (.tuple [dT "var", dW u.2.1], r) else none
  | _ => none
/-- predicates -/
def prdN (ex : List Tk → Rz) : Nat → List PyData → List Tk → Option (List PyData × List Tk)
  | 0, _, _ => none
  | f + 1, acc, t :: r => if kdL t == [91] then
      match ex r with
      | some (v, l) => match exN [93] l with
        | some l2 => prdN ex f (acc ++ [v]) l2
        | none => none
      | none => none
    else some (acc, t :: r)
  | _, _, [] => none
/-- the brackets of a test by a kind -/
def kdTest (kind : List Nat) : List Tk → Rz
  | _ :: u :: r =>
    if kind == [105, 110, 115, 116, 114, 117, 99, 116, 105, 111, 110] && kdL u != [41] then
      match u.1 with
      | .txt => (exN [41] r).map fun l => (.tuple [dT "kind", dW kind, dW (inText u.2.1)], l)
      | _ => none
    else (exN [41] (u :: r)).map fun l => (.tuple [dT "kind", dW kind, .none], l)
  | _ => none
def testN (z : Str) : List Tk → Rz
  | t :: r =>
    if kdL t == [42] then some (.tuple [dT "any"], r)
    else if t.1 = .nam ∧ ccN z t = false then
      match r with
      | u :: _ => if kdL u == [40] then
          match kindOf t.2.1 with
          | some k => kdTest k r
          | none => none
        else some (.tuple [dT "name", dW t.2.1], r)
      | [] => none
    else none
  | [] => none
/-- the axis; what stands behind it -/
def axN (axs : List (List Nat)) : List Tk → Option (List Nat × List Tk)
  | t :: r =>
    if kdL t == [64] then some ([97, 116, 116, 114, 105, 98, 117, 116, 101], r)
    else if t.1 = .nam ∧ is1 t.2.1 axs = true then
      match r with
      | u :: m => if u.2.1 == [58, 58] then some (t.2.1, m) else if u.1 = .brk then none else some ([99, 104, 105, 108, 100], t :: r)
      | [] => none
    else some ([99, 104, 105, 108, 100], t :: r)
  | [] => none
/-- the axis, the test -/
def headN (axs : List (List Nat)) (z : Str) : List Tk → Option (List Nat × PyData × List Tk)
  | t :: u :: r =>
    if kdL t == cNam && !is1 (kdL u) behOther then some ([99, 104, 105, 108, 100], .tuple [dT "name", dW t.2.1], u :: r)
    else match axN axs (t :: u :: r) with
      | some (ax, l) => (testN z l).map fun q => (ax, q.1, q.2)
      | none => none
  | _ => none
def predsN (ex : List Tk → Rz) : List Tk → Option (List PyData × List Tk)
  | t :: r => if kdL t == [91] then prdN ex (r.length + 2) [] (t :: r) else some ([], t :: r)
  | [] => none
def stwN (axs : List (List Nat)) (ex : List Tk → Rz) (z : Str) (l : List Tk) : Rz := match headN axs z l with
  | some (ax, ts, m) => (predsN ex m).map fun q => (.tuple [dW ax, ts, .tuple q.1], q.2)
  | none => none
def stepN (ex : List Tk → Rz) (z : Str) : List Tk → Rz
  | t :: r => if kdL t == [46] then some (dHere, r) else if kdL t == [46, 46] then some (dAbove, r)
    else if kdL t == cNum then none else stwN axesL ex z (t :: r)
  | [] => none
def stepsN (ex : List Tk → Rz) (z : Str) : Nat → List PyData → List Tk → Option (List PyData × List Tk)
  | 0, _, _ => none
  | f + 1, acc, l => match stepN ex z l with
    | some (s, t :: r) => if kdL t == [47, 47] then stepsN ex z f (acc ++ [s] ++ [dAny]) r else if kdL t == [47] then stepsN ex z f (acc ++ [s]) r else some (acc ++ [s], t :: r)
    | _ => none
def stsN (ex : List Tk → Rz) (z : Str) (start : PyData) (acc : List PyData) (l : List Tk) : Rz := (stepsN ex z (l.length + 1) acc l).map fun q => (dPath start q.1, q.2)
/-- the steps that a slash stands for -/
def slashN (t : Tk) : List PyData := if t.2.1 == [47, 47] then [dAny] else []
/-- predicates and steps behind a primary -/
def behN2 (ex : List Tk → Rz) (z : Str) (tree : PyData) : List Tk → Rz
  | t :: r => if kdL t == [47] || kdL t == [47, 47] then stsN ex z tree (slashN t) r else some (tree, t :: r)
  | [] => none
def behN (ex : List Tk → Rz) (z : Str) (tree : PyData) : List Tk → Rz
  | t :: r => if kdL t == [91] then
      match prdN ex (r.length + 2) [] (t :: r) with
      | some (ps, l) => behN2 ex z (.tuple [dT "filter", tree, .tuple ps]) l
      | none => none
    else behN2 ex z tree (t :: r)
  | [] => none
def begN (t : Tk) : Bool := if kdL t == cNum then t.2.1.head? == some 46 else is1 (kdL t) [cNam, [46], [46, 46], [64], [42]]
def rootN (ex : List Tk → Rz) (z : Str) : List Tk → Rz
  | t :: u :: r => if t.2.1 == [47, 47] || begN u then stsN ex z (dT "root") (slashN t) (u :: r) else some (dPath (dT "root") [], u :: r)
  | _ => none
def moreN (x : Int × Option Int) (n : Nat) (t : Tk) : Bool := decide ((n : Int) < x.1) || (kdL t == [44] && (match x.2 with | none => true | some m => decide ((n : Int) < m)))
def argN (ex : List Tk → Rz) (x : Int × Option Int) : Nat → List PyData → List Tk → Option (List PyData × List Tk)
  | 0, _, _ => none
  | f + 1, acc, t :: r => if moreN x acc.length t then
      if kdL t == [44] then
        match ex r with
        | some (v, l) => argN ex x f (acc ++ [v]) l
        | none => none
      else none
    else (exN [41] (t :: r)).map fun l => (acc, l)
  | _, _, [] => none
def callN (ex : List Tk → Rz) : List Tk → Rz
  | t :: _ :: u :: m => match fnLook t.2.1 with
    | none => none
    | some x => if decide (x.2 = some 0) || (decide (x.1 = 0) && kdL u == [41]) then (exN [41] (u :: m)).map fun l => (.tuple [dT "call", dW t.2.1, .tuple []], l)
      else match ex (u :: m) with
        | some (v, l) => (argN ex x (l.length + 1) [v] l).map fun q => (.tuple [dT "call", dW t.2.1, .tuple q.1], q.2)
        | none => none
  | _ => none
def opnN (ex : List Tk → Rz) (z : Str) : List Tk → Rz
  | t :: r =>
    if kdL t == cNam then
      match r with
      | u :: r2 => if !is1 (kdL u) behLong then some (dPath .none [.tuple [dT "child", .tuple [dT "name", dW t.2.1], .tuple []]], u :: r2)
        else if kdL u == [40] && (fnLook t.2.1).isSome then
          match callN ex (t :: r) with
          | some (v, l) => behN ex z v l
          | none => none
        else stsN ex z .none [] (t :: r)
      | [] => none
    else if is1 (kdL t) [cNum, cTxt, cOpn] then
      match litN (t :: r) with
      | some (v, l) => behN ex z v l
      | none => none
    else if is1 (kdL t) [[47], [47, 47]] then rootN ex z (t :: r)
    else if kdL t == [40] then
      match ex r with
      | some (v, l) => match exN [41] l with
        | some l2 => behN ex z v l2
        | none => none
      | none => none
    else if kdL t == [36] then
      match varN z (t :: r) with
      | some (v, l) => behN ex z v l
      | none => none
    else stsN ex z .none [] (t :: r)
  | [] => none
/-! ### operators -/
/-- minuses ahead of an operand -/
def minN : List (List Nat) → List Tk → List (List Nat) × List Tk
  | ws, [] => (ws, [])
  | ws, t :: r => if kdL t == [45] && !(ws.head? == some cUni) then minN (cNeg :: ws) r else (ws, t :: r)
/-- an operator with its operands; the last one ahead -/
def bndN (wd : List Nat) : List PyData → Option (List PyData)
  | [] => none
  | a :: r => if wd == cNeg then some (.tuple [dT "neg", a] :: r) else
      match r with
      | b :: r2 => some (.tuple [dW wd, b, a] :: r2)
      | [] => none
def fldN (rank : Nat) : List (List Nat) → List PyData → Option (List (List Nat) × List PyData)
  | [], st => some ([], st)
  | wd :: ws, st => if rank ≤ rkN wd then
      match bndN wd st with
      | some st2 => fldN rank ws st2
      | none => none
    else some (wd :: ws, st)
def wordN (t : Tk) : Option (List Nat) := if kdL t == cNam then (if is1 t.2.1 opWords then some t.2.1 else none) else opSign (kdL t)
def xpL (ex : List Tk → Rz) (z : Str) : Nat → List (List Nat) → List PyData → List Tk → Rz
  | 0, _, _, _ => none
  | f + 1, ws, st, l => match opnN ex z (minN ws l).2 with
    | some (v, t :: r) => if r.length < (minN ws l).2.length then
        match wordN t with
        | none => match fldN 0 (minN ws l).1 (v :: st) with
          | some ([], [x]) => some (x, t :: r)
          | _ => none
        | some wd => match fldN (rkN wd) (minN ws l).1 (v :: st) with
          | some (ws2, st2) => xpL ex z f (wd :: ws2) st2 r
          | none => none
      else none
    | _ => none
def xpN (ex : List Tk → Rz) (z : Str) (l : List Tk) : Rz := xpL ex z (l.length + 1) [] [] l
/-- expressions n deep -/
def xpD : Nat → Str → List Tk → Rz
  | 0, _, _ => none
  | n + 1, z, l => xpN (xpD n z) z l
def rpN (n : Nat) (z : Str) : Option PyData := match xpD n z (tokL z) with
  | some (v, t :: _) => if kdL t == cEnd then some v else none
  | _ => none
end PX
/-! PXRa -/
namespace PX
open PySem PySem.Spec PyProof.Rows L2 TL
theorem ne_dec {a b : Str} : (!decide (V.str a = V.str b)) = !(tl a == tl b) := by
  rw [dec_str]
  by_cases h : tl a = tl b
  · rw [h]; simp
  · rw [decide_eq_false h, beq_eq_false_iff_ne.mpr h]
theorem eq_dec {a b : Str} : decide (V.str a = V.str b) = (tl a == tl b) := by
  rw [dec_str]
  by_cases h : tl a = tl b
  · rw [h]; simp
  · rw [decide_eq_false h, beq_eq_false_iff_ne.mpr h]
theorem kd_eq (t : Tk) (x : Str) : decide (V.str (kdS t) = V.str x) = (kdL t == tl x) := by
  rw [eq_dec, kd_tl, tl_mkS]
theorem kd_ne (t : Tk) (x : Str) : (!decide (V.str (kdS t) = V.str x)) = !(kdL t == tl x) := by rw [kd_eq]
theorem in_dec (x : Str) (ws : List Str) : inV (.str x) (ws.map V.str) = is1 (tl x) (ws.map tl) := by
  unfold is1
  induction ws with
  | nil => rfl
  | cons a ws ih =>
    show (eqV (.str a) (.str x) || inV (.str x) (ws.map V.str)) = ((tl a == tl x) || _)
    rw [ih, eqV_str]
    congr 1
    by_cases h : tl a = tl x
    · rw [h]; simp
    · rw [decide_eq_false h, beq_eq_false_iff_ne.mpr h]
theorem kd_in (t : Tk) (ws : List Str) : inV (.str (kdS t)) (ws.map V.str) = is1 (kdL t) (ws.map tl) := by rw [in_dec, kd_tl, tl_mkS]
theorem tk_pos {l : List Nat} (h : (tkN l).1 ≠ .fin) : 1 ≤ (tkN l).2 ∧ l ≠ [] := by
  cases hk : (tkN l).1.ends with
  | false => exact tkN_pos hk
  | true =>
    cases l with
    | nil => exact absurd rfl h
    | cons c r =>
      refine ⟨?_, List.cons_ne_nil c r⟩
      rw [tk_eq] at hk ⊢
      split at hk
      · cases hk
      · rename_i h1
        rw [if_neg h1]
        split at hk
        · cases hk
        · rename_i h2
          rw [if_neg h2]
          split at hk
          · rename_i h3
            rw [if_pos h3]
            unfold qtL
            split <;> omega
          · rename_i h3
            rw [if_neg h3]
            split at hk
            · cases hk
            · rename_i h4
              exact Nat.le_refl _
theorem tks_ne : ∀ (f i : Nat) (l : List Nat), ∀ t ∈ tksN f i l, t.1 ≠ .fin → ∃ c wd, t.2.1 = c :: wd
  | 0, _, _, t, h, _ => by cases h
  | f + 1, i, l, t, h, hn => by
    have h' : t ∈ ((tkN (l.drop (spN isBl l))).1, (l.drop (spN isBl l)).take (tkN (l.drop (spN isBl l))).2, i + spN isBl l) ::
        if (tkN (l.drop (spN isBl l))).1.ends = true then [] else tksN f (i + spN isBl l + ((l.drop (spN isBl l)).take (tkN (l.drop (spN isBl l))).2).length) (l.drop (spN isBl l + ((l.drop (spN isBl l)).take (tkN (l.drop (spN isBl l))).2).length)) := h
    rcases List.mem_cons.mp h' with h1 | h1
    · subst h1
      obtain ⟨a, b⟩ := tk_pos hn
      dsimp only
      cases q : l.drop (spN isBl l) with
      | nil => exact absurd q b
      | cons c r =>
        rw [q] at a
        obtain ⟨m, hm⟩ : ∃ m, (tkN (c :: r)).2 = m + 1 := ⟨(tkN (c :: r)).2 - 1, by omega⟩
        rw [hm]
        exact ⟨c, r.take m, rfl⟩
    · split at h1
      · cases h1
      · exact tks_ne f _ _ t h1 hn
theorem PR.wd {K : PySem.W.Frag} {H : Hp} {d : Rd0} {t : Tk} {r : List Tk} (a : PR K H d (t :: r)) (hn : t.1 ≠ .fin) : ∃ c wd, t.2.1 = c :: wd := by
  obtain ⟨j, g, hj, _⟩ := a
  have hm : t ∈ tokL d.z := List.mem_of_mem_drop (i := j) (by rw [hj]; exact List.mem_cons_self)
  exact tks_ne _ _ _ t hm hn
section
variable {P : Program} {w : World} {K : PySem.W.Frag} {mg : Str → Option Value} {base : Heap}
def spPk (K : PySem.W.Frag) : Sp := fun vs H Q _ => ∃ (d : Rd0) (t : Tk) (r : List Tk), vs = [.ref d.r] ∧ PR K H d (t :: r) ∧ ∀ a, H a = some (.tup (tkV t.1 t.2.1 t.2.2)) → Q (.ref a) H
theorem ok_peek (T : Tx w K mg) : Ok P w K mg base CX0 1 (He.fAd K d_PathReader_peek.at_) p_PathReader_peek (spPk K) := by
  obtain ⟨fd, F⟩ := f_PathReader_peek T
  refine ⟨fd, ?_, b_PathReader_peek F, F.kp⟩
  refine F.ok sc_PathReader_peek (fun vs H Q E h => ?_) (fun cdv A outer s H vs Q E hr h => ?_)
  · obtain ⟨d, t, r, rfl, _⟩ := h
    rfl
  · obtain ⟨d, t, r, rfl, ⟨j, g, hj, h2, h3, h5, h4⟩, k⟩ := h
    obtain ⟨a, hv, ha⟩ := h4.at hj
    refine ⟨_, PSs.nox (pss_one (ps_ret (pe_ix ix_list (pe_fld (pv 0) rfl) (pe_fld (pv 0) rfl) (fun _ _ => rfl)))), ?_⟩
    refine ⟨_, rfl, d.r, CP K, d.dx, _, _, rfl, h2, cls_PathReader T, na_PathReader_tokens T, pr_tokens, _, rfl, d.r, CP K, d.dx, _, _, rfl, h2, cls_PathReader T, na_PathReader_at T, pr_at, d.L, d.vs, (j : Int), _, rfl, rfl, SqL.of h3, atI_nat hv, ?_⟩
    exact k a ha
def spPb (K : PySem.W.Frag) : Sp := fun vs H Q _ => ∃ (d : Rd0) (t u : Tk) (r : List Tk), vs = [.ref d.r] ∧ PR K H d (t :: u :: r) ∧ ∀ a, H a = some (.tup (tkV u.1 u.2.1 u.2.2)) → Q (.ref a) H
theorem ok_peek_behind (T : Tx w K mg) : Ok P w K mg base CX0 1 (He.fAd K d_PathReader_peek_behind.at_) p_PathReader_peek_behind (spPb K) := by
  obtain ⟨fd, F⟩ := f_PathReader_peek_behind T
  refine ⟨fd, ?_, b_PathReader_peek_behind F, F.kp⟩
  refine F.ok sc_PathReader_peek_behind (fun vs H Q E h => ?_) (fun cdv A outer s H vs Q E hr h => ?_)
  · obtain ⟨d, t, u, r, rfl, _⟩ := h
    rfl
  · obtain ⟨d, t, u, r, rfl, ⟨j, g, hj, h2, h3, h5, h4⟩, k⟩ := h
    obtain ⟨a, hv, ha⟩ := h4.at (drop_one hj)
    refine ⟨_, PSs.nox (pss_one (ps_ret (pe_ix ix_list (pe_fld (pv 0) rfl) (pe_op op_add (pe_fld (pv 0) rfl) pe_int) (fun _ _ => rfl)))), ?_⟩
    refine ⟨_, rfl, d.r, CP K, d.dx, _, _, rfl, h2, cls_PathReader T, na_PathReader_tokens T, pr_tokens, _, rfl, d.r, CP K, d.dx, _, _, rfl, h2, cls_PathReader T, na_PathReader_at T, pr_at, _, _, rfl, rfl, d.L, d.vs, (j : Int) + 1, _, rfl, rfl, SqL.of h3, (by rw [show ((j : Int) + 1) = ((j + 1 : Nat) : Int) by omega]; exact atI_nat hv), ?_⟩
    exact k a ha
def spTa (K : PySem.W.Frag) : Sp := fun vs H Q _ => ∃ (d : Rd0) (t : Tk) (r : List Tk), vs = [.ref d.r] ∧ PR K H d (t :: r) ∧ ∀ H' a, H' a = some (.tup (tkV t.1 t.2.1 t.2.2)) → MvR K H H' d r → Q (.ref a) H'
theorem ok_take (T : Tx w K mg) : Ok P w K mg base CX0 1 (He.fAd K d_PathReader_take.at_) p_PathReader_take (spTa K) := by
  obtain ⟨fd, F⟩ := f_PathReader_take T
  refine ⟨fd, ?_, b_PathReader_take F, F.kp⟩
  refine F.ok sc_PathReader_take (fun vs H Q E h => ?_) (fun cdv A outer s H vs Q E hr h => ?_)
  · obtain ⟨d, t, r, rfl, _⟩ := h
    rfl
  · obtain ⟨d, t, r, rfl, hp, k⟩ := h
    have hp' := hp
    obtain ⟨j, g, hj, h2, h3, h5, h4⟩ := hp'
    obtain ⟨a, hv, ha⟩ := h4.at hj
    have nd := sc_PathReader_take.nd
    refine ⟨_, PSs.nox (pss_cons (ps_set (i := 1) nd rfl (.inl rfl) (pe_ix ix_list (pe_fld (pv 0) rfl) (pe_fld (pv 0) rfl) (fun _ _ => rfl)))
      (pss_cons (ps_fldaug (pv 0) pe_int ip_add) (pss_one (ps_ret (pv 1))))), ?_⟩
    refine ⟨_, rfl, d.r, CP K, d.dx, _, _, rfl, h2, cls_PathReader T, na_PathReader_tokens T, pr_tokens, _, rfl, d.r, CP K, d.dx, _, _, rfl, h2, cls_PathReader T, na_PathReader_at T, pr_at, d.L, d.vs, (j : Int), _, rfl, rfl, SqL.of h3, atI_nat hv, ?_⟩
    refine ⟨_, rfl, d.r, CP K, d.dx, _, _, rfl, h2, cls_PathReader T, na_PathReader_at T, pr_at, _, _, rfl, rfl, d.dx, _, h2, (by show 5 < 1000; decide), ?_⟩
    have hne := ne_ins h2 a _ ha (fun _ _ _ => by simp)
    rw [pr_put (i := j + 1) (by show ((j : Nat) : Int) + 1 = ((j + 1 : Nat) : Int); omega)]
    have m1 := PR.go hp (drop_one hj)
    generalize upd H _ _ = H1 at m1 ⊢
    exact ⟨_, rfl, k H1 a (m1.1 _ _ hne ha) m1⟩
/-- a sign that must stand here -/
def spEx (K : PySem.W.Frag) : Sp := fun vs H Q _ => ∃ (d : Rd0) (t : Tk) (r : List Tk) (x : Str), vs = [.ref d.r, .str x] ∧ PR K H d (t :: r) ∧ kdL t = tl x ∧ ∀ H', MvR K H H' d r → Q .non H'
theorem ok_expect (T : Tx w K mg) : Ok P w K mg base CX0 1 (He.fAd K d_PathReader_expect.at_) p_PathReader_expect (spEx K) := by
  obtain ⟨fd, F⟩ := f_PathReader_expect T
  refine ⟨fd, ?_, b_PathReader_expect F, F.kp⟩
  refine F.ok sc_PathReader_expect (fun vs H Q E h => ?_) (fun cdv A outer s H vs Q E hr h => ?_)
  · obtain ⟨d, t, r, x, rfl, _⟩ := h
    rfl
  · obtain ⟨d, t, r, x, rfl, hp, hx, k⟩ := h
    have hp' := hp
    obtain ⟨j, g, hj, h2, h3, h5, h4⟩ := hp'
    refine ⟨_, PSs.nox (pss_cons (ps_if (pt_cmpR op_ne (pe_ix ix_list (pe_fld (pv 0) rfl) (pe_fld (pv 0) rfl) (fun _ _ => rfl)) (pv 1) (nomark _)) pss_no pss_nil)
      (pss_one (ps_fldaug (pv 0) pe_int ip_add))), ?_⟩
    refine ⟨_, rfl, d.r, CP K, d.dx, _, _, rfl, h2, cls_PathReader T, na_PathReader_kinds T, pr_kinds, _, rfl, d.r, CP K, d.dx, _, _, rfl, h2, cls_PathReader T, na_PathReader_at T, pr_at, d.M, _, (j : Int), _, rfl, rfl, SqL.of h5, atI_nat (kd_at hj), _, rfl, rfl, _, rfl, ?_⟩
    show if (!decide (V.str (kdS t) = V.str x)) = true then _ else _
    rw [kd_ne, hx]
    refine iteF ?_ (by simp)
    refine ⟨_, rfl, d.r, CP K, d.dx, _, _, rfl, h2, cls_PathReader T, na_PathReader_at T, pr_at, _, _, rfl, rfl, d.dx, _, h2, (by show 5 < 1000; decide), ?_⟩
    rw [pr_put (i := j + 1) (by show ((j : Nat) : Int) + 1 = ((j + 1 : Nat) : Int); omega)]
    have m1 := PR.go hp (drop_one hj)
    generalize upd H _ _ = H1 at m1 ⊢
    exact k H1 m1
theorem ok_expect_behind_operand (T : Tx w K mg) : Ok P w K mg base CX0 1 (He.fAd K d_PathReader_expect_behind_operand.at_) p_PathReader_expect_behind_operand (spEx K) := by
  obtain ⟨fd, F⟩ := f_PathReader_expect_behind_operand T
  refine ⟨fd, ?_, b_PathReader_expect_behind_operand F, F.kp⟩
  refine F.ok sc_PathReader_expect_behind_operand (fun vs H Q E h => ?_) (fun cdv A outer s H vs Q E hr h => ?_)
  · obtain ⟨d, t, r, x, rfl, _⟩ := h
    rfl
  · obtain ⟨d, t, r, x, rfl, hp, hx, k⟩ := h
    have hp' := hp
    obtain ⟨j, g, hj, h2, h3, h5, h4⟩ := hp'
    refine ⟨_, PSs.nox (pss_cons (ps_if (pt_cmpR op_ne (pe_ix ix_list (pe_fld (pv 0) rfl) (pe_fld (pv 0) rfl) (fun _ _ => rfl)) (pv 1) (nomark _)) pss_no pss_nil)
      (pss_one (ps_fldaug (pv 0) pe_int ip_add))), ?_⟩
    refine ⟨_, rfl, d.r, CP K, d.dx, _, _, rfl, h2, cls_PathReader T, na_PathReader_kinds T, pr_kinds, _, rfl, d.r, CP K, d.dx, _, _, rfl, h2, cls_PathReader T, na_PathReader_at T, pr_at, d.M, _, (j : Int), _, rfl, rfl, SqL.of h5, atI_nat (kd_at hj), _, rfl, rfl, _, rfl, ?_⟩
    show if (!decide (V.str (kdS t) = V.str x)) = true then _ else _
    rw [kd_ne, hx]
    refine iteF ?_ (by simp)
    refine ⟨_, rfl, d.r, CP K, d.dx, _, _, rfl, h2, cls_PathReader T, na_PathReader_at T, pr_at, _, _, rfl, rfl, d.dx, _, h2, (by show 5 < 1000; decide), ?_⟩
    rw [pr_put (i := j + 1) (by show ((j : Nat) : Int) + 1 = ((j + 1 : Nat) : Int); omega)]
    have m1 := PR.go hp (drop_one hj)
    generalize upd H _ _ = H1 at m1 ⊢
    exact k H1 m1
/-- the first sign of a step -/
def spBg (K : PySem.W.Frag) : Sp := fun vs H Q _ => ∃ (d : Rd0) (t : Tk) (r : List Tk), vs = [.ref d.r] ∧ PR K H d (t :: r) ∧ ∀ H', Same H H' → Q (.bl (begN t)) H'
theorem ok_begins_step (T : Tx w K mg) : Ok P w K mg base CX0 1 (He.fAd K d_PathReader_begins_step.at_) p_PathReader_begins_step (spBg K) := by
  obtain ⟨fd, F⟩ := f_PathReader_begins_step T
  refine ⟨fd, ?_, b_PathReader_begins_step F, F.kp⟩
  refine F.ok sc_PathReader_begins_step (fun vs H Q E h => ?_) (fun cdv A outer s H vs Q E hr h => ?_)
  · obtain ⟨d, t, r, rfl, _⟩ := h
    rfl
  · obtain ⟨d, t, r, rfl, hp, k⟩ := h
    have hp' := hp
    obtain ⟨j, g, hj, h2, h3, h5, h4⟩ := hp'
    obtain ⟨a, hv, ha⟩ := h4.at hj
    have nd := sc_PathReader_begins_step.nd
    refine ⟨_, PSs.nox (pss_cons (ps_set (i := 1) nd rfl (.inl rfl) (pe_ix ix_list (pe_fld (pv 0) rfl) (pe_fld (pv 0) rfl) (fun _ _ => rfl)))
      (pss_cons (ps_if (pt_cmpR op_eq (pv 1) pe_str (nomark _)) (pss_one (ps_ret (pe_cmpR op_eq (pe_ix ix_str (pe_ix ix_tup (pe_ix ix_list (pe_fld (pv 0) rfl) (pe_fld (pv 0) rfl) (fun _ _ => rfl)) pe_int (fun _ _ => rfl)) pe_int (fun _ _ => rfl)) pe_str (nomark _)))) pss_nil)
      (pss_one (ps_ret (pe_cmpR op_in_seq (pv 1) (pe_tup (pa_cons pe_str (pa_cons pe_str (pa_cons pe_str (pa_cons pe_str (pa_cons pe_str pa_nil)))))) (by rfl)))))), ?_⟩
    refine ⟨_, rfl, d.r, CP K, d.dx, _, _, rfl, h2, cls_PathReader T, na_PathReader_kinds T, pr_kinds, _, rfl, d.r, CP K, d.dx, _, _, rfl, h2, cls_PathReader T, na_PathReader_at T, pr_at, d.M, _, (j : Int), _, rfl, rfl, SqL.of h5, atI_nat (kd_at hj), ?_⟩
    refine ⟨_, rfl, rfl, _, rfl, ?_⟩
    show if decide (V.str (kdS t) = V.str (Str.ofString "number")) = true then _ else _
    rw [kd_eq]
    unfold begN at k
    change ∀ H', Same H H' → Q (V.bl (if (kdL t == tl (Str.ofString "number")) = true then t.2.1.head? == some 46 else _)) H' at k
    cases hk : kdL t == tl (Str.ofString "number") with
    | true =>
      rw [hk, if_pos rfl] at k
      refine iteT ?_
      obtain ⟨c, wd, hw⟩ := hp.wd (fun h => by
        have e : kdL t = [101, 110, 100] := by unfold kdL; rw [h]
        rw [e] at hk
        exact absurd hk (by decide +kernel))
      have hw2 : atI (tkV t.1 t.2.1 t.2.2) 1 = some (.str (mkS (c :: wd))) := by rw [hw]; exact atI1 _ _ _
      refine ⟨_, rfl, d.r, CP K, d.dx, _, _, rfl, h2, cls_PathReader T, na_PathReader_tokens T, pr_tokens, _, rfl, d.r, CP K, d.dx, _, _, rfl, h2, cls_PathReader T, na_PathReader_at T, pr_at, d.L, d.vs, (j : Int), _, rfl, rfl, SqL.of h3, atI_nat hv, ?_⟩
      refine ⟨a, _, 1, _, rfl, rfl, SqT.of ha, hw2, ?_⟩
      refine ⟨mkS (c :: wd), 0, c, rfl, rfl, ?_, atI_nat (xs := c :: wd) (j := 0) (v := c) rfl, rfl, ?_⟩
      · have := hp.place.1
        have g2 := g.len
        rw [hw] at this
        rw [mkS_len, sizeLine_eq]
        omega
      · have e : decide (V.str (mkS [c]) = V.str (Str.ofString ".")) = (some c == some 46) := by
          rw [dec_str, lit (s := ".") (l := [46]), tl_mkS, tl_mkS]
          exact dec1r 46 c
        show Q (V.bl (decide (V.str (mkS [c]) = V.str (Str.ofString ".")))) H
        rw [e]
        rw [hw] at k
        exact k H (Same.refl H)
    | false =>
      rw [hk, if_neg Bool.false_ne_true] at k
      refine iteF ?_
      refine ⟨_, rfl, (by show 5 ≤ sizeLine; decide), fun p hp => ⟨p, _, rfl, .inr (SqT.of upd_same), rfl, rfl, ?_⟩⟩
      rw [if_neg Bool.false_ne_true]
      show Q (V.bl (inV (.str (kdS t)) ([(Str.ofString "name"), (Str.ofString "."), (Str.ofString ".."), (Str.ofString "@"), (Str.ofString "*")].map V.str))) _
      rw [kd_in]
      exact k _ (same_new hp)
end
end PX
/-! PXRb -/
namespace PX
open PySem PySem.Spec PyProof.Rows L2 TL PySem.Builtin PySem.Builtin.Str
/-! ### texts of numbers -/
theorem part_dot (l : List Nat) : (Txt.partition (mkS l) (Str.ofString ".")).1 = mkS (l.take (spN (· != 46) l)) ∧ (Txt.partition (mkS l) (Str.ofString ".")).2.2 = mkS (l.drop (spN (· != 46) l + 1)) := by
  have hy : tl (Str.ofString ".") = [46] := rfl
  have hyl : (Str.ofString ".").length = 1 := rfl
  have hm := mkS_len l
  have hfd := occ_fd (mkS l) (Str.ofString ".") 0 (mkS l).length (Nat.zero_le _) (Nat.le_refl _) (by rw [hy]; simp)
  rw [tl_mkS, hy, List.drop_zero, Nat.sub_zero, hm, List.take_length, fd1] at hfd
  have hb := spN_le (· != 46) l
  unfold Txt.partition
  rw [hm]
  rcases hfd with ⟨h1, h2⟩ | ⟨j, r, h1, h2⟩
  · rw [h2]
    by_cases q : spN (· != 46) l < l.length
    · rw [if_pos q] at h1
      cases h1
    · have e : spN (· != 46) l = l.length := by omega
      rw [e, List.take_length, List.drop_of_length_le (by omega)]
      exact ⟨rfl, rfl⟩
  · by_cases q : spN (· != 46) l < l.length
    · rw [if_pos q] at h1
      cases h1
      rw [h2, Nat.zero_add]
      dsimp only
      rw [sub_mk, sub_mk, hyl, Nat.sub_zero, List.drop_zero]
      refine ⟨rfl, ?_⟩
      rw [List.take_of_length_le (by rw [List.length_drop]; omega)]
    · rw [if_neg q] at h1
      cases h1
theorem lstrip0_eq : ∀ l : List Nat, lstrip0 l = l.drop (spN (· == 48) l)
  | [] => rfl
  | c :: r => by
    by_cases h : c = 48
    · subst h
      show lstrip0 r = List.drop (spN (· == 48) r + 1) (48 :: r)
      rw [lstrip0_eq r]
      rfl
    · have e : spN (· == 48) (c :: r) = 0 := by
        show (if (c == 48) = true then _ else 0) = 0
        rw [beq_eq_false_iff_ne.mpr h, if_neg Bool.false_ne_true]
      rw [e, List.drop_zero]
      unfold lstrip0
      split
      · rename_i h2
        exact absurd (List.cons.inj h2).1 h
      · rfl
theorem rstrip0_eq (l : List Nat) : rstrip0 l = l.take (l.length - spN (· == 48) l.reverse) := by
  unfold rstrip0
  rw [lstrip0_eq, List.drop_reverse, List.reverse_reverse]
theorem zero_in (c : Nat) : decide (c ∈ (Str.ofString "0").cps.toList) = (c == 48) := by
  have e : (Str.ofString "0").cps.toList = [48] := rfl
  rw [e]
  by_cases h : c = 48
  · subst h; rfl
  · rw [beq_eq_false_iff_ne.mpr h]
    exact decide_eq_false (by simp [h])
theorem any_mem (l : List Nat) (c : Nat) : decide (c ∈ l) = l.any (· == c) := by
  induction l with
  | nil => rfl
  | cons a r ih =>
    rw [List.any_cons, ← ih]
    by_cases h : a = c
    · subst h; simp
    · rw [beq_eq_false_iff_ne.mpr h, Bool.false_or]
      by_cases q : c ∈ r
      · rw [decide_eq_true q, decide_eq_true (List.mem_cons_of_mem _ q)]
      · rw [decide_eq_false q, decide_eq_false (fun z => by rcases List.mem_cons.mp z with z | z; exact h z.symm; exact q z)]
theorem nil_ne (l : List Nat) : (!decide (V.str (mkS l) = V.str (Str.ofString ""))) = (l != []) := by
  rw [eq_dec, tl_mkS]
  rfl
section
variable {P : Program} {w : World} {K : PySem.W.Frag} {mg : Str → Option Value} {base : Heap}
def spSn : Sp := fun vs H Q _ => ∃ (c : Nat) (l : List Nat), vs = [.str (mkS (c :: l))] ∧ (c :: l).length ≤ 400000 ∧ ∀ H', Same H H' → Q (.str (mkS (shortN (c :: l)))) H'
theorem ok_shortest_number (T : Tx w K mg) : Ok P w K mg base CX0 1 (He.fAd K d_shortest_number.at_) p_shortest_number spSn := by
  obtain ⟨fd, F⟩ := f_shortest_number T
  refine ⟨fd, ?_, b_shortest_number F, F.kp⟩
  refine F.ok sc_shortest_number (fun vs H Q E h => ?_) (fun cdv A outer s H vs Q E hr h => ?_)
  · obtain ⟨c, l, rfl, _⟩ := h
    rfl
  · obtain ⟨c, l, rfl, hl, k⟩ := h
    have nd := sc_shortest_number.nd
    refine ⟨_, PSs.nox (Evl.pss_cut (ps_if (pw_and (pt_cmpR op_ne (pe_ix ix_str (pv 0) pe_int (fun _ _ => rfl)) pe_str (nomark _)) (pw_and1 (pt_cmpR op_notIn_sign pe_str (pv 0) (by rfl)))).pt (pss_one (ps_ret (pv 0))) pss_nil)
      (pss_cons (ps_asg (pe_m1 PySem.F.slot_str_partition PySem.F.type_str_partition mt_partition (pv 0) pe_str) (pg_tup (by rfl) (pgs_cons (pg_name (i := 1) nd rfl (.inl rfl)) (pgs_cons (pg_name (i := 2) nd rfl (.inl rfl)) (pgs_cons (pg_name (i := 3) nd rfl (.inl rfl)) pgs_nil)))))
      (pss_cons (ps_set (i := 1) nd rfl (.inl rfl) (pe_m1 PySem.F.slot_str_lstrip PySem.F.type_str_lstrip mt_lstripChars (pv 1) pe_str))
      (pss_cons (ps_set (i := 3) nd rfl (.inl rfl) (pe_m1 PySem.F.slot_str_rstrip PySem.F.type_str_rstrip mt_rstripChars (pv 3) pe_str))
      (pss_one (ps_ret (pe_op op_add_str (pe_ifExp (pt_cmpR op_ne (pv 1) pe_str (nomark _)) (pv 1) pe_str) (pe_ifExp (pt_cmpR op_ne (pv 3) pe_str (nomark _)) (pe_op op_add_str pe_str (pv 3)) pe_str)))))))), ?_⟩
    have hsz : (mkS (c :: l)).length ≤ sizeLine := by rw [mkS_len, sizeLine_eq]; omega
    have e0 : (!decide (V.str (mkS [c]) = V.str (Str.ofString "0"))) = !((c :: l).head? == some 48) := by
      rw [eq_dec, tl_mkS]
      show (!([c] == [48])) = !(some c == some 48)
      by_cases h : c = 48
      · subst h; rfl
      · rw [show ([c] == [48]) = false by simp [h], show (some c == some 48) = false by simp [h]]
    have e1 : (!decide (46 ∈ (mkS (c :: l)).cps.toList)) = !((c :: l).any (· == 46)) := congrArg Bool.not (any_mem (c :: l) 46)
    refine ⟨fun σ H2 => σ = [some (.str (mkS (c :: l))), none, none, none] ∧ H2 = H ∧ (!((c :: l).head? == some 48) && !((c :: l).any (· == 46))) = false, ?_, ?_⟩
    · refine ⟨_, rfl, mkS (c :: l), 0, c, rfl, rfl, hsz, atI_nat (xs := c :: l) (j := 0) (v := c) rfl, rfl, _, rfl, ?_⟩
      show if (!decide (V.str (mkS [c]) = V.str (Str.ofString "0"))) = true then _ else _
      rw [e0]
      cases h1 : (c :: l).head? == some 48 with
      | true =>
        refine iteF (iteF ?_)
        exact ⟨rfl, rfl, rfl⟩
      | false =>
        refine iteT ?_
        refine ⟨_, rfl, 46, mkS (c :: l), rfl, rfl, _, rfl, ?_⟩
        rw [e1]
        cases h2 : (c :: l).any (· == 46) with
        | true =>
          refine iteF ?_
          exact ⟨rfl, rfl, rfl⟩
        | false =>
          refine iteT ?_
          refine ⟨_, rfl, ?_⟩
          have e : shortN (c :: l) = c :: l := by
            unfold shortN
            rw [h1, h2]
            rfl
          rw [e] at k
          exact k H (Same.refl H)
    · rintro σ H2 ⟨rfl, rfl, hc⟩
      unfold shortN at k
      rw [hc, if_neg Bool.false_ne_true] at k
      dsimp only at k
      obtain ⟨p1, p2⟩ := part_dot (c :: l)
      have hn := spN_le (· != 46) (c :: l)
      refine ⟨_, rfl, ⟨_, rfl⟩, mkS (c :: l), Str.ofString ".", rfl, rfl, by decide +kernel, hsz, fun p hp => ?_⟩
      rw [p1, p2]
      have s1 := same_new hp (o := .tup [V.str (mkS ((c :: l).take (spN (· != 46) (c :: l)))), V.str (Txt.partition (mkS (c :: l)) (Str.ofString ".")).2.1, V.str (mkS ((c :: l).drop (spN (· != 46) (c :: l) + 1)))])
      refine ⟨p, _, rfl, SqT.of upd_same, rfl, _, _, rfl, _, _, rfl, _, _, rfl, rfl, ?_⟩
      generalize upd H2 p _ = H3 at s1 ⊢
      have la : ((c :: l).take (spN (· != 46) (c :: l))).length ≤ 400000 := by rw [List.length_take]; omega
      have lb : ((c :: l).drop (spN (· != 46) (c :: l) + 1)).length ≤ 400000 := by rw [List.length_drop]; omega
      rw [rstrip0_eq, lstrip0_eq] at k
      generalize (c :: l).take (spN (· != 46) (c :: l)) = fr at la k ⊢
      generalize (c :: l).drop (spN (· != 46) (c :: l) + 1) = fc at lb k ⊢
      refine ⟨_, rfl, ⟨_, rfl⟩, mkS fr, _, rfl, rfl, (by rw [mkS_len, sizeLine_eq]; omega), ?_⟩
      rw [lstrip_mk fr _ (· == 48) zero_in]
      refine ⟨_, rfl, ⟨_, rfl⟩, mkS fc, _, rfl, rfl, (by rw [mkS_len, sizeLine_eq]; omega), ?_⟩
      rw [rstrip_mk fc _ (· == 48) zero_in]
      have la2 : (fr.drop (spN (· == 48) fr)).length ≤ 400000 := by rw [List.length_drop]; omega
      have lb2 : (fc.take (fc.length - spN (· == 48) fc.reverse)).length ≤ 400000 := by rw [List.length_take]; omega
      generalize fr.drop (spN (· == 48) fr) = fr2 at la2 k ⊢
      generalize fc.take (fc.length - spN (· == 48) fc.reverse) = fc2 at lb2 k ⊢
      have last : ∀ a : List Nat, a.length ≤ 400000 → a = (if (fr2 != []) = true then fr2 else [48]) → ∀ b : List Nat, b.length ≤ 400001 → b = (if (fc2 != []) = true then 46 :: fc2 else []) → ∀ y : Str, y = mkS b →
          ∃ x z : Str, V.str (mkS a) = V.str x ∧ V.str y = V.str z ∧ x.length + z.length ≤ sizeLine ∧ Q (.str (x ++ z)) H3 := by
        intro a ha ea b hb eb y ey
        subst ey
        refine ⟨_, _, rfl, rfl, (by rw [mkS_len, mkS_len, sizeLine_eq]; omega), ?_⟩
        have e : mkS a ++ mkS b = mkS (a ++ b) := SX.S_cat a b
        rw [e, ea, eb]
        exact k H3 s1
      refine ⟨_, rfl, rfl, _, rfl, ?_⟩
      show if (!decide (V.str (mkS fr2) = V.str (Str.ofString ""))) = true then _ else _
      rw [nil_ne]
      have dotS : Str.ofString "." ++ mkS fc2 = mkS (46 :: fc2) := SX.S_cat [46] fc2
      cases h1 : fr2 != [] with
      | true =>
        refine iteT ?_
        refine ⟨_, rfl, _, rfl, rfl, _, rfl, ?_⟩
        show if (!decide (V.str (mkS fc2) = V.str (Str.ofString ""))) = true then _ else _
        rw [nil_ne]
        cases h2 : fc2 != [] with
        | true =>
          refine iteT ?_
          refine ⟨_, rfl, _, _, rfl, rfl, (by rw [mkS_len, sizeLine_eq]; show 1 + _ ≤ _; omega), ?_⟩
          exact last fr2 la2 (by rw [h1]; rfl) (46 :: fc2) (by rw [List.length_cons]; omega) (by rw [h2]; rfl) _ dotS
        | false =>
          refine iteF ?_
          exact last fr2 la2 (by rw [h1]; rfl) [] (by simp) (by rw [h2]; rfl) _ rfl
      | false =>
        refine iteF ?_
        refine ⟨_, rfl, rfl, _, rfl, ?_⟩
        show if (!decide (V.str (mkS fc2) = V.str (Str.ofString ""))) = true then _ else _
        rw [nil_ne]
        cases h2 : fc2 != [] with
        | true =>
          refine iteT ?_
          refine ⟨_, rfl, _, _, rfl, rfl, (by rw [mkS_len, sizeLine_eq]; show 1 + _ ≤ _; omega), ?_⟩
          exact last [48] (by decide) (by rw [h1]; rfl) (46 :: fc2) (by rw [List.length_cons]; omega) (by rw [h2]; rfl) _ dotS
        | false =>
          refine iteF ?_
          exact last [48] (by decide) (by rw [h1]; rfl) [] (by simp) (by rw [h2]; rfl) _ rfl
end
end PX
/-! PXRc -/
namespace PX
open PySem PySem.Spec PyProof.Rows L2 TL
/-! ### trees in the heap -/
/-- tuples stand -/
def KT (H H' : Hp) : Prop := ∀ a xs, Rd H a (.tup xs) → Rd H' a (.tup xs)
theorem KT.refl (H : Hp) : KT H H := fun _ _ h => h
theorem KT.trans {H H1 H2 : Hp} (a : KT H H1) (b : KT H1 H2) : KT H H2 := fun p xs h => b p xs (a p xs h)
theorem KT.same {H H' : Hp} (s : Same H H') : KT H H' := fun a xs h => by
  rcases h with h | ⟨o, h⟩
  · exact .inl (s _ _ h)
  · exact .inr ⟨o, s _ _ h⟩
/-- what held no tuple is put anew -/
theorem KT.up {H : Hp} {p : Addr} {o : HO} (h : ∀ xs, ¬ Rd H p (.tup xs)) : KT H (upd H p o) := fun a xs ha => by
  have ne : a ≠ p := fun e => by
    subst e
    exact h _ ha
  rcases ha with ha | ⟨q, ha⟩
  · exact .inl (by rw [upd_ne ne]; exact ha)
  · exact .inr ⟨q, by rw [upd_ne ne]; exact ha⟩
theorem nt_lst {H : Hp} {p : Addr} {ys : List V} (h : H p = some (.lst ys)) : ∀ xs, ¬ Rd H p (.tup xs) := fun xs r => by
  rcases r with r | ⟨o, r⟩ <;> · rw [h] at r; cases r
theorem nt_ins {H : Hp} {p C dx : Addr} {fs : List (Str × V)} (h : H p = some (.ins C dx fs)) : ∀ xs, ¬ Rd H p (.tup xs) := fun xs r => by
  rcases r with r | ⟨o, r⟩ <;> · rw [h] at r; cases r
theorem KT.ofB {H H' : Hp} {p : Addr} (s : SameB p H H') (h : ∀ xs, ¬ Rd H p (.tup xs)) : KT H H' := fun a xs ha => by
  have ne : a ≠ p := fun e => by
    subst e
    exact h _ ha
  rcases ha with ha | ⟨q, ha⟩
  · exact .inl (s _ _ ne ha)
  · exact .inr ⟨q, s _ _ ne ha⟩
theorem PR.nt {K : PySem.W.Frag} {H : Hp} {d : Rd0} {l : List Tk} (a : PR K H d l) : ∀ xs, ¬ Rd H d.r (.tup xs) := by
  obtain ⟨j, h⟩ := a.rm
  exact nt_ins h
theorem MvR.kt {K : PySem.W.Frag} {H H1 : Hp} {d : Rd0} {l m : List Tk} (h : PR K H d l) (a : MvR K H H1 d m) : KT H H1 := KT.ofB a.1 h.nt
mutual
inductive Dt (K : PySem.W.Frag) (H : Hp) : V → PyData → Prop
  | non : Dt K H .non .none
  | str (x : Str) : Dt K H (.str x) (.str x)
  | tup {a : Addr} {xs : List V} {ds : List PyData} : SqT K H a xs → DtAll K H xs ds → Dt K H (.ref a) (.tuple ds)
inductive DtAll (K : PySem.W.Frag) (H : Hp) : List V → List PyData → Prop
  | nil : DtAll K H [] []
  | cons {v : V} {vs : List V} {d : PyData} {ds : List PyData} : Dt K H v d → DtAll K H vs ds → DtAll K H (v :: vs) (d :: ds)
end
theorem KT.sq {K : PySem.W.Frag} {H H' : Hp} (k : KT H H') {a : Addr} {xs : List V} (h : SqT K H a xs) : SqT K H' a xs := by
  rcases h with h | h
  · exact .inl (k _ _ h)
  · exact .inr h
mutual
theorem Dt.keep {K : PySem.W.Frag} {H H' : Hp} (k : KT H H') : ∀ (d : PyData) (v : V), Dt K H v d → Dt K H' v d
  | .none, _, h => by
    cases h
    exact .non
  | .str x, _, h => by
    cases h
    exact .str x
  | .tuple ds, _, h => by
    cases h with
    | tup hs ha => exact .tup (k.sq hs) (Dt.keepAll k ds _ ha)
  | .bool b, _, h => by cases h
  | .int i, _, h => by cases h
  | .list ds, _, h => by cases h
  | .dict _, _, h => by cases h
theorem Dt.keepAll {K : PySem.W.Frag} {H H' : Hp} (k : KT H H') : ∀ (ds : List PyData) (vs : List V), DtAll K H vs ds → DtAll K H' vs ds
  | [], _, h => by
    cases h
    exact .nil
  | d :: ds, _, h => by
    cases h with
    | cons h1 h2 => exact .cons (Dt.keep k d _ h1) (Dt.keepAll k ds _ h2)
end
mutual
theorem Dt.dp {K : PySem.W.Frag} {H : Hp} : ∀ (d : PyData) (v : V), Dt K H v d → Dp K H v d
  | .none, _, h => by
    cases h
    exact .non
  | .str x, _, h => by
    cases h
    exact .str x
  | .tuple ds, _, h => by
    cases h with
    | tup hs ha => exact .tup hs (Dt.dpAll ds _ ha)
  | .bool b, _, h => by cases h
  | .int i, _, h => by cases h
  | .list ds, _, h => by cases h
  | .dict _, _, h => by cases h
theorem Dt.dpAll {K : PySem.W.Frag} {H : Hp} : ∀ (ds : List PyData) (vs : List V), DtAll K H vs ds → DpAll K H vs ds
  | [], _, h => by
    cases h
    exact .nil
  | d :: ds, _, h => by
    cases h with
    | cons h1 h2 => exact .cons (Dt.dp d _ h1) (Dt.dpAll ds _ h2)
end
theorem DtAll.len {K : PySem.W.Frag} {H : Hp} : ∀ {vs : List V} {ds : List PyData}, DtAll K H vs ds → vs.length = ds.length
  | _, [], h => by
    cases h
    rfl
  | _, d :: ds, h => by
    cases h with
    | cons h1 h2 =>
      show _ + 1 = _ + 1
      rw [DtAll.len h2]
theorem DtAll.snoc {K : PySem.W.Frag} {H : Hp} {v : V} {d : PyData} (hv : Dt K H v d) : ∀ {vs : List V} {ds : List PyData}, DtAll K H vs ds → DtAll K H (vs ++ [v]) (ds ++ [d])
  | _, [], h => by
    cases h
    exact .cons hv .nil
  | _, e :: ds, h => by
    cases h with
    | cons h1 h2 => exact .cons h1 (DtAll.snoc hv h2)
/-- a new tuple -/
theorem Dt.new {K : PySem.W.Frag} {H : Hp} {p : Addr} {xs : List V} {ds : List PyData} (hp : H p = none) (h : DtAll K H xs ds) : Dt K (upd H p (.tup xs)) (.ref p) (.tuple ds) :=
  .tup (SqT.of upd_same) (Dt.keepAll (KT.same (same_new hp)) _ _ h)
/-- what a step of the reader gives -/
def rzC (K : PySem.W.Frag) (d : Rd0) (H : Hp) (Q : VK) : Rz → Prop
  | none => False
  | some (t, l) => ∀ H' v, MvR K H H' d l → Dt K H' v t → Q v H'
theorem cut_in (wd : List Nat) : cutS (mkS wd) (some 1) (some (-1)) = mkS (inText wd) := by
  refine ext_tl ?_
  show ((wd.drop (HT.sIx (mkS wd).length 0 (some 1))).take (HT.sIx (mkS wd).length (mkS wd).length (some (-1)) - HT.sIx (mkS wd).length 0 (some 1))) = (wd.drop 1).take (wd.length - 2)
  rw [mkS_len]
  have e1 : HT.sIx wd.length 0 (some 1) = min 1 wd.length := HT.sIx_nat _ _ 1
  have e2 : HT.sIx wd.length wd.length (some (-1)) = wd.length - 1 := by
    show (if (-1 : Int) < 0 then ((-1 : Int) + (wd.length : Int)).toNat else min (-1 : Int).toNat wd.length) = _
    rw [if_pos (by decide)]
    omega
  rw [e1, e2]
  cases wd with
  | nil => rfl
  | cons a b =>
    rw [List.length_cons, Nat.min_eq_left (by omega), show b.length + 1 - 1 - 1 = b.length + 1 - 2 by omega]
theorem kiS_lit (a b : Ki) {s : String} (h : Str.ofString s = kiS b := by rfl) : decide (V.str (kiS a) = V.str (Str.ofString s)) = decide (a = b) := by
  rw [h, dec_str]
  cases a <;> cases b <;> decide +kernel
section
variable {P : Program} {w : World} {K : PySem.W.Frag} {mg : Str → Option Value} {base : Heap}
def spCc (K : PySem.W.Frag) : Sp := fun vs H Q _ => ∃ (d : Rd0) (l : List Tk) (a : Addr) (t : Tk), vs = [.ref d.r, .ref a] ∧ PR K H d l ∧ H a = some (.tup (tkV t.1 t.2.1 t.2.2)) ∧ t.2.1.length ≤ 400000 ∧ ccN d.z t = false ∧ Q .non H
theorem ok_check_colon (T : Tx w K mg) : Ok P w K mg base CX0 1 (He.fAd K d_PathReader_check_colon.at_) p_PathReader_check_colon (spCc K) := by
  obtain ⟨fd, F⟩ := f_PathReader_check_colon T
  refine ⟨fd, ?_, b_PathReader_check_colon F, F.kp⟩
  refine F.ok sc_PathReader_check_colon (fun vs H Q E h => ?_) (fun cdv A outer s H vs Q E hr h => ?_)
  · obtain ⟨d, l, a, t, rfl, _⟩ := h
    rfl
  · obtain ⟨d, l, a, t, rfl, hp, ha, htl, hc, k⟩ := h
    have nd := sc_PathReader_check_colon.nd
    refine ⟨_, PSs.nox (pss_cons (ps_set (i := 2) nd rfl (.inl rfl) (pe_op op_add (pe_ix ix_tup (pv 1) pe_int (fun _ _ => rfl)) (pe_callB call_len (by rfl) (n_len T) PySem.boot_len (pa_cons (pe_ix ix_tup (pv 1) pe_int (fun _ _ => rfl)) pa_nil))))
      (pss_one (ps_if (pw_and (pt_cmpR op_eq (pe_slice sl_str (pe_fld (pv 0) rfl) (po_some (pv 2)) (po_some (pe_op op_add (pv 2) pe_int))) pe_str (nomark _)) (pw_and1 (pt_cmpR op_notIn_sign pe_str (pe_ix ix_tup (pv 1) pe_int (fun _ _ => rfl)) (by rfl)))).pt pss_no pss_nil))), ?_⟩
    obtain ⟨j, g, hj, h2, h3, h5, h4⟩ := hp
    refine ⟨_, rfl, a, _, 2, _, rfl, rfl, SqT.of ha, atI_nat rfl, _, rfl, a, _, 1, _, rfl, rfl, SqT.of ha, atI1 _ _ _, _, _, rfl, ⟨by rw [mkS_len, sizeLine_eq]; omega, rfl⟩, _, _, rfl, rfl, ?_⟩
    have e2 : ((t.2.2 : Int) + (((mkS t.2.1).length : Nat) : Int)) = ((t.2.2 + t.2.1.length : Nat) : Int) := by
      rw [mkS_len]
      omega
    refine ⟨_, rfl, d.r, CP K, d.dx, _, _, rfl, h2, cls_PathReader T, na_PathReader_text T, pr_text, _, rfl, _, rfl, _, rfl, _, _, rfl, rfl, _, rfl, d.z, rfl, g.line, rfl, _, rfl, ?_⟩
    show if decide (V.str (cutS d.z (some ((t.2.2 : Int) + (((mkS t.2.1).length : Nat) : Int))) (some ((t.2.2 : Int) + (((mkS t.2.1).length : Nat) : Int) + 1))) = V.str (Str.ofString ":")) = true then _ else _
    rw [e2, cut_one, sg_lit _ (c := 58)]
    unfold ccN at hc
    cases h1 : hP (· == 58) ((tl d.z).drop (t.2.2 + t.2.1.length)) with
    | false => exact iteF (iteF k)
    | true =>
      rw [h1, Bool.true_and] at hc
      refine iteT ?_
      refine ⟨_, rfl, a, _, 1, _, rfl, rfl, SqT.of ha, atI1 _ _ _, 58, mkS t.2.1, rfl, rfl, _, rfl, ?_⟩
      have e1 : (!decide (58 ∈ (mkS t.2.1).cps.toList)) = !(t.2.1.any (· == 58)) := congrArg Bool.not (any_mem t.2.1 58)
      rw [e1, hc]
      exact iteF k
/-- text_of_literal, of a text -/
def spTl (K : PySem.W.Frag) : Sp := fun vs H Q _ => ∃ (x : V) (a : Addr) (t : Tk), vs = [x, .ref a] ∧ H a = some (.tup (tkV t.1 t.2.1 t.2.2)) ∧ t.1 = .txt ∧ t.2.1.length ≤ 400000 ∧ Q (.str (mkS (inText t.2.1))) H
theorem ok_text_of_literal (T : Tx w K mg) : Ok P w K mg base CX0 1 (He.fAd K d_PathReader_text_of_literal.at_) p_PathReader_text_of_literal (spTl K) := by
  obtain ⟨fd, F⟩ := f_PathReader_text_of_literal T
  refine ⟨fd, ?_, b_PathReader_text_of_literal F, F.kp⟩
  refine F.ok sc_PathReader_text_of_literal (fun vs H Q E h => ?_) (fun cdv A outer s H vs Q E hr h => ?_)
  · obtain ⟨x, a, t, rfl, _⟩ := h
    rfl
  · obtain ⟨x, a, t, rfl, ha, ht, htl, k⟩ := h
    refine ⟨_, PSs.nox (pss_cons (ps_if (pt_cmpR op_eq (pe_ix ix_tup (pv 1) pe_int (fun _ _ => rfl)) pe_str (nomark _)) pss_no pss_nil)
      (pss_cons (ps_if (pt_cmpR op_ne (pe_ix ix_tup (pv 1) pe_int (fun _ _ => rfl)) pe_str (nomark _)) pss_no pss_nil)
      (pss_one (ps_ret (pe_slice sl_str (pe_ix ix_tup (pv 1) pe_int (fun _ _ => rfl)) (po_some pe_int) (po_some (pe_un un_neg pe_int))))))), ?_⟩
    refine ⟨_, rfl, a, _, 0, _, rfl, rfl, SqT.of ha, atI0 _ _, rfl, _, rfl, ?_⟩
    show if decide (V.str (kiS t.1) = V.str (Str.ofString "open")) = true then _ else _
    rw [kiS_lit t.1 .opn, ht]
    refine iteF ?_
    refine ⟨_, rfl, a, _, 0, _, rfl, rfl, SqT.of ha, atI0 _ _, rfl, _, rfl, ?_⟩
    show if (!decide (V.str (kiS t.1) = V.str (Str.ofString "text"))) = true then _ else _
    rw [kiS_lit t.1 .txt, ht]
    refine iteF ?_
    refine ⟨_, rfl, a, _, 1, _, rfl, rfl, SqT.of ha, atI1 _ _ _, _, rfl, _, rfl, _, rfl, mkS t.2.1, rfl, by rw [mkS_len, sizeLine_eq]; omega, ?_⟩
    have e := cut_in t.2.1
    show Q (.str (cutS (mkS t.2.1) (some 1) (some (-1)))) H
    rw [e]
    exact k
def spLi (K : PySem.W.Frag) : Sp := fun vs H Q _ => ∃ (d : Rd0) (l : List Tk), vs = [.ref d.r] ∧ PR K H d l ∧ rzC K d H Q (litN l)
theorem ok_read_literal (T : Tx w K mg) : Ok P w K mg base CX0 2 (He.fAd K d_PathReader_read_literal.at_) p_PathReader_read_literal (spLi K) := by
  obtain ⟨fd, F⟩ := f_PathReader_read_literal T
  obtain ⟨fT, GT, bT, kT⟩ := ok_take (P := P) (base := base) T
  obtain ⟨fS, GS, bS, kS⟩ := ok_shortest_number (P := P) (base := base) T
  obtain ⟨fX, GX, bX, kX⟩ := ok_text_of_literal (P := P) (base := base) T
  refine ⟨fd, ?_, b_PathReader_read_literal F, F.kp⟩
  refine F.ok sc_PathReader_read_literal (fun vs H Q E h => ?_) (fun cdv A outer s H vs Q E hr h => ?_)
  · obtain ⟨d, l, rfl, _⟩ := h
    rfl
  · obtain ⟨d, l, rfl, hp, k⟩ := h
    cases l with
    | nil => exact k.elim
    | cons t r =>
    have nd := sc_PathReader_read_literal.nd
    refine ⟨_, PSs.nox (pss_cons (ps_set (i := 1) nd rfl (.inl rfl) (pe_meth0 (E := E0) (pv 0) (cls_PathReader T) (m_PathReader_take T) GT (hr.mono (by decide)) bT .nil pass0))
      (pss_cons (ps_if (pt_cmpR op_eq (pe_ix ix_tup (pv 1) pe_int (fun _ _ => rfl)) pe_str (nomark _))
        (pss_one (ps_ret (pe_tup (pa_cons pe_str (pa_cons (pe_call (E := E0) GS (hr.mono (by decide)) (by rfl) (g_shortest_number T) kS bS .nil pass0 (pa_cons (pe_ix ix_tup (pv 1) pe_int (fun _ _ => rfl)) pa_nil)) pa_nil))))) pss_nil)
      (pss_one (ps_ret (pe_tup (pa_cons pe_str (pa_cons (pe_meth (E := E0) (pv 0) (cls_PathReader T) (m_PathReader_text_of_literal T) GX (hr.mono (by decide)) bX .nil pass0 (pa_cons (pv 1) pa_nil)) pa_nil))))))), ?_⟩
    obtain ⟨j, h2⟩ := hp.rm
    obtain ⟨hpl, g⟩ := hp.place
    have htl : t.2.1.length ≤ 400000 := by have := g.len; omega
    refine ⟨_, rfl, d.r, d.dx, _, rfl, h2, pr_no (by decide +kernel), d, t, r, rfl, hp, fun H1 a ha mv => ?_⟩
    obtain ⟨j1, h21⟩ := mv.2.rm
    refine ⟨_, rfl, a, _, 0, _, rfl, rfl, SqT.of ha, atI0 _ _, rfl, _, rfl, ?_⟩
    show if decide (V.str (kiS t.1) = V.str (Str.ofString "number")) = true then _ else _
    rw [kiS_lit t.1 .num]
    unfold litN at k
    dsimp only at k
    cases hk : t.1 with
    | num =>
      rw [hk] at k
      obtain ⟨c, wd, hw⟩ := hp.wd (by rw [hk]; exact fun e => by cases e)
      refine iteT ?_
      refine ⟨_, rfl, a, _, 1, _, rfl, rfl, SqT.of ha, atI1 _ _ _, c, wd, (by rw [hw]; rfl), (by rw [← hw]; exact htl), fun H2 s2 => ⟨(by show 2 ≤ sizeLine; decide), fun p hpn => ?_⟩⟩
      rw [← hw]
      exact k _ _ ((mv.more s2).more (same_new hpn)) (Dt.new hpn (.cons (.str _) (.cons (.str _) .nil)))
    | txt =>
      rw [hk] at k
      refine iteF ?_
      refine ⟨_, rfl, d.r, d.dx, _, rfl, h21, pr_no (by decide +kernel), _, rfl, _, a, t, rfl, ha, hk, htl, (by show 2 ≤ sizeLine; decide), fun p hpn => ?_⟩
      exact k _ _ (mv.more (same_new hpn)) (Dt.new hpn (.cons (.str _) (.cons (.str _) .nil)))
    | _ => rw [hk] at k; exact k.elim
def spVa (K : PySem.W.Frag) : Sp := fun vs H Q _ => ∃ (d : Rd0) (l : List Tk), vs = [.ref d.r] ∧ PR K H d l ∧ rzC K d H Q (varN d.z l)
theorem ok_read_variable (T : Tx w K mg) : Ok P w K mg base CX0 2 (He.fAd K d_PathReader_read_variable.at_) p_PathReader_read_variable (spVa K) := by
  obtain ⟨fd, F⟩ := f_PathReader_read_variable T
  obtain ⟨fT, GT, bT, kT⟩ := ok_take (P := P) (base := base) T
  obtain ⟨fP, GP, bP, kP⟩ := ok_peek (P := P) (base := base) T
  obtain ⟨fC, GC, bC, kC⟩ := ok_check_colon (P := P) (base := base) T
  refine ⟨fd, ?_, b_PathReader_read_variable F, F.kp⟩
  refine F.ok sc_PathReader_read_variable (fun vs H Q E h => ?_) (fun cdv A outer s H vs Q E hr h => ?_)
  · obtain ⟨d, l, rfl, _⟩ := h
    rfl
  · obtain ⟨d, l, rfl, hp, k⟩ := h
    match l, hp, k with
    | [], _, k => exact k.elim
    | [t], _, k => exact k.elim
    | t :: u :: r, hp, k =>
    unfold varN at k
    dsimp only at k
    by_cases hc : u.1 = .nam ∧ u.2.2 = t.2.2 + 1 ∧ ccN d.z u = false
    · rw [if_pos hc] at k
      obtain ⟨hu, hpl, hc⟩ := hc
      have nd := sc_PathReader_read_variable.nd
      refine ⟨_, PSs.nox (pss_cons (ps_set (i := 1) nd rfl (.inl rfl) (pe_ix ix_tup (pe_meth0 (E := E0) (pv 0) (cls_PathReader T) (m_PathReader_take T) GT (hr.mono (by decide)) bT .nil pass0) pe_int (fun _ _ => rfl)))
        (pss_cons (ps_set (i := 2) nd rfl (.inl rfl) (pe_meth0 (E := E0) (pv 0) (cls_PathReader T) (m_PathReader_peek T) GP (hr.mono (by decide)) bP .nil pass0))
        (pss_cons (ps_if (pw_or (pt_cmpR op_ne (pe_ix ix_tup (pv 2) pe_int (fun _ _ => rfl)) pe_str (nomark _)) (pw_or1 (pt_cmpR op_ne (pe_ix ix_tup (pv 2) pe_int (fun _ _ => rfl)) (pe_op op_add (pv 1) pe_int) (nomark _)))).pt pss_no pss_nil)
        (pss_cons (ps_fldaug (pv 0) pe_int ip_add)
        (pss_cons (ps_expr (pe_meth (E := E0) (pv 0) (cls_PathReader T) (m_PathReader_check_colon T) GC (hr.mono (by decide)) bC .nil pass0 (pa_cons (pv 2) pa_nil)))
        (pss_one (ps_ret (pe_tup (pa_cons pe_str (pa_cons (pe_ix ix_tup (pv 2) pe_int (fun _ _ => rfl)) pa_nil)))))))))), ?_⟩
      obtain ⟨j, h2⟩ := hp.rm
      refine ⟨_, rfl, d.r, d.dx, _, rfl, h2, pr_no (by decide +kernel), d, t, u :: r, rfl, hp, fun H1 a ha mv => ⟨a, _, 2, _, rfl, rfl, SqT.of ha, atI_nat rfl, ?_⟩⟩
      have hp1 := mv.2
      obtain ⟨j1, g1, hj1, h21, h31, h51, h41⟩ := hp1
      obtain ⟨hul, g⟩ := mv.2.place
      refine ⟨_, rfl, d.r, d.dx, _, rfl, h21, pr_no (by decide +kernel), d, u, r, rfl, mv.2, fun b hb => ?_⟩
      refine ⟨_, rfl, b, _, 0, _, rfl, rfl, SqT.of hb, atI0 _ _, rfl, _, rfl, ?_⟩
      show if (!decide (V.str (kiS u.1) = V.str (Str.ofString "name"))) = true then _ else _
      rw [kiS_lit u.1 .nam, decide_eq_true hu]
      refine iteF ?_
      refine ⟨_, rfl, b, _, 2, _, rfl, rfl, SqT.of hb, atI_nat rfl, _, rfl, _, _, rfl, rfl, rfl, _, rfl, ?_⟩
      show if (!decide (V.int (u.2.2 : Int) = V.int ((t.2.2 : Int) + 1))) = true then _ else _
      rw [hpl, show ((t.2.2 + 1 : Nat) : Int) = (t.2.2 : Int) + 1 by omega, decide_eq_true rfl]
      refine iteF ?_
      refine ⟨_, rfl, d.r, CP K, d.dx, _, _, rfl, h21, cls_PathReader T, na_PathReader_at T, pr_at, _, _, rfl, rfl, d.dx, _, h21, (by show 5 < 1000; decide), ?_⟩
      have hbr := ne_ins h21 b _ hb (fun _ _ _ => by simp)
      rw [pr_put (i := j1 + 1) (by show ((j1 : Nat) : Int) + 1 = ((j1 + 1 : Nat) : Int); omega)]
      have m2 := PR.go mv.2 (drop_one hj1)
      generalize upd H1 _ _ = H2 at m2 ⊢
      obtain ⟨j2, h22⟩ := m2.2.rm
      have hb2 := m2.1 _ _ hbr hb
      refine ⟨_, rfl, d.r, d.dx, _, rfl, h22, pr_no (by decide +kernel), _, rfl, d, r, b, u, rfl, m2.2, (by rw [hpl] at hb2 ⊢; exact hb2), by have := g.len; omega, hc, ?_⟩
      refine ⟨_, rfl, b, _, 1, _, rfl, rfl, SqT.of hb2, atI1 _ _ _, (by show 2 ≤ sizeLine; decide), fun p hpn => ?_⟩
      exact k _ _ ((mv.trans m2).more (same_new hpn)) (Dt.new hpn (.cons (.str _) (.cons (.str _) .nil)))
    · rw [if_neg hc] at k
      exact k.elim
end
end PX
/-! PXRd -/
namespace PX
open PySem PySem.Spec PyProof.Rows L2 TL
/-! ### dicts of the head -/
theorem kv_no {α : Type} {kvs : List (Str × α)} {wd : List Nat} (h : kvs.find? (fun q => tl q.1 == wd) = none) : mkS wd ∉ kvs.map (·.1) := by
  intro hm
  obtain ⟨q, hq, e⟩ := List.mem_map.mp hm
  rw [List.find?_eq_none] at h
  have := h q hq
  rw [e, tl_mkS] at this
  exact this (beq_self_eq_true wd)
theorem kv_in {α : Type} {kvs : List (Str × α)} {wd : List Nat} {x : Str × α} (h : kvs.find? (fun q => tl q.1 == wd) = some x) : (mkS wd, x.2) ∈ kvs := by
  have hm := List.mem_of_find?_eq_some h
  have hy := List.find?_some h
  have hy2 : tl x.1 = wd := eq_of_beq hy
  have : x = (mkS wd, x.2) := by rw [← hy2, mkS_tl]
  rw [← this]
  exact hm
theorem fun_keys : funKvs.map (·.1) = keys_FUNCTIONS := by decide +kernel
theorem fn_no {w : World} {K : PySem.W.Frag} {mg : Str → Option Value} (T : Tx w K mg) {wd : List Nat} (h : fnLook wd = none) : PySem.W.nsIn K (He.ga K "FUNCTIONS") (mkS wd) = some none := by
  unfold fnLook at h
  rw [Option.map_eq_none_iff] at h
  have := kv_no h
  rw [fun_keys] at this
  exact kd_no T.tab_FUNCTIONS this
theorem fn_in {w : World} {K : PySem.W.Frag} {mg : Str → Option Value} (T : Tx w K mg) {wd : List Nat} {x : Int × Option Int} (h : fnLook wd = some x) : ∃ u, PySem.W.nsIn K (He.ga K "FUNCTIONS") (mkS wd) = some (some (.ref u)) ∧ tupB K u [.int x.1, optD x.2] = true := by
  unfold fnLook at h
  cases q : funKvs.find? (fun q => tl q.1 == wd) with
  | none => rw [q] at h; cases h
  | some y =>
    rw [q] at h
    have hx : y.2 = x := Option.some.inj h
    have hm := kv_in q
    rw [hx] at hm
    have h2 := List.all_eq_true.mp (x_fun T) _ hm
    dsimp only at h2
    split at h2
    · rename_i u e
      exact ⟨u, e, h2⟩
    · cases h2
/-- a step of all nodes -/
theorem step_of {K : PySem.W.Frag} {x ax : Str} (h : stepB K x ax = true) : ∀ H, Dt K H (.ref (He.ga K x)) (.tuple [.str ax, dNode, .tuple []]) := by
  intro H
  unfold stepB at h
  cases q : K.lookup (He.ga K x) with
  | none => rw [q] at h; cases h
  | some o =>
    obtain ⟨oc, od, dt, osl⟩ := o
    rw [q] at h
    cases dt with
    | seq us n =>
      obtain ⟨h1, g1⟩ := He.ba h
      clear h
      cases oc with
      | type c =>
        have ec : c = "tuple" := of_decide_eq_true h1
        subst ec
        split at g1
        · rename_i u0 a b he
          obtain ⟨h2, g2⟩ := He.ba g1
          obtain ⟨h3, h4⟩ := He.ba g2
          have r0 := He.relB_ok h2
          have sz : us.size = 3 := by
            have := congrArg List.length he
            simpa using this
          have ha : Dt K H (.ref a) dNode := .tup (tup_of h3 (by decide) H) (.cons (.str _) (.cons (.str _) (.cons .non .nil)))
          have hb : Dt K H (.ref b) (.tuple []) := .tup (tup_of h4 (by decide) H) .nil
          refine .tup (xs := [.str ax, .ref a, .ref b]) (.inr ⟨_, us, n, q, rfl, rfl, by rw [sz, sizeLine_eq]; decide, ?_⟩) (.cons (.str _) (.cons ha (.cons hb .nil)))
          rw [he]
          exact .cons r0 (.cons rfl (.cons rfl .nil))
        · cases g1
      | _ => cases h1
    | _ => cases h
theorem dt_any {w : World} {K : PySem.W.Frag} {mg : Str → Option Value} (T : Tx w K mg) : ∀ H, Dt K H (.ref (He.ga K "ANYTHING_BELOW")) dAny := step_of (x_s_ANYTHING_BELOW T)
theorem dt_here {w : World} {K : PySem.W.Frag} {mg : Str → Option Value} (T : Tx w K mg) : ∀ H, Dt K H (.ref (He.ga K "HERE")) dHere := step_of (x_s_HERE T)
theorem dt_above {w : World} {K : PySem.W.Frag} {mg : Str → Option Value} (T : Tx w K mg) : ∀ H, Dt K H (.ref (He.ga K "ABOVE")) dAbove := step_of (x_s_ABOVE T)
/-! ### signs that may be compared -/
theorem tks_signs : ∀ (f i : Nat) (l : List Nat), ∀ t ∈ tksN f i l, ∀ c ∈ t.2.1, c ∈ l
  | 0, _, _, t, h => by cases h
  | f + 1, i, l, t, h => by
    have h' : t ∈ ((tkN (l.drop (spN isBl l))).1, (l.drop (spN isBl l)).take (tkN (l.drop (spN isBl l))).2, i + spN isBl l) ::
        if (tkN (l.drop (spN isBl l))).1.ends = true then [] else tksN f (i + spN isBl l + ((l.drop (spN isBl l)).take (tkN (l.drop (spN isBl l))).2).length) (l.drop (spN isBl l + ((l.drop (spN isBl l)).take (tkN (l.drop (spN isBl l))).2).length)) := h
    rcases List.mem_cons.mp h' with h1 | h1
    · subst h1
      intro c hc
      exact List.mem_of_mem_drop (List.mem_of_mem_take hc)
    · split at h1
      · cases h1
      · intro c hc
        exact List.mem_of_mem_drop (tks_signs f _ _ t h1 c hc)
theorem PR.strOk {K : PySem.W.Frag} {H : Hp} {d : Rd0} {l : List Tk} (a : PR K H d l) {t : Tk} (ht : t ∈ l) : PyData.strOk (mkS t.2.1) = true := by
  obtain ⟨j, g, hj, _⟩ := a
  have hm : t ∈ tokL d.z := List.mem_of_mem_drop (i := j) (by rw [hj]; exact ht)
  have hs := tks_signs _ _ _ t hm
  unfold PyData.strOk
  rw [Array.all_eq_true']
  intro c hc
  have h2 := g.sg c (hs c (Array.mem_toList_iff.mpr hc))
  unfold isSg at h2
  simp only [Bool.or_eq_true, Bool.and_eq_true, decide_eq_true_eq, beq_iff_eq] at h2
  exact decide_eq_true (by omega)
theorem strOk_ki (k : Ki) : PyData.strOk (kiS k) = true := by cases k <;> decide +kernel
theorem shaped2 {a b : Str} (ha : PyData.strOk a = true) (hb : PyData.strOk b = true) : SeqAt.shaped (.tuple [.str a, .str b]) = true := by
  have h1 : PyData.canLay0 (.tuple [.str a, .str b]) = true := by
    show (PyData.strOk a && (PyData.strOk b && true)) = true
    rw [ha, hb]
    rfl
  unfold SeqAt.shaped
  rw [h1]
  rfl
theorem beq_mk (a b : Str) : (a == b) = decide (tl a = tl b) := by
  have h := dec_str a b
  rw [← h]
  by_cases e : a = b
  · subst e
    rw [decide_eq_true rfl, beq_self_eq_true]
  · rw [decide_eq_false (fun q => e (V.str.inj q))]
    exact beq_eq_false_iff_ne.mpr e
section
variable {P : Program} {w : World} {K : PySem.W.Frag} {mg : Str → Option Value} {base : Heap}
def spFn (K : PySem.W.Frag) : Sp := fun vs H Q _ => ∃ (d : Rd0) (l : List Tk) (wd : List Nat), vs = [.ref d.r, .str (mkS wd)] ∧ PR K H d l ∧ Q (.bl (fnLook wd).isSome) H
theorem ok_is_function (T : Tx w K mg) : Ok P w K mg base CX0 1 (He.fAd K d_PathReader_is_function.at_) p_PathReader_is_function (spFn K) := by
  obtain ⟨fd, F⟩ := f_PathReader_is_function T
  obtain ⟨es, n, D⟩ := He.dicW_ok T.tab_FUNCTIONS
  refine ⟨fd, ?_, b_PathReader_is_function F, F.kp⟩
  refine F.ok sc_PathReader_is_function (fun vs H Q E h => ?_) (fun cdv A outer s H vs Q E hr h => ?_)
  · obtain ⟨d, l, wd, rfl, _⟩ := h
    rfl
  · obtain ⟨d, l, wd, rfl, hp, k⟩ := h
    obtain ⟨j, g, hj, h2, h3, h5, h4⟩ := hp
    refine ⟨_, PSs.nox (pss_one (ps_ret (pe_and (pe_cmpR (op_in_kd D) (pv 1) (pe_glob (v := .ref (He.ga K "FUNCTIONS")) (by rfl) (g_FUNCTIONS T) rfl) (by rfl)) (pe_one (pe_not (pe_and (pe_fld (pv 0) rfl) (pe_one pe_no))))))), ?_⟩
    cases hf : fnLook wd with
    | none =>
      rw [hf] at k
      refine ⟨_, rfl, mkS wd, none, rfl, rfl, fn_no T hf, _, rfl, ?_⟩
      exact iteF k
    | some x =>
      rw [hf] at k
      obtain ⟨uu, e1, _⟩ := fn_in T hf
      refine ⟨_, rfl, mkS wd, some (.ref uu), rfl, rfl, e1, _, rfl, ?_⟩
      refine iteT ?_
      refine ⟨_, rfl, d.r, CP K, d.dx, _, _, rfl, h2, cls_PathReader T, na_PathReader_closed T, pr_closed, _, rfl, ?_⟩
      refine iteF ?_
      exact ⟨_, rfl, k⟩
def wordV (t : Tk) : V := if is1 t.2.1 opWords then .str (mkS t.2.1) else .non
def spOw (K : PySem.W.Frag) : Sp := fun vs H Q _ => ∃ (d : Rd0) (t : Tk) (r : List Tk), vs = [.ref d.r] ∧ PR K H d (t :: r) ∧ Q (wordV t) H
theorem ok_operator_word (T : Tx w K mg) : Ok P w K mg base CX0 1 (He.fAd K d_PathReader_operator_word.at_) p_PathReader_operator_word (spOw K) := by
  obtain ⟨fd, F⟩ := f_PathReader_operator_word T
  refine ⟨fd, ?_, b_PathReader_operator_word F, F.kp⟩
  refine F.ok sc_PathReader_operator_word (fun vs H Q E h => ?_) (fun cdv A outer s H vs Q E hr h => ?_)
  · obtain ⟨d, t, r, rfl, _⟩ := h
    rfl
  · obtain ⟨d, t, r, rfl, hp, k⟩ := h
    obtain ⟨j, g, hj, h2, h3, h5, h4⟩ := hp
    obtain ⟨a, hv, ha⟩ := h4.at hj
    have nd := sc_PathReader_operator_word.nd
    refine ⟨_, PSs.nox (pss_cons (ps_set (i := 1) nd rfl (.inl rfl) (pe_ix ix_tup (pe_ix ix_list (pe_fld (pv 0) rfl) (pe_fld (pv 0) rfl) (fun _ _ => rfl)) pe_int (fun _ _ => rfl)))
      (pss_one (ps_ret (pe_ifExp (pt_cmpR op_in_seq (pv 1) (pe_glob (v := .ref (He.ga K "OPERATOR_WORDS")) (by rfl) (g_OPERATOR_WORDS T) rfl) (by rfl)) (pv 1) pe_non)))), ?_⟩
    refine ⟨_, rfl, d.r, CP K, d.dx, _, _, rfl, h2, cls_PathReader T, na_PathReader_tokens T, pr_tokens, _, rfl, d.r, CP K, d.dx, _, _, rfl, h2, cls_PathReader T, na_PathReader_at T, pr_at, d.L, d.vs, (j : Int), _, rfl, rfl, SqL.of h3, atI_nat hv, ?_⟩
    refine ⟨a, _, 1, _, rfl, rfl, SqT.of ha, atI1 _ _ _, ?_⟩
    refine ⟨_, rfl, He.ga K "OPERATOR_WORDS", _, rfl, .inr (strs_of (x_t_OPERATOR_WORDS T) (by decide) _), rfl, flat_strs _, ?_⟩
    rw [if_neg Bool.false_ne_true]
    refine ⟨_, rfl, ?_⟩
    show if inV (.str (mkS t.2.1)) (tup_OPERATOR_WORDS.map V.str) = true then _ else _
    rw [in_dec, tl_mkS]
    unfold wordV at k
    change Q (if is1 t.2.1 (tup_OPERATOR_WORDS.map tl) = true then _ else _) H at k
    cases hk : is1 t.2.1 (tup_OPERATOR_WORDS.map tl) with
    | true =>
      rw [hk, if_pos rfl] at k
      refine iteT ?_
      exact ⟨_, rfl, k⟩
    | false =>
      rw [hk, if_neg Bool.false_ne_true] at k
      exact iteF k
/-- the list of the steps that a slash stands for -/
def spSl (K : PySem.W.Frag) : Sp := fun vs H Q _ => ∃ (d : Rd0) (t : Tk) (r : List Tk), vs = [.ref d.r] ∧ PR K H d (t :: r) ∧ ∀ H' L ys, MvR K H H' d r → H L = none → H' L = some (.lst ys) → DtAll K H' ys (slashN t) → Q (.ref L) H'
theorem ok_read_slash (T : Tx w K mg) : Ok P w K mg base CX0 2 (He.fAd K d_PathReader_read_slash.at_) p_PathReader_read_slash (spSl K) := by
  obtain ⟨fd, F⟩ := f_PathReader_read_slash T
  obtain ⟨fT, GT, bT, kT⟩ := ok_take (P := P) (base := base) T
  refine ⟨fd, ?_, b_PathReader_read_slash F, F.kp⟩
  refine F.ok sc_PathReader_read_slash (fun vs H Q E h => ?_) (fun cdv A outer s H vs Q E hr h => ?_)
  · obtain ⟨d, t, r, rfl, _⟩ := h
    rfl
  · obtain ⟨d, t, r, rfl, hp, k⟩ := h
    refine ⟨_, PSs.nox (pss_one (ps_ret (pe_ifExp (pt_cmpR op_eq (pe_ix ix_tup (pe_meth0 (E := E0) (pv 0) (cls_PathReader T) (m_PathReader_take T) GT (hr.mono (by decide)) bT .nil pass0) pe_int (fun _ _ => rfl)) pe_str (nomark _)) (pe_lst (pa_cons (pe_glob (v := .ref (He.ga K "ANYTHING_BELOW")) (by rfl) (g_ANYTHING_BELOW T) rfl) pa_nil)) (pe_lst pa_nil)))), ?_⟩
    obtain ⟨j, h2⟩ := hp.rm
    refine ⟨_, rfl, d.r, d.dx, _, rfl, h2, pr_no (by decide +kernel), d, t, r, rfl, hp, fun H1 a ha mv => ?_⟩
    refine ⟨a, _, 1, _, rfl, rfl, SqT.of ha, atI1 _ _ _, rfl, _, rfl, ?_⟩
    show if decide (V.str (mkS t.2.1) = V.str (Str.ofString "//")) = true then _ else _
    rw [eq_dec, tl_mkS]
    have back : ∀ {p : Addr}, H1 p = none → H p = none := fun hp0 => mv.1.free hp.ne mv.2.ne hp0
    unfold slashN at k
    change ∀ H' L ys, _ → _ → _ → DtAll K H' ys (if (t.2.1 == tl (Str.ofString "//")) = true then _ else _) → _ at k
    cases hk : t.2.1 == tl (Str.ofString "//") with
    | true =>
      rw [hk, if_pos rfl] at k
      refine iteT ?_
      refine ⟨(by show 1 ≤ sizeLine; decide), fun p hpn => ?_⟩
      exact k _ p _ (mv.more (same_new hpn)) (back hpn) upd_same (.cons (dt_any T _) .nil)
    | false =>
      rw [hk, if_neg Bool.false_ne_true] at k
      refine iteF ?_
      refine ⟨(by decide), fun p hpn => ?_⟩
      exact k _ p _ (mv.more (same_new hpn)) (back hpn) upd_same .nil
end
end PX
/-! PXRe -/
namespace PX
open PySem PySem.Spec PyProof.Rows L2 TL
section
variable {P : Program} {w : World} {K : PySem.W.Frag} {mg : Str → Option Value} {base : Heap}
def spAx (K : PySem.W.Frag) : Sp := fun vs H Q _ => ∃ (d : Rd0) (l : List Tk) (q : Addr) (ws : List Str) (ax : List Nat) (m : List Tk), vs = [.ref d.r, .ref q] ∧ PR K H d l ∧ (∀ H', SqT K H' q (ws.map V.str)) ∧ axN (ws.map tl) l = some (ax, m) ∧ ∀ H', MvR K H H' d m → Q (.str (mkS ax)) H'
theorem ok_read_axis (T : Tx w K mg) : Ok P w K mg base CX0 2 (He.fAd K d_PathReader_read_axis.at_) p_PathReader_read_axis (spAx K) := by
  obtain ⟨fd, F⟩ := f_PathReader_read_axis T
  obtain ⟨fP, GP, bP, kP⟩ := ok_peek (P := P) (base := base) T
  obtain ⟨fB, GB, bB, kB⟩ := ok_peek_behind (P := P) (base := base) T
  refine ⟨fd, ?_, b_PathReader_read_axis F, F.kp⟩
  refine F.ok sc_PathReader_read_axis (fun vs H Q E h => ?_) (fun cdv A outer s H vs Q E hr h => ?_)
  · obtain ⟨d, l, q, ws, ax, m, rfl, _⟩ := h
    rfl
  · obtain ⟨d, l, q, ws, ax, m, rfl, hp, hq, hx, k⟩ := h
    have nd := sc_PathReader_read_axis.nd
    cases l with
    | nil => cases hx
    | cons t r =>
    refine ⟨_, PSs.nox (pss_cons (ps_set (i := 2) nd rfl (.inl rfl) (pe_meth0 (E := E0) (pv 0) (cls_PathReader T) (m_PathReader_peek T) GP (hr.mono (by decide)) bP .nil pass0))
      (pss_cons (ps_if (pt_cmpR op_eq (pe_ix ix_list (pe_fld (pv 0) rfl) (pe_fld (pv 0) rfl) (fun _ _ => rfl)) pe_str (nomark _)) (pss_cons (ps_fldaug (pv 0) pe_int ip_add) (pss_one (ps_ret pe_str))) pss_nil)
      (Evl.pss_cut (ps_if (pw_and (pt_cmpR op_eq (pe_ix ix_tup (pv 2) pe_int (fun _ _ => rfl)) pe_str (nomark _)) (pw_and1 (pt_cmpR op_in_seq (pe_ix ix_tup (pv 2) pe_int (fun _ _ => rfl)) (pv 1) (by rfl)))).pt
        (pss_cons (ps_set (i := 3) nd rfl (.inl rfl) (pe_meth0 (E := E0) (pv 0) (cls_PathReader T) (m_PathReader_peek_behind T) GB (hr.mono (by decide)) bB .nil pass0))
        (pss_cons (ps_if (pt_cmpR op_eq (pe_ix ix_tup (pv 3) pe_int (fun _ _ => rfl)) pe_str (nomark _)) (pss_cons (ps_fldaug (pv 0) pe_int ip_add) (pss_one (ps_ret (pe_ix ix_tup (pv 2) pe_int (fun _ _ => rfl))))) pss_nil)
        (pss_one (ps_if (pt_cmpR (op_eqD hr.units) (pe_slice sl_tup (pv 3) po_none (po_some pe_int)) (pe_tup (pa_cons pe_str (pa_cons pe_str pa_nil))) (nomark _)) pss_no pss_nil)))) pss_nil)
      (pss_one (ps_ret pe_str))))), ?_⟩
    have hp' := hp
    obtain ⟨j, g, hj, h2, h3, h5, h4⟩ := hp'
    refine ⟨_, rfl, d.r, d.dx, _, rfl, h2, pr_no (by decide +kernel), d, t, r, rfl, hp, fun a ha => ?_⟩
    have har := ne_ins h2 a _ ha (fun _ _ _ => by simp)
    refine ⟨_, rfl, d.r, CP K, d.dx, _, _, rfl, h2, cls_PathReader T, na_PathReader_kinds T, pr_kinds, _, rfl, d.r, CP K, d.dx, _, _, rfl, h2, cls_PathReader T, na_PathReader_at T, pr_at, d.M, _, (j : Int), _, rfl, rfl, SqL.of h5, atI_nat (kd_at hj), rfl, _, rfl, ?_⟩
    show if decide (V.str (kdS t) = V.str (Str.ofString "@")) = true then _ else _
    rw [kd_lit t [64]]
    unfold axN at hx
    dsimp only at hx
    cases hk : kdL t == [64] with
    | true =>
      rw [hk, if_pos rfl] at hx
      cases hx
      refine iteT ?_
      refine ⟨_, rfl, d.r, CP K, d.dx, _, _, rfl, h2, cls_PathReader T, na_PathReader_at T, pr_at, _, _, rfl, rfl, d.dx, _, h2, (by show 5 < 1000; decide), ?_⟩
      rw [pr_put (i := j + 1) (by show ((j : Nat) : Int) + 1 = ((j + 1 : Nat) : Int); omega)]
      have m1 := PR.go hp (drop_one hj)
      generalize upd H _ _ = H1 at m1 ⊢
      exact k H1 m1
    | false =>
      rw [hk, if_neg Bool.false_ne_true] at hx
      refine iteF ?_
      refine ⟨fun σ H1 => Same H H1 ∧ m = t :: r ∧ ax = [99, 104, 105, 108, 100], ?_, ?_⟩
      · refine ⟨_, rfl, a, _, 0, _, rfl, rfl, SqT.of ha, atI0 _ _, rfl, _, rfl, ?_⟩
        show if decide (V.str (kiS t.1) = V.str (Str.ofString "name")) = true then _ else _
        rw [kiS_lit t.1 .nam]
        by_cases hn : t.1 = .nam
        · rw [decide_eq_true hn]
          refine iteT ?_
          refine ⟨_, rfl, a, _, 1, _, rfl, rfl, SqT.of ha, atI1 _ _ _, _, rfl, q, _, rfl, .inr (hq _), rfl, flat_strs _, ?_⟩
          rw [if_neg Bool.false_ne_true]
          refine ⟨_, rfl, ?_⟩
          rw [in_dec, tl_mkS]
          cases hin : is1 t.2.1 (ws.map tl) with
          | false =>
            rw [if_neg (fun h => by rw [hin] at h; cases h.2)] at hx
            cases hx
            refine iteF ?_
            exact ⟨Same.refl H, rfl, rfl⟩
          | true =>
            rw [if_pos ⟨hn, hin⟩] at hx
            refine iteT ?_
            cases r with
            | nil => cases hx
            | cons u r2 =>
            try dsimp only at hx
            refine ⟨_, rfl, d.r, d.dx, _, rfl, h2, pr_no (by decide +kernel), d, t, u, r2, rfl, hp, fun b hb => ?_⟩
            refine ⟨_, rfl, b, _, 1, _, rfl, rfl, SqT.of hb, atI1 _ _ _, rfl, _, rfl, ?_⟩
            show if decide (V.str (mkS u.2.1) = V.str (Str.ofString "::")) = true then _ else _
            rw [eq_dec, tl_mkS]
            change (if (u.2.1 == tl (Str.ofString "::")) = true then _ else _) = _ at hx
            cases hc : u.2.1 == tl (Str.ofString "::") with
            | true =>
              rw [hc, if_pos rfl] at hx
              cases hx
              refine iteT ?_
              refine ⟨_, rfl, d.r, CP K, d.dx, _, _, rfl, h2, cls_PathReader T, na_PathReader_at T, pr_at, _, _, rfl, rfl, d.dx, _, h2, (by show 5 < 1000; decide), ?_⟩
              rw [pr_put (i := j + 2) (by show ((j : Nat) : Int) + 2 = ((j + 2 : Nat) : Int); omega)]
              have m1 := PR.go hp (drop_one (drop_one hj))
              generalize upd H d.r _ = H1 at m1 ⊢
              refine ⟨_, rfl, a, _, 1, _, rfl, rfl, SqT.of (m1.1 _ _ har ha), atI1 _ _ _, ?_⟩
              exact k H1 m1
            | false =>
              rw [hc, if_neg Bool.false_ne_true] at hx
              refine iteF ?_
              by_cases hb2 : u.1 = .brk
              · rw [if_pos hb2] at hx
                cases hx
              rw [if_neg hb2] at hx
              cases hx
              have hcut : cutV (tkV u.1 u.2.1 u.2.2) none (some 2) = [V.str (kiS u.1), V.str (mkS u.2.1)] := rfl
              refine ⟨_, rfl, _, rfl, b, _, rfl, SqT.of hb, (fun h => absurd h.2 (by show ¬ (2 = 3); decide)), fun p hpn => ?_⟩
              rw [hcut]
              have s1 := same_new hpn (o := .tup [V.str (kiS u.1), V.str (mkS u.2.1)])
              have h1 : upd H p (.tup [V.str (kiS u.1), V.str (mkS u.2.1)]) p = some (.tup [V.str (kiS u.1), V.str (mkS u.2.1)]) := upd_same
              generalize upd H p (.tup [V.str (kiS u.1), V.str (mkS u.2.1)]) = H1 at s1 h1 ⊢
              refine ⟨by decide, fun q2 hq2 => ?_⟩
              have s2 := same_new hq2 (o := .tup [V.str (Str.ofString "broken"), V.str (Str.ofString ":")])
              refine ⟨_, _, .tup (SqT.of (s2 _ _ h1)) (.cons (.str _) (.cons (.str _) .nil)), .tup (SqT.of upd_same) (.cons (.str _) (.cons (.str _) .nil)), ?_, ?_, ?_⟩
              · exact shaped2 (strOk_ki _) (hp.strOk (t := u) (by simp))
              · exact shaped2 (by decide +kernel) (by decide +kernel)
              · have e : PyData.eqv (.tuple [.str (kiS u.1), .str (mkS u.2.1)]) (.tuple [.str (Str.ofString "broken"), .str (Str.ofString ":")]) = false := by
                  show ((kiS u.1 == Str.ofString "broken") && ((mkS u.2.1 == Str.ofString ":") && true)) = _
                  have h3 := kiS_lit u.1 .brk (s := "broken")
                  rw [dec_str] at h3
                  rw [beq_mk, h3, decide_eq_false hb2, Bool.false_and]
                rw [e]
                exact ⟨_, rfl, iteF ⟨s1.trans s2, rfl, rfl⟩⟩
        · rw [decide_eq_false hn]
          rw [if_neg (fun h => hn h.1)] at hx
          cases hx
          refine iteF (iteF ?_)
          exact ⟨Same.refl H, rfl, rfl⟩
      · rintro σ H1 ⟨s1, rfl, rfl⟩
        exact k H1 (MvR.same hp s1)
def spKk (K : PySem.W.Frag) : Sp := fun vs H Q _ => ∃ (d : Rd0) (l : List Tk) (kd : List Nat), vs = [.ref d.r, .str (mkS kd)] ∧ PR K H d l ∧ rzC K d H Q (kdTest kd l)
theorem ok_read_kind (T : Tx w K mg) : Ok P w K mg base CX0 2 (He.fAd K d_PathReader_read_kind.at_) p_PathReader_read_kind (spKk K) := by
  obtain ⟨fd, F⟩ := f_PathReader_read_kind T
  obtain ⟨fT, GT, bT, kT⟩ := ok_take (P := P) (base := base) T
  obtain ⟨fX, GX, bX, kX⟩ := ok_text_of_literal (P := P) (base := base) T
  obtain ⟨fE, GE, bE, kE⟩ := ok_expect (P := P) (base := base) T
  refine ⟨fd, ?_, b_PathReader_read_kind F, F.kp⟩
  refine F.ok sc_PathReader_read_kind (fun vs H Q E h => ?_) (fun cdv A outer s H vs Q E hr h => ?_)
  · obtain ⟨d, l, kd, rfl, _⟩ := h
    rfl
  · obtain ⟨d, l, kd, rfl, hp, k⟩ := h
    have nd := sc_PathReader_read_kind.nd
    match l, hp, k with
    | [], _, k => exact k.elim
    | [t], _, k => exact k.elim
    | t :: u :: r, hp, k =>
    refine ⟨_, PSs.nox (pss_cons (ps_fldaug (pv 0) pe_int ip_add)
      (pss_cons (ps_set (i := 2) nd rfl (.inl rfl) pe_non)
      (Evl.pss_cut (ps_if (pw_and (pt_cmpR op_eq (pv 1) pe_str (nomark _)) (pw_and1 (pt_cmpR op_ne (pe_ix ix_list (pe_fld (pv 0) rfl) (pe_fld (pv 0) rfl) (fun _ _ => rfl)) pe_str (nomark _)))).pt
        (pss_one (ps_set (i := 2) nd rfl (.inl rfl) (pe_meth (E := E0) (pv 0) (cls_PathReader T) (m_PathReader_text_of_literal T) GX (hr.mono (by decide)) bX .nil pass0 (pa_cons (pe_meth0 (E := E0) (pv 0) (cls_PathReader T) (m_PathReader_take T) GT (hr.mono (by decide)) bT .nil pass0) pa_nil)))) pss_nil)
      (pss_cons (ps_expr (pe_meth (E := E0) (pv 0) (cls_PathReader T) (m_PathReader_expect T) GE (hr.mono (by decide)) bE .nil pass0 (pa_cons pe_str pa_nil)))
      (pss_one (ps_ret (pe_tup (pa_cons pe_str (pa_cons (pv 1) (pa_cons (pv 2) pa_nil)))))))))), ?_⟩
    have hp' := hp
    obtain ⟨j, g, hj, h2, h3, h5, h4⟩ := hp'
    refine ⟨_, rfl, d.r, CP K, d.dx, _, _, rfl, h2, cls_PathReader T, na_PathReader_at T, pr_at, _, _, rfl, rfl, d.dx, _, h2, (by show 5 < 1000; decide), ?_⟩
    rw [pr_put (i := j + 1) (by show ((j : Nat) : Int) + 1 = ((j + 1 : Nat) : Int); omega)]
    have m1 := PR.go hp (drop_one hj)
    generalize upd H _ _ = H1 at m1 ⊢
    unfold kdTest at k
    dsimp only at k
    change rzC K d H Q (if (kd == tl (Str.ofString "instruction") && !(kdL u == tl (Str.ofString ")"))) = true then _ else _) at k
    refine ⟨fun σ H2 => ∃ (v : V) (x : PyData) (l2 l3 : List Tk), σ = [some (.ref d.r), some (.str (mkS kd)), some v] ∧ Dt K H2 v x ∧ MvR K H H2 d l2 ∧ exN [41] l2 = some l3 ∧ rzC K d H Q (some (.tuple [dT "kind", dW kd, x], l3)), ?_, ?_⟩
    · have noT : rzC K d H Q ((exN [41] (u :: r)).map fun l => (.tuple [dT "kind", dW kd, .none], l)) → ∀ H2, H2 = H1 → ∃ (v : V) (x : PyData) (l2 l3 : List Tk), [some (V.ref d.r), some (.str (mkS kd)), some .non] = [some (.ref d.r), some (.str (mkS kd)), some v] ∧ Dt K H2 v x ∧ MvR K H H2 d l2 ∧ exN [41] l2 = some l3 ∧ rzC K d H Q (some (.tuple [dT "kind", dW kd, x], l3)) := by
        rintro kk H2 rfl
        cases he : exN [41] (u :: r) with
        | none => rw [he] at kk; exact kk.elim
        | some l3 =>
          rw [he] at kk
          exact ⟨_, .none, _, l3, rfl, .non, m1, he, kk⟩
      refine ⟨_, rfl, rfl, _, rfl, ?_⟩
      show if decide (V.str (mkS kd) = V.str (Str.ofString "instruction")) = true then _ else _
      rw [eq_dec, tl_mkS]
      cases h1 : kd == tl (Str.ofString "instruction") with
      | false =>
        rw [h1, Bool.false_and, if_neg Bool.false_ne_true] at k
        refine iteF (iteF ?_)
        exact noT k _ rfl
      | true =>
        rw [h1, Bool.true_and] at k
        refine iteT ?_
        have hp1 := m1.2
        obtain ⟨j1, g1, hj1, h21, h31, h51, h41⟩ := hp1
        refine ⟨_, rfl, d.r, CP K, d.dx, _, _, rfl, h21, cls_PathReader T, na_PathReader_kinds T, pr_kinds, _, rfl, d.r, CP K, d.dx, _, _, rfl, h21, cls_PathReader T, na_PathReader_at T, pr_at, d.M, _, (j1 : Int), _, rfl, rfl, SqL.of h51, atI_nat (kd_at hj1), rfl, _, rfl, ?_⟩
        show if (!decide (V.str (kdS u) = V.str (Str.ofString ")"))) = true then _ else _
        rw [kd_ne]
        cases h7 : kdL u == tl (Str.ofString ")") with
        | true =>
          rw [h7] at k
          refine iteF ?_
          exact noT k _ rfl
        | false =>
          rw [h7] at k
          refine iteT ?_
          cases hu : u.1 with
          | txt =>
            rw [hu] at k
            refine ⟨_, rfl, d.r, d.dx, _, rfl, h21, pr_no (by decide +kernel), _, rfl, d.r, d.dx, _, rfl, h21, pr_no (by decide +kernel), d, u, r, rfl, m1.2, fun H2 a ha mv => ?_⟩
            have hul := m1.2.place
            refine ⟨_, a, u, rfl, ha, hu, (by have := hul.2.len; omega), ?_⟩
            cases he : exN [41] r with
            | none => rw [he] at k; exact k.elim
            | some l3 =>
              rw [he] at k
              exact ⟨_, dW (inText u.2.1), r, l3, rfl, .str _, m1.trans mv, he, k⟩
          | _ => rw [hu] at k; exact k.elim
    · rintro σ H2 ⟨v, x, l2, l3, rfl, hv, m2, he, kk⟩
      obtain ⟨j2, h22⟩ := m2.2.rm
      cases l2 with
      | nil => cases he
      | cons y l2 =>
        unfold exN at he
        dsimp only at he
        cases hy : kdL y == [41] with
        | false => rw [hy, if_neg Bool.false_ne_true] at he; cases he
        | true =>
          rw [hy, if_pos rfl] at he
          cases he
          refine ⟨_, rfl, d.r, d.dx, _, rfl, h22, pr_no (by decide +kernel), d, y, _, _, rfl, m2.2, eq_of_beq hy, fun H3 mv => ?_⟩
          refine ⟨_, rfl, _, rfl, (by show 3 ≤ sizeLine; decide), fun p hpn => ?_⟩
          exact kk _ _ ((m2.trans mv).more (same_new hpn)) (Dt.new hpn (.cons (.str _) (.cons (.str _) (.cons (Dt.keep (mv.kt m2.2) _ _ hv) .nil))))
end
end PX
/-! PXRf -/
namespace PX
open PySem PySem.Spec PyProof.Rows L2 TL
theorem rzC.mv {K : PySem.W.Frag} {d : Rd0} {H H1 : Hp} {l m : List Tk} {Q : VK} {r : Rz} (h0 : PR K H d l) (mv : MvR K H H1 d m) (k : rzC K d H Q r) : rzC K d H1 Q r := by
  match r, k with
  | some (t, l), k => exact fun H' v m hv => k H' v (mv.trans m) hv
  | none, k => exact k
theorem kinds_map : kvs_KINDS.map (·.1) = keys_KINDS := by decide +kernel
theorem kinds_str : kvs_KINDS.all (fun q => match q.2 with | .str _ => true | _ => false) = true := by decide +kernel
theorem kind_in {w : World} {K : PySem.W.Frag} {mg : Str → Option Value} (T : Tx w K mg) {wd kd : List Nat} (h : kindOf wd = some kd) : KDct K w (He.ga K "KINDS") (mkS wd) (.str (mkS kd)) ∧ ∃ u, PySem.W.nsIn K (He.ga K "KINDS") (mkS wd) = some (some u) := by
  unfold kindOf at h
  cases q : kvs_KINDS.find? (fun q => tl q.1 == wd) with
  | none => rw [q] at h; cases h
  | some y =>
    rw [q] at h
    have hm := kv_in q
    have hs := List.all_eq_true.mp kinds_str _ hm
    obtain ⟨y1, y2⟩ := y
    cases y2 with
    | str x =>
      have hx : tl x = kd := Option.some.inj h
      have e : x = mkS kd := by rw [← hx, mkS_tl]
      subst e
      exact ⟨kd_val T.tab_KINDS (x_v_KINDS T) hm, kd_has (x_v_KINDS T) hm⟩
    | _ => cases hs
section
variable {P : Program} {w : World} {K : PySem.W.Frag} {mg : Str → Option Value} {base : Heap}
def spTt (K : PySem.W.Frag) : Sp := fun vs H Q _ => ∃ (d : Rd0) (l : List Tk), vs = [.ref d.r] ∧ PR K H d l ∧ rzC K d H Q (testN d.z l)
theorem ok_read_test (T : Tx w K mg) : Ok P w K mg base CX0 3 (He.fAd K d_PathReader_read_test.at_) p_PathReader_read_test (spTt K) := by
  obtain ⟨fd, F⟩ := f_PathReader_read_test T
  obtain ⟨fP, GP, bP, kP⟩ := ok_peek (P := P) (base := base) T
  obtain ⟨fC, GC, bC, kC⟩ := ok_check_colon (P := P) (base := base) T
  obtain ⟨fK, GK, bK, kK⟩ := ok_read_kind (P := P) (base := base) T
  obtain ⟨es, n, D⟩ := He.dicW_ok T.tab_KINDS
  refine ⟨fd, ?_, b_PathReader_read_test F, F.kp⟩
  refine F.ok sc_PathReader_read_test (fun vs H Q E h => ?_) (fun cdv A outer s H vs Q E hr h => ?_)
  · obtain ⟨d, l, rfl, _⟩ := h
    rfl
  · obtain ⟨d, l, rfl, hp, k⟩ := h
    have nd := sc_PathReader_read_test.nd
    cases l with
    | nil => exact k.elim
    | cons t r =>
    refine ⟨_, PSs.nox (pss_cons (ps_set (i := 1) nd rfl (.inl rfl) (pe_meth0 (E := E0) (pv 0) (cls_PathReader T) (m_PathReader_peek T) GP (hr.mono (by decide)) bP .nil pass0))
      (pss_cons (ps_if (pt_cmpR op_eq (pe_ix ix_list (pe_fld (pv 0) rfl) (pe_fld (pv 0) rfl) (fun _ _ => rfl)) pe_str (nomark _)) (pss_cons (ps_fldaug (pv 0) pe_int ip_add) (pss_one (ps_ret (pe_tup (pa_cons pe_str pa_nil))))) pss_nil)
      (pss_cons (ps_if (pt_cmpR op_ne (pe_ix ix_tup (pv 1) pe_int (fun _ _ => rfl)) pe_str (nomark _)) pss_no pss_nil)
      (pss_cons (ps_fldaug (pv 0) pe_int ip_add)
      (pss_cons (ps_expr (pe_meth (E := E0) (pv 0) (cls_PathReader T) (m_PathReader_check_colon T) GC (hr.mono (by decide)) bC .nil pass0 (pa_cons (pv 1) pa_nil)))
      (pss_cons (ps_if (pt_cmpR op_ne (pe_ix ix_list (pe_fld (pv 0) rfl) (pe_fld (pv 0) rfl) (fun _ _ => rfl)) pe_str (nomark _)) (pss_one (ps_ret (pe_tup (pa_cons pe_str (pa_cons (pe_ix ix_tup (pv 1) pe_int (fun _ _ => rfl)) pa_nil))))) pss_nil)
      (pss_cons (ps_if (pt_cmpR (op_notIn_kd D) (pe_ix ix_tup (pv 1) pe_int (fun _ _ => rfl)) (pe_glob (v := .ref (He.ga K "KINDS")) (by rfl) (g_KINDS T) rfl) (by rfl)) pss_no pss_nil)
      (pss_one (ps_ret (pe_meth (E := E0) (pv 0) (cls_PathReader T) (m_PathReader_read_kind T) GK (hr.mono (by decide)) bK .nil pass0 (pa_cons (pe_ix ix_kdict (pe_glob (v := .ref (He.ga K "KINDS")) (by rfl) (g_KINDS T) rfl) (pe_ix ix_tup (pv 1) pe_int (fun _ _ => rfl)) (fun _ _ => rfl)) pa_nil))))))))))), ?_⟩
    have hp' := hp
    obtain ⟨j, g, hj, h2, h3, h5, h4⟩ := hp'
    refine ⟨_, rfl, d.r, d.dx, _, rfl, h2, pr_no (by decide +kernel), d, t, r, rfl, hp, fun a ha => ?_⟩
    have har := ne_ins h2 a _ ha (fun _ _ _ => by simp)
    refine ⟨_, rfl, d.r, CP K, d.dx, _, _, rfl, h2, cls_PathReader T, na_PathReader_kinds T, pr_kinds, _, rfl, d.r, CP K, d.dx, _, _, rfl, h2, cls_PathReader T, na_PathReader_at T, pr_at, d.M, _, (j : Int), _, rfl, rfl, SqL.of h5, atI_nat (kd_at hj), rfl, _, rfl, ?_⟩
    show if decide (V.str (kdS t) = V.str (Str.ofString "*")) = true then _ else _
    rw [kd_lit t [42]]
    unfold testN at k
    dsimp only at k
    cases hst : kdL t == [42] with
    | true =>
      rw [hst, if_pos rfl] at k
      refine iteT ?_
      refine ⟨_, rfl, d.r, CP K, d.dx, _, _, rfl, h2, cls_PathReader T, na_PathReader_at T, pr_at, _, _, rfl, rfl, d.dx, _, h2, (by show 5 < 1000; decide), ?_⟩
      rw [pr_put (i := j + 1) (by show ((j : Nat) : Int) + 1 = ((j + 1 : Nat) : Int); omega)]
      have m1 := PR.go hp (drop_one hj)
      generalize upd H _ _ = H1 at m1 ⊢
      exact ⟨(by decide), fun p hpn => k _ _ (m1.more (same_new hpn)) (Dt.new hpn (.cons (.str _) .nil))⟩
    | false =>
      rw [hst, if_neg Bool.false_ne_true] at k
      refine iteF ?_
      by_cases hc : t.1 = .nam ∧ ccN d.z t = false
      · rw [if_pos hc] at k
        obtain ⟨hn, hco⟩ := hc
        refine ⟨_, rfl, a, _, 0, _, rfl, rfl, SqT.of ha, atI0 _ _, rfl, _, rfl, ?_⟩
        show if (!decide (V.str (kiS t.1) = V.str (Str.ofString "name"))) = true then _ else _
        rw [kiS_lit t.1 .nam, decide_eq_true hn]
        refine iteF ?_
        cases r with
        | nil => exact k.elim
        | cons u r =>
        dsimp only at k
        have hpl := hp.place
        refine ⟨_, rfl, d.r, CP K, d.dx, _, _, rfl, h2, cls_PathReader T, na_PathReader_at T, pr_at, _, _, rfl, rfl, d.dx, _, h2, (by show 5 < 1000; decide), ?_⟩
        rw [pr_put (i := j + 1) (by show ((j : Nat) : Int) + 1 = ((j + 1 : Nat) : Int); omega)]
        have m1 := PR.go hp (drop_one hj)
        generalize upd H _ _ = H1 at m1 ⊢
        have ha1 := m1.1 _ _ har ha
        have hp1 := m1.2
        obtain ⟨j1, g1, hj1, h21, h31, h51, h41⟩ := hp1
        refine ⟨_, rfl, d.r, d.dx, _, rfl, h21, pr_no (by decide +kernel), _, rfl, d, u :: r, a, t, rfl, m1.2, ha1, by have := hpl.2.len; omega, hco, ?_⟩
        refine ⟨_, rfl, d.r, CP K, d.dx, _, _, rfl, h21, cls_PathReader T, na_PathReader_kinds T, pr_kinds, _, rfl, d.r, CP K, d.dx, _, _, rfl, h21, cls_PathReader T, na_PathReader_at T, pr_at, d.M, _, (j1 : Int), _, rfl, rfl, SqL.of h51, atI_nat (kd_at hj1), rfl, _, rfl, ?_⟩
        show if (!decide (V.str (kdS u) = V.str (Str.ofString "("))) = true then _ else _
        rw [kd_ne]
        change rzC K d H Q (if (kdL u == tl (Str.ofString "(")) = true then _ else _) at k
        cases hs2 : kdL u == tl (Str.ofString "(") with
        | false =>
          rw [hs2, if_neg Bool.false_ne_true] at k
          refine iteT ?_
          exact ⟨_, rfl, a, _, 1, _, rfl, rfl, SqT.of ha1, atI1 _ _ _, (by show 2 ≤ sizeLine; decide), fun p hpn => k _ _ (m1.more (same_new hpn)) (Dt.new hpn (.cons (.str _) (.cons (.str _) .nil)))⟩
        | true =>
          rw [hs2, if_pos rfl] at k
          refine iteF ?_
          cases hkk : kindOf t.2.1 with
          | none => rw [hkk] at k; exact k.elim
          | some kd =>
            rw [hkk] at k
            dsimp only at k
            obtain ⟨kc, uu, hu⟩ := kind_in T hkk
            refine ⟨_, rfl, a, _, 1, _, rfl, rfl, SqT.of ha1, atI1 _ _ _, (mkS t.2.1), some uu, rfl, rfl, hu, _, rfl, ?_⟩
            refine iteF ?_
            refine ⟨_, rfl, d.r, d.dx, _, rfl, h21, pr_no (by decide +kernel), _, rfl, a, _, 1, _, rfl, rfl, SqT.of ha1, atI1 _ _ _, He.ga K "KINDS", mkS t.2.1, .str (mkS kd), rfl, rfl, kc, d, u :: r, kd, rfl, m1.2, ?_⟩
            exact k.mv hp m1
      · rw [if_neg hc] at k
        exact k.elim
end
end PX
/-! PXRg -/
namespace PX
open PySem PySem.Spec PyProof.Rows L2 TL
/-- an object of one's own is put anew -/
theorem MvR.updN {K : PySem.W.Frag} {H H' : Hp} {d : Rd0} {l0 l : List Tk} {L : Addr} {o : HO} (h0 : PR K H d l0) (hL : H L = none) (m : MvR K H H' d l) : MvR K H (upd H' L o) d l := by
  have nL : ∀ {b : Addr} {u : HO}, H b = some u → b ≠ L := fun hb e => by
    rw [e, hL] at hb
    cases hb
  have h0' := h0
  obtain ⟨s, j, g, hj, h2, h3, h5, h4⟩ := m
  obtain ⟨_, _, _, i2, i3, i5, i4⟩ := h0
  refine ⟨fun b u hb hu => ?_, j, g, hj, ?_, ?_, ?_, ?_⟩
  · rw [upd_ne (nL hu)]
    exact s b u hb hu
  · rw [upd_ne (nL i2)]
    exact h2
  · rw [upd_ne (nL i3)]
    exact h3
  · rw [upd_ne (nL i5)]
    exact h5
  · exact i4.keep fun a xs ha => by
      rw [upd_ne (nL ha)]
      exact s a _ (ne_ins i2 a _ ha (fun _ _ _ => by simp)) ha
theorem ne_new {K : PySem.W.Frag} {H : Hp} {d : Rd0} {l : List Tk} (h : PR K H d l) {L : Addr} (hL : H L = none) : L ≠ d.r := fun e => by
  have := h.ne
  rw [← e] at this
  exact this hL
def spXp (K : PySem.W.Frag) (ex : Str → List Tk → Rz) : Sp := fun vs H Q _ => ∃ (d : Rd0) (l : List Tk), vs = [.ref d.r] ∧ PR K H d l ∧ rzC K d H Q (ex d.z l)
section
variable {P : Program} {w : World} {K : PySem.W.Frag} {mg : Str → Option Value} {base : Heap}
/-- the premise of all that reads expressions -/
abbrev OkX (P : Program) (w : World) (K : PySem.W.Frag) (mg : Str → Option Value) (base : Heap) (e : Nat) (ex : Str → List Tk → Rz) : Prop := Ok P w K mg base CX0 e (He.fAd K d_PathReader_read_expression.at_) p_PathReader_read_expression (spXp K ex)
def spPd (K : PySem.W.Frag) (ex : Str → List Tk → Rz) : Sp := fun vs H Q _ => ∃ (d : Rd0) (l : List Tk) (ps : List PyData) (m : List Tk) (f : Nat), vs = [.ref d.r] ∧ PR K H d l ∧ f ≤ 500000 ∧ prdN (ex d.z) f [] l = some (ps, m) ∧ ∀ H' v, MvR K H H' d m → Dt K H' v (.tuple ps) → Q v H'
theorem ok_read_predicates (T : Tx w K mg) {e : Nat} (he : 4 ≤ e) {ex : Str → List Tk → Rz} (hE : OkX P w K mg base e ex) : Ok P w K mg base CX0 (e + 1) (He.fAd K d_PathReader_read_predicates.at_) p_PathReader_read_predicates (spPd K ex) := by
  obtain ⟨fd, F⟩ := f_PathReader_read_predicates T
  obtain ⟨fE, GE, bE, kE⟩ := hE
  obtain ⟨fX, GX, bX, kX⟩ := ok_expect_behind_operand (P := P) (base := base) T
  refine ⟨fd, ?_, b_PathReader_read_predicates F, F.kp⟩
  refine F.ok sc_PathReader_read_predicates (fun vs H Q E h => ?_) (fun cdv A outer s H vs Q E hr h => ?_)
  · obtain ⟨d, l, ps, m, f, rfl, _⟩ := h
    rfl
  · obtain ⟨d, l, ps, m, f, rfl, hp, hf, hx, k⟩ := h
    have nd := sc_PathReader_read_predicates.nd
    refine ⟨_, PSs.nox (pss_cons (ps_set (i := 1) nd rfl (.inl rfl) (pe_lst pa_nil))
      (pss_cons (ps_while PassesOwn.never (pt_cmpR op_eq (pe_ix ix_list (pe_fld (pv 0) rfl) (pe_fld (pv 0) rfl) (fun _ _ => rfl)) pe_str (nomark _))
        (pss_cons (ps_fldaug (pv 0) pe_int ip_add)
        (pss_cons (ps_expr (pe_bm PySem.F.plainAttrs_list PySem.F.slot_list_append PySem.F.type_list_append mt_append (pv 1) (pa_cons (pe_meth0 (E := E0) (pv 0) (cls_PathReader T) (m_PathReader_read_expression T) GE (hr.mono (by omega)) bE .nil pass0) pa_nil)))
        (pss_one (ps_expr (pe_meth (E := E0) (pv 0) (cls_PathReader T) (m_PathReader_expect_behind_operand T) GX (hr.mono (by omega)) bX .nil pass0 (pa_cons pe_str pa_nil)))))))
      (pss_one (ps_ret (pe_tupleOf (by rfl) (n_tuple T) (pv 1)))))), ?_⟩
    refine ⟨by decide, fun L hL => ?_⟩
    have m1 := MvR.same hp (same_new hL (o := .lst []))
    have hL1 : upd H L (.lst []) L = some (.lst []) := upd_same
    have hLr := ne_new hp hL
    generalize upd H L (.lst []) = H1 at m1 hL1 ⊢
    refine while_x (fun mm σ H2 => σ = [some (.ref d.r), some (.ref L)] ∧ ∃ (acc : List PyData) (ys : List V) (l' : List Tk), MvR K H H2 d l' ∧ H2 L = some (.lst ys) ∧ DtAll K H2 ys acc ∧ acc.length + mm ≤ 500000 ∧ prdN (ex d.z) mm acc l' = some (ps, m))
      (fun σ H2 => σ = [some (.ref d.r), some (.ref L)] ∧ ∃ ys : List V, MvR K H H2 d m ∧ H2 L = some (.lst ys) ∧ DtAll K H2 ys ps) ⟨f, rfl, [], [], l, m1, hL1, .nil, by simpa using hf, hx⟩ ?_ ?_
    · rintro σ H2 ⟨rfl, ys, m2, hL2, hd⟩
      exact ⟨_, rfl, .inl ⟨L, _, rfl, SqL.of hL2, fun q hq => k _ _ (m2.more (same_new hq)) (Dt.new hq hd)⟩⟩
    · rintro - mm σ H2 R ⟨rfl, acc, ys, l', m2, hL2, hd, hlen, hx⟩ hfin hbody
      cases mm with
      | zero => cases hx
      | succ f =>
      cases l' with
      | nil => cases hx
      | cons t r =>
      have hp2 := m2.2
      obtain ⟨j, g, hj, h2, h3, h5, h4⟩ := hp2
      refine ⟨_, rfl, d.r, CP K, d.dx, _, _, rfl, h2, cls_PathReader T, na_PathReader_kinds T, pr_kinds, _, rfl, d.r, CP K, d.dx, _, _, rfl, h2, cls_PathReader T, na_PathReader_at T, pr_at, d.M, _, (j : Int), _, rfl, rfl, SqL.of h5, atI_nat (kd_at hj), rfl, _, rfl, ?_⟩
      show R (decide (V.str (kdS t) = V.str (Str.ofString "["))) H2
      rw [kd_lit t [91]]
      unfold prdN at hx
      cases hk : kdL t == [91] with
      | false =>
        rw [hk, if_neg Bool.false_ne_true] at hx
        cases hx
        exact hfin _ ⟨rfl, ys, m2, hL2, hd⟩
      | true =>
        rw [hk, if_pos rfl] at hx
        refine hbody _ ?_
        refine ⟨_, rfl, d.r, CP K, d.dx, _, _, rfl, h2, cls_PathReader T, na_PathReader_at T, pr_at, _, _, rfl, rfl, d.dx, _, h2, (by show 5 < 1000; decide), ?_⟩
        rw [pr_put (i := j + 1) (by show ((j : Nat) : Int) + 1 = ((j + 1 : Nat) : Int); omega)]
        have mv3 := PR.go m2.2 (drop_one hj)
        generalize upd H2 _ _ = H3 at mv3 ⊢
        have hL3 := mv3.1 _ _ hLr hL2
        have m3 := m2.trans mv3
        have hd3 := Dt.keepAll (mv3.kt m2.2) _ _ hd
        obtain ⟨j3, h23⟩ := m3.2.rm
        refine ⟨_, rfl, .inl ⟨rfl, _, SqL.of hL3⟩, _, rfl, d.r, d.dx, _, rfl, h23, pr_no (by decide +kernel), d, r, rfl, m3.2, ?_⟩
        cases he1 : ex d.z r with
        | none => rw [he1] at hx; cases hx
        | some q =>
          obtain ⟨v, l4⟩ := q
          rw [he1] at hx
          dsimp only at hx
          intro H4 y mv4 hy
          have m4 := m3.trans mv4
          have hL4 := mv4.1 _ _ hLr hL3
          have hd4 := Dt.keepAll (mv4.kt m3.2) _ _ hd3
          have hyl := hd4.len
          refine ⟨L, ys, y, rfl, rfl, hL4, (by rw [sizeLine_eq]; omega), ?_⟩
          have kt5 : KT H4 (upd H4 L (.lst (ys ++ [y]))) := KT.up (nt_lst hL4)
          have m5 : MvR K H (upd H4 L (.lst (ys ++ [y]))) d l4 := m4.updN hp hL
          have hL5 : upd H4 L (.lst (ys ++ [y])) L = some (.lst (ys ++ [y])) := upd_same
          have hd5 := Dt.keepAll kt5 _ _ (DtAll.snoc hy hd4)
          generalize upd H4 L (.lst (ys ++ [y])) = H5 at m5 hL5 hd5 ⊢
          obtain ⟨j5, h25⟩ := m5.2.rm
          cases l4 with
          | nil => cases hx
          | cons u r4 =>
            unfold exN at hx
            dsimp only at hx
            cases hu : kdL u == [93] with
            | false => rw [hu, if_neg Bool.false_ne_true] at hx; cases hx
            | true =>
              rw [hu, if_pos rfl] at hx
              refine ⟨_, rfl, d.r, d.dx, _, rfl, h25, pr_no (by decide +kernel), d, u, r4, _, rfl, m5.2, eq_of_beq hu, fun H6 mv6 => ?_⟩
              exact ⟨f, by omega, rfl, acc ++ [v], ys ++ [y], r4, m5.trans mv6, mv6.1 _ _ hLr hL5, Dt.keepAll (mv6.kt m5.2) _ _ hd5, (by rw [List.length_append]; show _ + 1 + f ≤ _; omega), hx⟩
end
end PX
/-! PXRh -/
namespace PX
open PySem PySem.Spec PyProof.Rows L2 TL
theorem beq_comm' (a b : List Nat) : (a == b) = (b == a) := by
  by_cases h : a = b
  · subst h; rfl
  · rw [beq_eq_false_iff_ne.mpr h, beq_eq_false_iff_ne.mpr (Ne.symm h)]
section
variable {P : Program} {w : World} {K : PySem.W.Frag} {mg : Str → Option Value} {base : Heap}
def spSw (K : PySem.W.Frag) (ex : Str → List Tk → Rz) : Sp := fun vs H Q _ => ∃ (d : Rd0) (l : List Tk) (q : Addr) (ws : List Str), vs = [.ref d.r, .ref q] ∧ PR K H d l ∧ (∀ H', SqT K H' q (ws.map V.str)) ∧ rzC K d H Q (stwN (ws.map tl) (ex d.z) d.z l)
theorem ok_read_step_with (T : Tx w K mg) {e : Nat} (he : 4 ≤ e) {ex : Str → List Tk → Rz} (hE : OkX P w K mg base e ex) : Ok P w K mg base CX0 (e + 2) (He.fAd K d_PathReader_read_step_with.at_) p_PathReader_read_step_with (spSw K ex) := by
  obtain ⟨fd, F⟩ := f_PathReader_read_step_with T
  obtain ⟨fA, GA, bA, kA⟩ := ok_read_axis (P := P) (base := base) T
  obtain ⟨fT, GT, bT, kT⟩ := ok_read_test (P := P) (base := base) T
  obtain ⟨fP, GP, bP, kP⟩ := ok_read_predicates T he hE
  refine ⟨fd, ?_, b_PathReader_read_step_with F, F.kp⟩
  refine F.ok sc_PathReader_read_step_with (fun vs H Q E h => ?_) (fun cdv A outer s H vs Q E hr h => ?_)
  · obtain ⟨d, l, q, ws, rfl, _⟩ := h
    rfl
  · obtain ⟨d, l, q, ws, rfl, hp, hq, k⟩ := h
    have nd := sc_PathReader_read_step_with.nd
    unfold stwN at k
    cases hh : headN (ws.map tl) d.z l with
    | none => rw [hh] at k; exact k.elim
    | some hd =>
    obtain ⟨ax, ts, m⟩ := hd
    rw [hh] at k
    dsimp only at k
    refine ⟨_, PSs.nox (pss_cons (ps_set (i := 2) nd rfl (.inl rfl) pe_str)
      (Evl.pss_cut (ps_if (pw_and (pt_cmpR op_eq (pe_ix ix_list (pe_fld (pv 0) rfl) (pe_fld (pv 0) rfl) (fun _ _ => rfl)) pe_str (nomark _)) (pw_and1 (pt_cmpR op_notIn_seq (pe_ix ix_list (pe_fld (pv 0) rfl) (pe_op op_add (pe_fld (pv 0) rfl) pe_int) (fun _ _ => rfl)) (pe_glob (v := .ref (He.ga K "BEHIND_OTHER_NAMES")) (by rfl) (g_BEHIND_OTHER_NAMES T) rfl) (by rfl)))).pt
        (pss_cons (ps_set (i := 3) nd rfl (.inl rfl) (pe_tup (pa_cons pe_str (pa_cons (pe_ix ix_tup (pe_ix ix_list (pe_fld (pv 0) rfl) (pe_fld (pv 0) rfl) (fun _ _ => rfl)) pe_int (fun _ _ => rfl)) pa_nil))))
          (pss_one (ps_fldaug (pv 0) pe_int ip_add)))
        (pss_cons (ps_set (i := 2) nd rfl (.inl rfl) (pe_meth (E := E0) (pv 0) (cls_PathReader T) (m_PathReader_read_axis T) GA (hr.mono (by omega)) bA .nil pass0 (pa_cons (pv 1) pa_nil)))
          (pss_one (ps_set (i := 3) nd rfl (.inl rfl) (pe_meth0 (E := E0) (pv 0) (cls_PathReader T) (m_PathReader_read_test T) GT (hr.mono (by omega)) bT .nil pass0)))))
      (pss_cons (ps_set (i := 4) nd rfl (.inl rfl) (pe_ifExp (pt_cmpR op_eq (pe_ix ix_list (pe_fld (pv 0) rfl) (pe_fld (pv 0) rfl) (fun _ _ => rfl)) pe_str (nomark _)) (pe_meth0 (E := E0) (pv 0) (cls_PathReader T) (m_PathReader_read_predicates T) GP (hr.mono (by omega)) bP .nil pass0) (pe_tup pa_nil)))
      (pss_one (ps_ret (pe_tup (pa_cons (pv 2) (pa_cons (pv 3) (pa_cons (pv 4) pa_nil))))))))), ?_⟩
    match l, hp, hh with
    | [], _, hh => cases hh
    | [t], _, hh => cases hh
    | t :: u :: r, hp, hh =>
    have hp' := hp
    obtain ⟨j, g, hj, h2, h3, h5, h4⟩ := hp'
    refine ⟨fun σ H2 => ∃ v : V, σ = [some (.ref d.r), some (.ref q), some (.str (mkS ax)), some v, none] ∧ MvR K H H2 d m ∧ Dt K H2 v ts, ?_, ?_⟩
    · have other : (match axN (ws.map tl) (t :: u :: r) with
            | some (ax, l) => (testN d.z l).map fun q => (ax, q.1, q.2)
            | none => none) = some (ax, ts, m) → ∀ v2, ∃ y, [some (V.ref d.r), some (.ref q), some v2, none, none][1]? = some (some y) ∧ y = .ref q ∧ ∃ ax2 l2, axN (ws.map tl) (t :: u :: r) = some (ax2, l2) ∧ ax2 = ax ∧ testN d.z l2 = some (ts, m) := by
        intro h v2
        cases h1 : axN (ws.map tl) (t :: u :: r) with
        | none => rw [h1] at h; cases h
        | some a =>
          obtain ⟨ax2, l2⟩ := a
          rw [h1] at h
          dsimp only at h
          cases h9 : testN d.z l2 with
          | none => rw [h9] at h; cases h
          | some b =>
            obtain ⟨ts2, m2⟩ := b
            rw [h9] at h
            cases h
            exact ⟨_, rfl, rfl, _, _, rfl, rfl, h9⟩
      unfold headN at hh
      dsimp only at hh
      refine ⟨_, rfl, d.r, CP K, d.dx, _, _, rfl, h2, cls_PathReader T, na_PathReader_kinds T, pr_kinds, _, rfl, d.r, CP K, d.dx, _, _, rfl, h2, cls_PathReader T, na_PathReader_at T, pr_at, d.M, _, (j : Int), _, rfl, rfl, SqL.of h5, atI_nat (kd_at hj), rfl, _, rfl, ?_⟩
      show if decide (V.str (kdS t) = V.str (Str.ofString "name")) = true then _ else _
      rw [kd_lit t cNam]
      cases h1 : kdL t == cNam with
      | false =>
        rw [h1, Bool.false_and, if_neg Bool.false_ne_true] at hh
        refine iteF (iteF ?_)
        obtain ⟨_, _, _, ax2, l2, hax, rfl, hts⟩ := other hh (.str (Str.ofString "child"))
        refine ⟨_, rfl, d.r, d.dx, _, rfl, h2, pr_no (by decide +kernel), _, rfl, d, _, q, ws, ax2, l2, rfl, hp, hq, hax, fun H1 m1 => ?_⟩
        obtain ⟨j1, h21⟩ := m1.2.rm
        refine ⟨_, rfl, d.r, d.dx, _, rfl, h21, pr_no (by decide +kernel), d, l2, rfl, m1.2, ?_⟩
        rw [hts]
        exact fun H2 v m2 hv => ⟨v, rfl, m1.trans m2, hv⟩
      | true =>
        rw [h1, Bool.true_and] at hh
        refine iteT ?_
        refine ⟨_, rfl, d.r, CP K, d.dx, _, _, rfl, h2, cls_PathReader T, na_PathReader_kinds T, pr_kinds, _, rfl, d.r, CP K, d.dx, _, _, rfl, h2, cls_PathReader T, na_PathReader_at T, pr_at, _, _, rfl, rfl, d.M, _, (j : Int) + 1, _, rfl, rfl, SqL.of h5, (by rw [show ((j : Int) + 1) = ((j + 1 : Nat) : Int) by omega]; exact atI_nat (kd_at (drop_one hj))), ?_⟩
        refine ⟨He.ga K "BEHIND_OTHER_NAMES", _, rfl, .inr (strs_of (x_t_BEHIND_OTHER_NAMES T) (by decide) _), rfl, flat_strs _, ?_⟩
        rw [if_pos rfl]
        refine ⟨_, rfl, ?_⟩
        show if (!inV (.str (kdS u)) (tup_BEHIND_OTHER_NAMES.map V.str)) = true then _ else _
        rw [kd_in]
        change (if (!is1 (kdL u) (tup_BEHIND_OTHER_NAMES.map tl)) = true then _ else _) = _ at hh
        cases h7 : is1 (kdL u) (tup_BEHIND_OTHER_NAMES.map tl) with
        | true =>
          rw [h7, Bool.not_true, if_neg Bool.false_ne_true] at hh
          refine iteF ?_
          obtain ⟨_, _, _, ax2, l2, hax, rfl, hts⟩ := other hh (.str (Str.ofString "child"))
          refine ⟨_, rfl, d.r, d.dx, _, rfl, h2, pr_no (by decide +kernel), _, rfl, d, _, q, ws, ax2, l2, rfl, hp, hq, hax, fun H1 m1 => ?_⟩
          obtain ⟨j1, h21⟩ := m1.2.rm
          refine ⟨_, rfl, d.r, d.dx, _, rfl, h21, pr_no (by decide +kernel), d, l2, rfl, m1.2, ?_⟩
          rw [hts]
          exact fun H2 v m2 hv => ⟨v, rfl, m1.trans m2, hv⟩
        | false =>
          rw [h7, Bool.not_false, if_pos rfl] at hh
          cases hh
          refine iteT ?_
          obtain ⟨a, hv, ha⟩ := h4.at hj
          refine ⟨_, rfl, d.r, CP K, d.dx, _, _, rfl, h2, cls_PathReader T, na_PathReader_tokens T, pr_tokens, _, rfl, d.r, CP K, d.dx, _, _, rfl, h2, cls_PathReader T, na_PathReader_at T, pr_at, d.L, d.vs, (j : Int), _, rfl, rfl, SqL.of h3, atI_nat hv, ?_⟩
          refine ⟨a, _, 1, _, rfl, rfl, SqT.of ha, atI1 _ _ _, (by show 2 ≤ sizeLine; decide), fun p hpn => ?_⟩
          have s1 := same_new hpn (o := .tup [.str (Str.ofString "name"), .str (mkS t.2.1)])
          have hd1 : Dt K (upd H p (.tup [.str (Str.ofString "name"), .str (mkS t.2.1)])) (.ref p) (.tuple [dT "name", dW t.2.1]) := Dt.new hpn (.cons (.str _) (.cons (.str _) .nil))
          generalize upd H p (.tup [.str (Str.ofString "name"), .str (mkS t.2.1)]) = H1 at s1 hd1 ⊢
          have h21 := s1 _ _ h2
          refine ⟨_, rfl, d.r, CP K, d.dx, _, _, rfl, h21, cls_PathReader T, na_PathReader_at T, pr_at, _, _, rfl, rfl, d.dx, _, h21, (by show 5 < 1000; decide), ?_⟩
          have hp1 := hp.same s1
          rw [pr_put (i := j + 1) (by show ((j : Nat) : Int) + 1 = ((j + 1 : Nat) : Int); omega)]
          have m1 := PR.go hp1 (drop_one hj)
          generalize upd H1 _ _ = H2 at m1 ⊢
          exact ⟨_, rfl, ⟨(SameB.of s1).trans m1.1, m1.2⟩, Dt.keep (m1.kt hp1) _ _ hd1⟩
    · rintro σ H2 ⟨v, rfl, m2, hv⟩
      cases m with
      | nil => exact k.elim
      | cons y m =>
      have hl2 := m2.2.len
      have hp2 := m2.2
      obtain ⟨j2, g2, hj2, h22, h32, h52, h42⟩ := hp2
      unfold predsN at k
      dsimp only at k
      refine ⟨_, rfl, d.r, CP K, d.dx, _, _, rfl, h22, cls_PathReader T, na_PathReader_kinds T, pr_kinds, _, rfl, d.r, CP K, d.dx, _, _, rfl, h22, cls_PathReader T, na_PathReader_at T, pr_at, d.M, _, (j2 : Int), _, rfl, rfl, SqL.of h52, atI_nat (kd_at hj2), rfl, _, rfl, ?_⟩
      show if decide (V.str (kdS y) = V.str (Str.ofString "[")) = true then _ else _
      rw [kd_lit y [91]]
      cases h1 : kdL y == [91] with
      | false =>
        rw [h1, if_neg Bool.false_ne_true] at k
        refine iteF ?_
        refine ⟨(by decide), fun p hpn => ?_⟩
        have s3 := same_new hpn (o := .tup [])
        have hd3 : Dt K (upd H2 p (.tup [])) (.ref p) (.tuple []) := Dt.new hpn .nil
        generalize upd H2 p (.tup []) = H3 at s3 hd3 ⊢
        refine ⟨_, rfl, _, rfl, _, rfl, (by show 3 ≤ sizeLine; decide), fun p2 hp2n => ?_⟩
        exact k _ _ ((m2.more s3).more (same_new hp2n)) (Dt.new hp2n (.cons (.str _) (.cons (Dt.keep (KT.same s3) _ _ hv) (.cons hd3 .nil))))
      | true =>
        rw [h1, if_pos rfl] at k
        refine iteT ?_
        cases h7 : prdN (ex d.z) (m.length + 2) [] (y :: m) with
        | none => rw [h7] at k; exact k.elim
        | some b =>
          obtain ⟨ps, m3⟩ := b
          rw [h7] at k
          refine ⟨_, rfl, d.r, d.dx, _, rfl, h22, pr_no (by decide +kernel), d, _, ps, m3, _, rfl, m2.2, (by rw [List.length_cons] at hl2; omega), h7, fun H3 v3 mv3 hv3 => ?_⟩
          refine ⟨_, rfl, _, rfl, _, rfl, (by show 3 ≤ sizeLine; decide), fun p2 hp2n => ?_⟩
          exact k _ _ ((m2.trans mv3).more (same_new hp2n)) (Dt.new hp2n (.cons (.str _) (.cons (Dt.keep (mv3.kt m2.2) _ _ hv) (.cons hv3 .nil))))
def spXz (K : PySem.W.Frag) (f : Str → List Tk → Rz) : Sp := fun vs H Q _ => ∃ (d : Rd0) (l : List Tk), vs = [.ref d.r] ∧ PR K H d l ∧ rzC K d H Q (f d.z l)
theorem ok_read_step (T : Tx w K mg) {e : Nat} (he : 4 ≤ e) {ex : Str → List Tk → Rz} (hE : OkX P w K mg base e ex) : Ok P w K mg base CX0 (e + 3) (He.fAd K d_PathReader_read_step.at_) p_PathReader_read_step (spXz K fun z => stepN (ex z) z) := by
  obtain ⟨fd, F⟩ := f_PathReader_read_step T
  obtain ⟨fS, GS, bS, kS⟩ := ok_read_step_with T he hE
  refine ⟨fd, ?_, b_PathReader_read_step F, F.kp⟩
  refine F.ok sc_PathReader_read_step (fun vs H Q E h => ?_) (fun cdv A outer s H vs Q E hr h => ?_)
  · obtain ⟨d, l, rfl, _⟩ := h
    rfl
  · obtain ⟨d, l, rfl, hp, k⟩ := h
    have nd := sc_PathReader_read_step.nd
    cases l with
    | nil => exact k.elim
    | cons t r =>
    have hp' := hp
    obtain ⟨j, g, hj, h2, h3, h5, h4⟩ := hp'
    unfold stepN at k
    dsimp only at k
    refine ⟨_, PSs.nox (pss_cons (ps_set (i := 1) nd rfl (.inl rfl) (pe_ix ix_list (pe_fld (pv 0) rfl) (pe_fld (pv 0) rfl) (fun _ _ => rfl)))
      (pss_cons (ps_if (pt_cmpR op_in_seq (pv 1) (pe_tup (pa_cons pe_str (pa_cons pe_str pa_nil))) (by rfl))
        (pss_cons (ps_fldaug (pv 0) pe_int ip_add) (pss_one (ps_ret (pe_ifExp (pt_cmpR op_eq (pv 1) pe_str (nomark _)) (pe_glob (v := .ref (He.ga K "HERE")) (by rfl) (g_HERE T) rfl) (pe_glob (v := .ref (He.ga K "ABOVE")) (by rfl) (g_ABOVE T) rfl))))) pss_nil)
      (pss_cons (ps_if (pw_and (pt_cmpR op_eq (pv 1) pe_str (nomark _)) (pw_and1 pt_nev)).pt pss_no pss_nil)
      (pss_one (ps_ret (pe_meth (E := E0) (pv 0) (cls_PathReader T) (m_PathReader_read_step_with T) GS (hr.mono (by omega)) bS .nil pass0 (pa_cons (pe_glob (v := .ref (He.ga K "AXES")) (by rfl) (g_AXES T) rfl) pa_nil))))))), ?_⟩
    refine ⟨_, rfl, d.r, CP K, d.dx, _, _, rfl, h2, cls_PathReader T, na_PathReader_kinds T, pr_kinds, _, rfl, d.r, CP K, d.dx, _, _, rfl, h2, cls_PathReader T, na_PathReader_at T, pr_at, d.M, _, (j : Int), _, rfl, rfl, SqL.of h5, atI_nat (kd_at hj), ?_⟩
    refine ⟨_, rfl, (by decide), fun p hpn => ⟨p, _, rfl, .inr (SqT.of upd_same), rfl, rfl, ?_⟩⟩
    rw [if_neg Bool.false_ne_true]
    refine ⟨_, rfl, ?_⟩
    show if inV (.str (kdS t)) ((["." , ".."] : List Str).map V.str) = true then _ else _
    rw [kd_in]
    have s1 := same_new hpn (o := .tup [V.str (Str.ofString "."), V.str (Str.ofString "..")])
    generalize upd H p (.tup [V.str (Str.ofString "."), V.str (Str.ofString "..")]) = H1 at s1 ⊢
    have hin : is1 (kdL t) ((["." , ".."] : List Str).map tl) = (kdL t == [46] || kdL t == [46, 46]) := by
      show ([46] == kdL t || ([46, 46] == kdL t || false)) = _
      rw [Bool.or_false, beq_comm' [46], beq_comm' [46, 46]]
    rw [hin]
    have hp1 := hp.same s1
    have h21 := s1 _ _ h2
    have m1 := MvR.same hp s1
    cases ha : kdL t == [46] with
    | true =>
      rw [ha, if_pos rfl] at k
      refine iteT ?_
      refine ⟨_, rfl, d.r, CP K, d.dx, _, _, rfl, h21, cls_PathReader T, na_PathReader_at T, pr_at, _, _, rfl, rfl, d.dx, _, h21, (by show 5 < 1000; decide), ?_⟩
      rw [pr_put (i := j + 1) (by show ((j : Nat) : Int) + 1 = ((j + 1 : Nat) : Int); omega)]
      have m2 := PR.go hp1 (drop_one hj)
      generalize upd H1 _ _ = H2 at m2 ⊢
      refine ⟨_, rfl, rfl, _, rfl, ?_⟩
      show if decide (V.str (kdS t) = V.str (Str.ofString ".")) = true then _ else _
      rw [kd_lit t [46], ha]
      refine iteT ?_
      exact k _ _ (m1.trans m2) (dt_here T _)
    | false =>
      rw [ha, if_neg Bool.false_ne_true] at k
      cases hb : kdL t == [46, 46] with
      | true =>
        rw [hb, if_pos rfl] at k
        refine iteT ?_
        refine ⟨_, rfl, d.r, CP K, d.dx, _, _, rfl, h21, cls_PathReader T, na_PathReader_at T, pr_at, _, _, rfl, rfl, d.dx, _, h21, (by show 5 < 1000; decide), ?_⟩
        rw [pr_put (i := j + 1) (by show ((j : Nat) : Int) + 1 = ((j + 1 : Nat) : Int); omega)]
        have m2 := PR.go hp1 (drop_one hj)
        generalize upd H1 _ _ = H2 at m2 ⊢
        refine ⟨_, rfl, rfl, _, rfl, ?_⟩
        show if decide (V.str (kdS t) = V.str (Str.ofString ".")) = true then _ else _
        rw [kd_lit t [46], ha]
        refine iteF ?_
        exact k _ _ (m1.trans m2) (dt_above T _)
      | false =>
        rw [hb, if_neg Bool.false_ne_true] at k
        refine iteF ?_
        refine ⟨_, rfl, rfl, _, rfl, ?_⟩
        show if decide (V.str (kdS t) = V.str (Str.ofString "number")) = true then _ else _
        rw [kd_lit t cNum]
        cases hc : kdL t == cNum with
        | true =>
          rw [hc, if_pos rfl] at k
          exact k.elim
        | false =>
          rw [hc, if_neg Bool.false_ne_true] at k
          refine iteF (iteF ?_)
          refine ⟨_, rfl, d.r, d.dx, _, rfl, h21, pr_no (by decide +kernel), d, _, _, tup_AXES, rfl, hp1, fun H' => strs_of (x_t_AXES T) (by decide) H', ?_⟩
          exact rzC.mv hp m1 k
end
end PX
/-! PXRi -/
namespace PX
open PySem PySem.Spec PyProof.Rows L2 TL
section
variable {P : Program} {w : World} {K : PySem.W.Frag} {mg : Str → Option Value} {base : Heap}
/-- steps behind those of a list that is new against H0 -/
def spSs (K : PySem.W.Frag) (ex : Str → List Tk → Rz) : Sp := fun vs H Q _ => ∃ (d : Rd0) (H0 : Hp) (l0 l : List Tk) (L : Addr) (ys : List V) (acc res : List PyData) (m : List Tk) (f : Nat), vs = [.ref d.r, .ref L] ∧ PR K H0 d l0 ∧ H0 L = none ∧ MvR K H0 H d l ∧ H L = some (.lst ys) ∧ DtAll K H ys acc ∧ acc.length + 2 * f ≤ 2000000 ∧
  stepsN (ex d.z) d.z f acc l = some (res, m) ∧ ∀ H' zs, MvR K H0 H' d m → H' L = some (.lst zs) → DtAll K H' zs res → KT H H' → Q (.ref L) H'
theorem ok_read_steps (T : Tx w K mg) {e : Nat} (he : 4 ≤ e) {ex : Str → List Tk → Rz} (hE : OkX P w K mg base e ex) : Ok P w K mg base CX0 (e + 4) (He.fAd K d_PathReader_read_steps.at_) p_PathReader_read_steps (spSs K ex) := by
  obtain ⟨fd, F⟩ := f_PathReader_read_steps T
  obtain ⟨fS, GS, bS, kS⟩ := ok_read_step T he hE
  refine ⟨fd, ?_, b_PathReader_read_steps F, F.kp⟩
  refine F.ok sc_PathReader_read_steps (fun vs H Q E h => ?_) (fun cdv A outer s H vs Q E hr h => ?_)
  · obtain ⟨d, H0, l0, l, L, ys, acc, res, m, f, rfl, _⟩ := h
    rfl
  · obtain ⟨d, H0, l0, l, L, ys, acc, res, m, f, rfl, hp0, hL0, m1, hL, hd, hlen, hx, k⟩ := h
    have nd := sc_PathReader_read_steps.nd
    have hLr := ne_new hp0 hL0
    refine ⟨_, PSs.nox (pss_one (ps_while PassesOwn.never (pt_val pe_bl)
      (pss_cons (ps_expr (pe_bm PySem.F.plainAttrs_list PySem.F.slot_list_append PySem.F.type_list_append mt_append (pv 1) (pa_cons (pe_meth0 (E := E0) (pv 0) (cls_PathReader T) (m_PathReader_read_step T) GS (hr.mono (by omega)) bS .nil pass0) pa_nil)))
      (pss_cons (ps_set (i := 2) nd rfl (.inl rfl) (pe_ix ix_list (pe_fld (pv 0) rfl) (pe_fld (pv 0) rfl) (fun _ _ => rfl)))
      (Evl.pss_cut (ps_if (pt_cmpR op_eq (pv 2) pe_str (nomark _))
          (pss_one (ps_expr (pe_bm PySem.F.plainAttrs_list PySem.F.slot_list_append PySem.F.type_list_append mt_append (pv 1) (pa_cons (pe_glob (v := .ref (He.ga K "ANYTHING_BELOW")) (by rfl) (g_ANYTHING_BELOW T) rfl) pa_nil))))
          (pss_one (ps_if (pt_cmpR op_ne (pv 2) pe_str (nomark _)) (pss_one (ps_ret (pv 1))) pss_nil)))
      (pss_one (ps_fldaug (pv 0) pe_int ip_add))))))), ?_⟩
    refine while_x (fun mm σ H2 => ∃ (v2 : Option V) (acc : List PyData) (ys : List V) (l' : List Tk), σ = [some (.ref d.r), some (.ref L), v2] ∧ MvR K H0 H2 d l' ∧ H2 L = some (.lst ys) ∧ DtAll K H2 ys acc ∧ acc.length + 2 * mm ≤ 2000000 ∧ KT H H2 ∧ stepsN (ex d.z) d.z mm acc l' = some (res, m))
      (fun σ H2 => False) ⟨f, none, acc, ys, l, rfl, m1, hL, hd, hlen, KT.refl H, hx⟩ (fun _ _ h => h.elim) ?_
    rintro - mm σ H2 R ⟨v2, acc, ys, l', rfl, m2, hL2, hd, hlen, kt2, hx⟩ hfin hbody
    refine ⟨_, rfl, ?_⟩
    refine hbody _ ?_
    clear hfin hbody R
    cases mm with
    | zero => cases hx
    | succ f =>
    unfold stepsN at hx
    cases hst : stepN (ex d.z) d.z l' with
    | none => rw [hst] at hx; cases hx
    | some q =>
    obtain ⟨st, l3⟩ := q
    rw [hst] at hx
    cases l3 with
    | nil => cases hx
    | cons t r =>
    dsimp only at hx
    obtain ⟨j2, h22⟩ := m2.2.rm
    refine ⟨_, rfl, .inl ⟨rfl, _, SqL.of hL2⟩, _, rfl, d.r, d.dx, _, rfl, h22, pr_no (by decide +kernel), d, l', rfl, m2.2, ?_⟩
    show rzC K d H2 _ (stepN (ex d.z) d.z l')
    rw [hst]
    intro H3 y mv3 hy
    have m3 := m2.trans mv3
    have hL3 := mv3.1 _ _ hLr hL2
    have hd3 := Dt.keepAll (mv3.kt m2.2) _ _ hd
    have kt3 := kt2.trans (mv3.kt m2.2)
    have hyl := hd3.len
    refine ⟨L, ys, y, rfl, rfl, hL3, (by rw [sizeLine_eq]; omega), ?_⟩
    have kt4' : KT H3 (upd H3 L (.lst (ys ++ [y]))) := KT.up (nt_lst hL3)
    have m4 : MvR K H0 (upd H3 L (.lst (ys ++ [y]))) d (t :: r) := m3.updN hp0 hL0
    have hL4 : upd H3 L (.lst (ys ++ [y])) L = some (.lst (ys ++ [y])) := upd_same
    have hd4 := Dt.keepAll kt4' _ _ (DtAll.snoc hy hd3)
    have kt4 := kt3.trans kt4'
    generalize upd H3 L (.lst (ys ++ [y])) = H4 at m4 hL4 hd4 kt4 ⊢
    clear hd3 kt3 hL3 kt4' hy mv3 m3
    have hp4 := m4.2
    obtain ⟨j, g, hj, h2, h3, h5, h4⟩ := hp4
    refine ⟨_, rfl, d.r, CP K, d.dx, _, _, rfl, h2, cls_PathReader T, na_PathReader_kinds T, pr_kinds, _, rfl, d.r, CP K, d.dx, _, _, rfl, h2, cls_PathReader T, na_PathReader_at T, pr_at, d.M, _, (j : Int), _, rfl, rfl, SqL.of h5, atI_nat (kd_at hj), ?_⟩
    have hal : (acc ++ [st]).length = acc.length + 1 := by rw [List.length_append]; rfl
    refine ⟨fun σ H5 => ∃ (v2 : Option V) (acc : List PyData) (ys : List V), σ = [some (.ref d.r), some (.ref L), v2] ∧ MvR K H0 H5 d (t :: r) ∧ H5 L = some (.lst ys) ∧ DtAll K H5 ys acc ∧ acc.length + 2 * f ≤ 2000000 ∧ KT H H5 ∧ stepsN (ex d.z) d.z f acc r = some (res, m), ?_, ?_⟩
    · refine ⟨_, rfl, rfl, _, rfl, ?_⟩
      show if decide (V.str (kdS t) = V.str (Str.ofString "//")) = true then _ else _
      rw [kd_lit t [47, 47]]
      cases h1 : kdL t == [47, 47] with
      | true =>
        rw [h1, if_pos rfl] at hx
        refine iteT ?_
        refine ⟨_, rfl, .inl ⟨rfl, _, SqL.of hL4⟩, L, _, _, rfl, rfl, hL4, (by rw [sizeLine_eq, List.length_append]; show _ + 1 + 1 ≤ _; omega), ?_⟩
        have kt5' : KT H4 (upd H4 L (.lst (ys ++ [y] ++ [.ref (He.ga K "ANYTHING_BELOW")]))) := KT.up (nt_lst hL4)
        refine ⟨_, acc ++ [st] ++ [dAny], _, rfl, m4.updN hp0 hL0, upd_same, DtAll.snoc (dt_any T _) (Dt.keepAll kt5' _ _ hd4), ?_, kt4.trans kt5', hx⟩
        rw [List.length_append, hal]
        show acc.length + 1 + 1 + 2 * f ≤ _
        omega
      | false =>
        rw [h1, if_neg Bool.false_ne_true] at hx
        refine iteF ?_
        refine ⟨_, rfl, rfl, _, rfl, ?_⟩
        show if (!decide (V.str (kdS t) = V.str (Str.ofString "/"))) = true then _ else _
        rw [kd_ne]
        change (if (kdL t == tl (Str.ofString "/")) = true then _ else _) = _ at hx
        cases h7 : kdL t == tl (Str.ofString "/") with
        | true =>
          rw [h7, if_pos rfl] at hx
          refine iteF ?_
          exact ⟨_, acc ++ [st], _, rfl, m4, hL4, hd4, by omega, kt4, hx⟩
        | false =>
          rw [h7, if_neg Bool.false_ne_true] at hx
          cases hx
          refine iteT ?_
          exact ⟨_, rfl, k _ _ m4 hL4 hd4 kt4⟩
    · rintro σ H5 ⟨v5, acc5, ys5, rfl, m5, hL5, hd5, hlen5, kt5, hx5⟩
      have hp5 := m5.2
      obtain ⟨j5, g5, hj5, h25, h35, h55, h45⟩ := hp5
      refine ⟨_, rfl, d.r, CP K, d.dx, _, _, rfl, h25, cls_PathReader T, na_PathReader_at T, pr_at, _, _, rfl, rfl, d.dx, _, h25, (by show 5 < 1000; decide), ?_⟩
      rw [pr_put (i := j5 + 1) (by show ((j5 : Nat) : Int) + 1 = ((j5 + 1 : Nat) : Int); omega)]
      have mv6 := PR.go m5.2 (drop_one hj5)
      generalize upd H5 _ _ = H6 at mv6 ⊢
      exact ⟨f, by omega, v5, acc5, ys5, r, rfl, m5.trans mv6, mv6.1 _ _ hLr hL5, Dt.keepAll (mv6.kt m5.2) _ _ hd5, hlen5, kt5.trans (mv6.kt m5.2), hx5⟩
theorem op_eqNil {X : Cx} (hu : X.A.units < cLine) : OpR X (compareOp .Eq) (fun x y H Q => ∃ a b xs, x = .ref a ∧ y = .ref b ∧ SqL X.K H a xs ∧ SqL X.K H b [] ∧ Q (.bl xs.isEmpty) H) := by
  intro pins s σ H x y v u Q I rx ry h
  obtain ⟨a, b, xs, rfl, rfl, ha, hb, q⟩ := h
  cases rx
  cases ry
  obtain ⟨its, hv, hp, _⟩ := I.list ha
  obtain ⟨its2, hv2, hp2, _⟩ := I.list hb
  have l1 := Vals.length hv
  have l2 := Vals.length hv2
  rw [List.length_nil] at l2
  have fin : EP X pins σ Q (Value.bool xs.isEmpty) s := ⟨.bl xs.isEmpty, H, I, rfl, q⟩
  cases xs with
  | nil =>
    rw [List.length_nil] at l1
    refine SeqAt.RcAt.lists (e := fun _ => true) hp.isList hp2.isList ?_ hu ?_ X.prog X.w X.xe _ ?_
    · rw [List.size_toArray, List.size_toArray, ← l1, ← l2]
    · intro j h1 _
      rw [List.size_toArray, ← l1] at h1
      omega
    · rw [List.size_toArray, ← l1]
      exact fin
  | cons x xs =>
    rw [List.length_cons] at l1
    refine SeqAt.RcAt.lists_lengths hp.isList hp2.isList ?_ hu X.prog X.w X.xe _ fin
    rw [List.size_toArray, List.size_toArray, ← l1, ← l2]
    rfl
/-- a path with a list of steps that is new against H0 -/
theorem sts_of {K : PySem.W.Frag} {d : Rd0} {ex : List Tk → Rz} {z : Str} {start : PyData} {acc : List PyData} {l : List Tk} {H : Hp} {Q : VK} (k : rzC K d H Q (stsN ex z start acc l)) : ∃ res m, stepsN ex z (l.length + 1) acc l = some (res, m) ∧ ∀ H' v, MvR K H H' d m → Dt K H' v (dPath start res) → Q v H' := by
  unfold stsN at k
  cases h : stepsN ex z (l.length + 1) acc l with
  | none => rw [h] at k; exact k.elim
  | some q =>
    rw [h] at k
    exact ⟨q.1, q.2, rfl, k⟩
theorem ok_read_rooted (T : Tx w K mg) {e : Nat} (he : 4 ≤ e) {ex : Str → List Tk → Rz} (hE : OkX P w K mg base e ex) : Ok P w K mg base CX0 (e + 5) (He.fAd K d_PathReader_read_rooted.at_) p_PathReader_read_rooted (spXz K fun z => rootN (ex z) z) := by
  obtain ⟨fd, F⟩ := f_PathReader_read_rooted T
  obtain ⟨fL, GL, bL, kL⟩ := ok_read_slash (P := P) (base := base) T
  obtain ⟨fB, GB, bB, kB⟩ := ok_begins_step (P := P) (base := base) T
  obtain ⟨fS, GS, bS, kS⟩ := ok_read_steps T he hE
  refine ⟨fd, ?_, b_PathReader_read_rooted F, F.kp⟩
  refine F.ok sc_PathReader_read_rooted (fun vs H Q E h => ?_) (fun cdv A outer s H vs Q E hr h => ?_)
  · obtain ⟨d, l, rfl, _⟩ := h
    rfl
  · obtain ⟨d, l, rfl, hp, k⟩ := h
    have nd := sc_PathReader_read_rooted.nd
    match l, hp, k with
    | [], _, k => exact k.elim
    | [t], _, k => exact k.elim
    | t :: u :: r, hp, k =>
    have k : rzC K d H Q (if (t.2.1 == [47, 47] || begN u) = true then stsN (ex d.z) d.z (dT "root") (slashN t) (u :: r) else some (dPath (dT "root") [], u :: r)) := k
    refine ⟨_, PSs.nox (pss_cons (ps_set (i := 1) nd rfl (.inl rfl) (pe_meth0 (E := E0) (pv 0) (cls_PathReader T) (m_PathReader_read_slash T) GL (hr.mono (by omega)) bL .nil pass0))
      (Evl.pss_cut (ps_if (pw_and (pt_cmpR (op_eqNil (Nat.lt_of_le_of_lt (Nat.le_add_right _ 64) hr.units)) (pv 1) (pe_lst pa_nil) (nomark _)) (pw_and1 (pt_not (pt_val (pe_meth0 (E := E0) (pv 0) (cls_PathReader T) (m_PathReader_begins_step T) GB (hr.mono (by omega)) bB .nil pass0))))).pt
        (pss_one (ps_ret (pe_tup (pa_cons pe_str (pa_cons pe_str (pa_cons (pe_tup pa_nil) pa_nil)))))) pss_nil)
      (pss_one (ps_ret (pe_tup (pa_cons pe_str (pa_cons pe_str (pa_cons (pe_tupleOf (by rfl) (n_tuple T) (pe_meth (E := E0) (pv 0) (cls_PathReader T) (m_PathReader_read_steps T) GS (hr.mono (by omega)) bS .nil pass0 (pa_cons (pv 1) pa_nil))) pa_nil)))))))), ?_⟩
    obtain ⟨j, h2⟩ := hp.rm
    refine ⟨_, rfl, d.r, d.dx, _, rfl, h2, pr_no (by decide +kernel), d, t, u :: r, rfl, hp, fun H1 L ys m1 hL0 hL hd => ?_⟩
    have hl1 := m1.2.len
    refine ⟨fun σ H3 => σ = [some (.ref d.r), some (.ref L)] ∧ MvR K H H3 d (u :: r) ∧ H3 L = some (.lst ys) ∧ DtAll K H3 ys (slashN t) ∧ rzC K d H Q (stsN (ex d.z) d.z (dT "root") (slashN t) (u :: r)), ?_, ?_⟩
    · refine ⟨_, rfl, (by decide), fun p hpn => ?_⟩
      have s2 := same_new hpn (o := .lst [])
      have hb : upd H1 p (.lst []) p = some (.lst []) := upd_same
      generalize upd H1 p (.lst []) = H2 at s2 hb ⊢
      have m2 := m1.more s2
      have hL2 := s2 _ _ hL
      have hd2 := Dt.keepAll (KT.same s2) _ _ hd
      have hyl := hd2.len
      obtain ⟨j2, h22⟩ := m2.2.rm
      refine ⟨L, p, ys, rfl, rfl, SqL.of hL2, SqL.of hb, _, rfl, ?_⟩
      unfold slashN at hyl
      cases h1 : t.2.1 == [47, 47] with
      | true =>
        rw [h1, if_pos rfl] at hyl
        rw [h1, Bool.true_or, if_pos rfl] at k
        have : ys.isEmpty = false := by
          cases ys with
          | nil => cases hyl
          | cons => rfl
        rw [this]
        refine iteF (iteF ?_)
        exact ⟨rfl, m2, hL2, hd2, k⟩
      | false =>
        rw [h1, if_neg Bool.false_ne_true] at hyl
        rw [h1, Bool.false_or] at k
        have : ys.isEmpty = true := by
          cases ys with
          | nil => rfl
          | cons => cases hyl
        rw [this]
        refine iteT ?_
        refine ⟨_, rfl, d.r, d.dx, _, rfl, h22, pr_no (by decide +kernel), d, u, r, rfl, m2.2, fun H3 s3 => ⟨_, rfl, ?_⟩⟩
        cases h7 : begN u with
        | true =>
          rw [h7, if_pos rfl] at k
          refine iteF ?_
          exact ⟨rfl, m2.more s3, s3 _ _ hL2, Dt.keepAll (KT.same s3) _ _ hd2, k⟩
        | false =>
          rw [h7, if_neg Bool.false_ne_true] at k
          refine iteT ?_
          refine ⟨(by decide), fun q1 hq1 => ⟨(by show 3 ≤ sizeLine; decide), fun q2 hq2 => ?_⟩⟩
          exact k _ _ ((((m2.more s3).more (same_new hq1))).more (same_new hq2)) (Dt.new hq2 (.cons (.str _) (.cons (.str _) (.cons (Dt.new hq1 .nil) .nil))))
    · rintro σ H3 ⟨rfl, m3, hL3, hd3, k3⟩
      obtain ⟨res, m, hx, k4⟩ := sts_of k3
      obtain ⟨j3, h23⟩ := m3.2.rm
      have hl3 := m3.2.len
      refine ⟨_, rfl, d.r, d.dx, _, rfl, h23, pr_no (by decide +kernel), _, rfl, d, H, _, _, L, ys, _, res, m, _, rfl, hp, hL0, m3, hL3, hd3, ?_, hx, fun H4 zs m4 hL4 hd4 _ => ?_⟩
      · have : (slashN t).length ≤ 1 := by
          unfold slashN
          split <;> decide
        omega
      · refine .inl ⟨L, zs, rfl, SqL.of hL4, fun q1 hq1 => ⟨(by show 3 ≤ sizeLine; decide), fun q2 hq2 => ?_⟩⟩
        exact k4 _ _ ((m4.more (same_new hq1)).more (same_new hq2)) (Dt.new hq2 (.cons (.str _) (.cons (.str _) (.cons (Dt.new hq1 hd4) .nil))))
end
end PX
/-! PXRj -/
namespace PX
open PySem PySem.Spec PyProof.Rows L2 TL
section
variable {P : Program} {w : World} {K : PySem.W.Frag} {mg : Str → Option Value} {base : Heap}
def spBh (K : PySem.W.Frag) (ex : Str → List Tk → Rz) : Sp := fun vs H Q _ => ∃ (d : Rd0) (l : List Tk) (v : V) (t : PyData), vs = [.ref d.r, v] ∧ PR K H d l ∧ Dt K H v t ∧ rzC K d H Q (behN (ex d.z) d.z t l)
theorem ok_read_behind (T : Tx w K mg) {e : Nat} (he : 4 ≤ e) {ex : Str → List Tk → Rz} (hE : OkX P w K mg base e ex) : Ok P w K mg base CX0 (e + 5) (He.fAd K d_PathReader_read_behind.at_) p_PathReader_read_behind (spBh K ex) := by
  obtain ⟨fd, F⟩ := f_PathReader_read_behind T
  obtain ⟨fL, GL, bL, kL⟩ := ok_read_slash (P := P) (base := base) T
  obtain ⟨fP, GP, bP, kP⟩ := ok_read_predicates T he hE
  obtain ⟨fS, GS, bS, kS⟩ := ok_read_steps T he hE
  refine ⟨fd, ?_, b_PathReader_read_behind F, F.kp⟩
  refine F.ok sc_PathReader_read_behind (fun vs H Q E h => ?_) (fun cdv A outer s H vs Q E hr h => ?_)
  · obtain ⟨d, l, v, t, rfl, _⟩ := h
    rfl
  · obtain ⟨d, l, v, t, rfl, hp, hv, k⟩ := h
    have nd := sc_PathReader_read_behind.nd
    cases l with
    | nil => exact k.elim
    | cons y r =>
    have hp' := hp
    have hl0 := hp.len
    obtain ⟨j, g, hj, h2, h3, h5, h4⟩ := hp'
    unfold behN at k
    dsimp only at k
    refine ⟨_, PSs.nox (pss_cons (ps_set (i := 2) nd rfl (.inl rfl) (pe_ix ix_list (pe_fld (pv 0) rfl) (pe_fld (pv 0) rfl) (fun _ _ => rfl)))
      (Evl.pss_cut (ps_if (pt_cmpR op_eq (pv 2) pe_str (nomark _))
        (pss_cons (ps_set (i := 1) nd rfl (.inl rfl) (pe_tup (pa_cons pe_str (pa_cons (pv 1) (pa_cons (pe_meth0 (E := E0) (pv 0) (cls_PathReader T) (m_PathReader_read_predicates T) GP (hr.mono (by omega)) bP .nil pass0) pa_nil)))))
          (pss_one (ps_set (i := 2) nd rfl (.inl rfl) (pe_ix ix_list (pe_fld (pv 0) rfl) (pe_fld (pv 0) rfl) (fun _ _ => rfl))))) pss_nil)
      (Evl.pss_cut (ps_if (pw_and (pt_cmpR op_ne (pv 2) pe_str (nomark _)) (pw_and1 (pt_cmpR op_ne (pv 2) pe_str (nomark _)))).pt (pss_one (ps_ret (pv 1))) pss_nil)
      (pss_cons (ps_set (i := 3) nd rfl (.inl rfl) (pe_meth0 (E := E0) (pv 0) (cls_PathReader T) (m_PathReader_read_slash T) GL (hr.mono (by omega)) bL .nil pass0))
      (pss_one (ps_ret (pe_tup (pa_cons pe_str (pa_cons (pv 1) (pa_cons (pe_tupleOf (by rfl) (n_tuple T) (pe_meth (E := E0) (pv 0) (cls_PathReader T) (m_PathReader_read_steps T) GS (hr.mono (by omega)) bS .nil pass0 (pa_cons (pv 3) pa_nil))) pa_nil)))))))))), ?_⟩
    refine ⟨_, rfl, d.r, CP K, d.dx, _, _, rfl, h2, cls_PathReader T, na_PathReader_kinds T, pr_kinds, _, rfl, d.r, CP K, d.dx, _, _, rfl, h2, cls_PathReader T, na_PathReader_at T, pr_at, d.M, _, (j : Int), _, rfl, rfl, SqL.of h5, atI_nat (kd_at hj), ?_⟩
    refine ⟨fun σ H2 => ∃ (v2 : V) (t2 : PyData) (y : Tk) (m : List Tk), σ = [some (.ref d.r), some v2, some (.str (kdS y)), none] ∧ MvR K H H2 d (y :: m) ∧ Dt K H2 v2 t2 ∧ rzC K d H Q (behN2 (ex d.z) d.z t2 (y :: m)), ?_, ?_⟩
    · refine ⟨_, rfl, rfl, _, rfl, ?_⟩
      show if decide (V.str (kdS y) = V.str (Str.ofString "[")) = true then _ else _
      rw [kd_lit y [91]]
      cases h1 : kdL y == [91] with
      | false =>
        rw [h1, if_neg Bool.false_ne_true] at k
        refine iteF ?_
        exact ⟨v, t, y, r, rfl, MvR.refl hp, hv, k⟩
      | true =>
        rw [h1, if_pos rfl] at k
        refine iteT ?_
        cases h7 : prdN (ex d.z) (r.length + 2) [] (y :: r) with
        | none => rw [h7] at k; exact k.elim
        | some b =>
          obtain ⟨ps, m⟩ := b
          rw [h7] at k
          dsimp only at k
          refine ⟨_, rfl, _, rfl, d.r, d.dx, _, rfl, h2, pr_no (by decide +kernel), d, _, ps, m, _, rfl, hp, (by rw [List.length_cons] at hl0; omega), h7, fun H3 v3 m3 hv3 => ?_⟩
          refine ⟨(by show 3 ≤ sizeLine; decide), fun p hpn => ?_⟩
          have s4 := same_new hpn (o := .tup [.str (Str.ofString "filter"), v, v3])
          have hd4 : Dt K (upd H3 p (.tup [.str (Str.ofString "filter"), v, v3])) (.ref p) (.tuple [dT "filter", t, .tuple ps]) := Dt.new hpn (.cons (.str _) (.cons (Dt.keep (m3.kt hp) _ _ hv) (.cons hv3 .nil)))
          generalize upd H3 p (.tup [.str (Str.ofString "filter"), v, v3]) = H4 at s4 hd4 ⊢
          have m4 := m3.more s4
          cases m with
          | nil => exact k.elim
          | cons u m =>
          have hp4 := m4.2
          obtain ⟨j4, g4, hj4, h24, h34, h54, h44⟩ := hp4
          refine ⟨_, rfl, d.r, CP K, d.dx, _, _, rfl, h24, cls_PathReader T, na_PathReader_kinds T, pr_kinds, _, rfl, d.r, CP K, d.dx, _, _, rfl, h24, cls_PathReader T, na_PathReader_at T, pr_at, d.M, _, (j4 : Int), _, rfl, rfl, SqL.of h54, atI_nat (kd_at hj4), ?_⟩
          exact ⟨_, _, u, m, rfl, m4, hd4, k⟩
    · rintro σ H2 ⟨v2, t2, y, m, rfl, m2, hv2, k⟩
      unfold behN2 at k
      dsimp only at k
      change rzC K d H Q (if (kdL y == tl (Str.ofString "/") || kdL y == tl (Str.ofString "//")) = true then _ else _) at k
      refine ⟨fun σ H3 => σ = [some (.ref d.r), some v2, some (.str (kdS y)), none] ∧ H3 = H2 ∧ rzC K d H Q (stsN (ex d.z) d.z t2 (slashN y) m), ?_, ?_⟩
      · refine ⟨_, rfl, rfl, _, rfl, ?_⟩
        show if (!decide (V.str (kdS y) = V.str (Str.ofString "/"))) = true then _ else _
        rw [kd_ne]
        cases h1 : kdL y == tl (Str.ofString "/") with
        | true =>
          rw [h1, Bool.true_or, if_pos rfl] at k
          refine iteF (iteF ?_)
          exact ⟨rfl, rfl, k⟩
        | false =>
          rw [h1, Bool.false_or] at k
          refine iteT ?_
          refine ⟨_, rfl, rfl, _, rfl, ?_⟩
          show if (!decide (V.str (kdS y) = V.str (Str.ofString "//"))) = true then _ else _
          rw [kd_ne]
          cases h7 : kdL y == tl (Str.ofString "//") with
          | true =>
            rw [h7, if_pos rfl] at k
            refine iteF ?_
            exact ⟨rfl, rfl, k⟩
          | false =>
            rw [h7, if_neg Bool.false_ne_true] at k
            refine iteT ?_
            exact ⟨_, rfl, k _ _ m2 hv2⟩
      · rintro σ H3 ⟨rfl, rfl, k3⟩
        obtain ⟨res, m', hx, k4⟩ := sts_of k3
        obtain ⟨j2, h22⟩ := m2.2.rm
        refine ⟨_, rfl, d.r, d.dx, _, rfl, h22, pr_no (by decide +kernel), d, y, m, rfl, m2.2, fun H3 L ys m3 hL0 hL hd => ?_⟩
        have hl3 := m3.2.len
        obtain ⟨j3, h23⟩ := m3.2.rm
        have hL00 := m2.1.free hp.ne m2.2.ne hL0
        refine ⟨_, rfl, _, rfl, d.r, d.dx, _, rfl, h23, pr_no (by decide +kernel), _, rfl, d, H, _, _, L, ys, _, res, m', _, rfl, hp, hL00, m2.trans m3, hL, hd, ?_, hx, fun H4 zs m4 hL4 hd4 kt4 => ?_⟩
        · have : (slashN y).length ≤ 1 := by
            unfold slashN
            split <;> decide
          omega
        · refine .inl ⟨L, zs, rfl, SqL.of hL4, fun q1 hq1 => ⟨(by show 3 ≤ sizeLine; decide), fun q2 hq2 => ?_⟩⟩
          have hv4 := Dt.keep ((m3.kt m2.2).trans kt4) _ _ hv2
          exact k4 _ _ ((m4.more (same_new hq1)).more (same_new hq2)) (Dt.new hq2 (.cons (.str _) (.cons (Dt.keep (KT.same (same_new hq1)) _ _ hv4) (.cons (Dt.new hq1 hd4) .nil))))
end
end PX
/-! PXRk -/
namespace PX
open PySem PySem.Spec PyProof.Rows L2 TL
def optV : Option Int → V
  | none => .non
  | some i => .int i
theorem optV_eq (K : PySem.W.Frag) (o : Option Int) : (optD o).v K = optV o := by cases o <;> rfl
theorem MvR.fresh {K : PySem.W.Frag} {H H1 : Hp} {d : Rd0} {l m : List Tk} {p : Addr} (h : PR K H d l) (a : MvR K H H1 d m) (hp : H1 p = none) : H p = none := a.1.free h.ne a.2.ne hp
section
variable {P : Program} {w : World} {K : PySem.W.Frag} {mg : Str → Option Value} {base : Heap}
theorem ok_read_call (T : Tx w K mg) {e : Nat} (he : 4 ≤ e) {ex : Str → List Tk → Rz} (hE : OkX P w K mg base e ex) : Ok P w K mg base CX0 (e + 1) (He.fAd K d_PathReader_read_call.at_) p_PathReader_read_call (spXz K fun z => callN (ex z)) := by
  obtain ⟨fd, F⟩ := f_PathReader_read_call T
  obtain ⟨fE, GE, bE, kE⟩ := hE
  obtain ⟨fT, GT, bT, kT⟩ := ok_take (P := P) (base := base) T
  obtain ⟨fX, GX, bX, kX⟩ := ok_expect (P := P) (base := base) T
  obtain ⟨fY, GY, bY, kY⟩ := ok_expect_behind_operand (P := P) (base := base) T
  refine ⟨fd, ?_, b_PathReader_read_call F, F.kp⟩
  refine F.ok sc_PathReader_read_call (fun vs H Q E h => ?_) (fun cdv A outer s H vs Q E hr h => ?_)
  · obtain ⟨d, l, rfl, _⟩ := h
    rfl
  · obtain ⟨d, l, rfl, hp, k⟩ := h
    have nd := sc_PathReader_read_call.nd
    refine ⟨_, PSs.nox (pss_cons (ps_set (i := 1) nd rfl (.inl rfl) (pe_ix ix_tup (pe_meth0 (E := E0) (pv 0) (cls_PathReader T) (m_PathReader_take T) GT (hr.mono (by omega)) bT .nil pass0) pe_int (fun _ _ => rfl)))
      (pss_cons (ps_fldaug (pv 0) pe_int ip_add)
      (pss_cons (ps_asg (pe_ix ix_kdict (pe_glob (v := .ref (He.ga K "FUNCTIONS")) (by rfl) (g_FUNCTIONS T) rfl) (pv 1) (fun _ _ => rfl)) (pg_tup (by rfl) (pgs_cons (pg_name (i := 2) nd rfl (.inl rfl)) (pgs_cons (pg_name (i := 3) nd rfl (.inl rfl)) pgs_nil))))
      (Evl.pss_cut (ps_if (pw_or (pt_cmpR op_eq (pv 3) pe_int (nomark _)) (pw_or1 (pw_and (pt_cmpR op_eq (pv 2) pe_int (nomark _)) (pw_and1 (pt_cmpR op_eq (pe_ix ix_list (pe_fld (pv 0) rfl) (pe_fld (pv 0) rfl) (fun _ _ => rfl)) pe_str (nomark _)))).pt)).pt
        (pss_cons (ps_expr (pe_meth (E := E0) (pv 0) (cls_PathReader T) (m_PathReader_expect T) GX (hr.mono (by omega)) bX .nil pass0 (pa_cons pe_str pa_nil)))
          (pss_one (ps_ret (pe_tup (pa_cons pe_str (pa_cons (pv 1) (pa_cons (pe_tup pa_nil) pa_nil))))))) pss_nil)
      (pss_cons (ps_set (i := 4) nd rfl (.inl rfl) (pe_lst (pa_cons (pe_meth0 (E := E0) (pv 0) (cls_PathReader T) (m_PathReader_read_expression T) GE (hr.mono (by omega)) bE .nil pass0) pa_nil)))
      (pss_cons (ps_while PassesOwn.never (pw_or (pt_cmpR op_lt (pe_callB call_len (by rfl) (n_len T) PySem.boot_len (pa_cons (pv 4) pa_nil)) (pv 2) (nomark _))
          (pw_or1 (pw_and (pt_cmpR op_eq (pe_ix ix_list (pe_fld (pv 0) rfl) (pe_fld (pv 0) rfl) (fun _ _ => rfl)) pe_str (nomark _))
            (pw_and1 (pw_or (pt_cmpR op_isN (pv 3) pe_non (nomark _)) (pw_or1 (pt_cmpR op_lt (pe_callB call_len (by rfl) (n_len T) PySem.boot_len (pa_cons (pv 4) pa_nil)) (pv 3) (nomark _)))).pt)).pt)).pt
        (pss_cons (ps_expr (pe_meth (E := E0) (pv 0) (cls_PathReader T) (m_PathReader_expect_behind_operand T) GY (hr.mono (by omega)) bY .nil pass0 (pa_cons pe_str pa_nil)))
        (pss_one (ps_expr (pe_bm PySem.F.plainAttrs_list PySem.F.slot_list_append PySem.F.type_list_append mt_append (pv 4) (pa_cons (pe_meth0 (E := E0) (pv 0) (cls_PathReader T) (m_PathReader_read_expression T) GE (hr.mono (by omega)) bE .nil pass0) pa_nil))))))
      (pss_cons (ps_expr (pe_meth (E := E0) (pv 0) (cls_PathReader T) (m_PathReader_expect_behind_operand T) GY (hr.mono (by omega)) bY .nil pass0 (pa_cons pe_str pa_nil)))
      (pss_one (ps_ret (pe_tup (pa_cons pe_str (pa_cons (pv 1) (pa_cons (pe_tupleOf (by rfl) (n_tuple T) (pv 4)) pa_nil)))))))))))))
      , ?_⟩
    match l, hp, k with
    | [], _, k => exact k.elim
    | [t], _, k => exact k.elim
    | [t, t2], _, k => exact k.elim
    | t :: t2 :: u :: m, hp, k =>
      unfold callN at k
      dsimp only at k
      cases hf : fnLook t.2.1 with
      | none => rw [hf] at k; exact k.elim
      | some x =>
        rw [hf] at k
        dsimp only at k
        obtain ⟨uu, e1, e2⟩ := fn_in T hf
        obtain ⟨es, n, D⟩ := He.dicW_ok T.tab_FUNCTIONS
        have sq := tup_of e2 (by show 2 ≤ sizeLine; decide)
        obtain ⟨j, h2⟩ := hp.rm
        refine ⟨_, rfl, d.r, d.dx, _, rfl, h2, pr_no (by decide +kernel), d, t, t2 :: u :: m, rfl, hp, fun H1 a ha m1 => ⟨a, _, 1, _, rfl, rfl, SqT.of ha, atI1 _ _ _, ?_⟩⟩
        have hp1 := m1.2
        obtain ⟨j1, g1, hj1, h21, h31, h51, h41⟩ := hp1
        refine ⟨_, rfl, d.r, CP K, d.dx, _, _, rfl, h21, cls_PathReader T, na_PathReader_at T, pr_at, _, _, rfl, rfl, d.dx, _, h21, (by show 5 < 1000; decide), ?_⟩
        rw [pr_put (i := j1 + 1) (by show ((j1 : Nat) : Int) + 1 = ((j1 + 1 : Nat) : Int); omega)]
        have mv2 := PR.go m1.2 (drop_one hj1)
        generalize upd H1 _ _ = H2 at mv2 ⊢
        have m2 := m1.trans mv2
        refine ⟨_, rfl, He.ga K "FUNCTIONS", mkS t.2.1, .ref uu, rfl, rfl, ⟨es, n, .ref uu, D.at_, D.lit, e1, rfl⟩, uu, _, rfl, sq _, rfl, _, _, rfl, _, _, rfl, rfl, ?_⟩
        refine ⟨fun σ H3 => σ = [some (.ref d.r), some (.str (mkS t.2.1)), some (.int x.1), some (optV x.2), none] ∧ MvR K H H3 d (u :: m) ∧ ∃ (v0 : PyData) (l0 : List Tk) (args : List PyData) (l1 : List Tk), ex d.z (u :: m) = some (v0, l0) ∧ argN (ex d.z) x (l0.length + 1) [v0] l0 = some (args, l1) ∧ rzC K d H Q (some (.tuple [dT "call", dW t.2.1, .tuple args], l1)), ?_, ?_⟩
        · have hsc : scal ((optD x.2).v K) (.int 0) = true := by cases x.2 <;> rfl
          have hdc : decide ((optD x.2).v K = V.int 0) = decide (x.2 = some 0) := by
            cases x.2 with
            | none => rfl
            | some i =>
              show decide (V.int i = V.int 0) = decide (some i = some 0)
              by_cases h : i = 0
              · rw [h]
                rfl
              · rw [decide_eq_false (fun q => h (V.int.inj q)), decide_eq_false (fun q => h (Option.some.inj q))]
          have hdl : decide (V.int x.1 = V.int 0) = decide (x.1 = 0) := by
            by_cases h : x.1 = 0
            · rw [h]
              rfl
            · rw [decide_eq_false (fun q => h (V.int.inj q)), decide_eq_false h]
          have xk : rzC K d H Q ((exN [41] (u :: m)).map fun l => (.tuple [dT "call", dW t.2.1, .tuple []], l)) → kdL u = [41] ∧ rzC K d H Q (some (.tuple [dT "call", dW t.2.1, .tuple []], m)) := by
            intro hh
            unfold exN at hh
            dsimp only at hh
            cases c : kdL u == [41] with
            | false => rw [c, if_neg Bool.false_ne_true] at hh; exact hh.elim
            | true =>
              rw [c, if_pos rfl] at hh
              exact ⟨eq_of_beq c, hh⟩
          have nx : rzC K d H Q (match ex d.z (u :: m) with
              | some (v, l) => (argN (ex d.z) x (l.length + 1) [v] l).map fun q => (.tuple [dT "call", dW t.2.1, .tuple q.1], q.2)
              | none => none) → ∃ (v0 : PyData) (l0 : List Tk) (args : List PyData) (l1 : List Tk), ex d.z (u :: m) = some (v0, l0) ∧ argN (ex d.z) x (l0.length + 1) [v0] l0 = some (args, l1) ∧ rzC K d H Q (some (.tuple [dT "call", dW t.2.1, .tuple args], l1)) := by
            intro hh
            cases c : ex d.z (u :: m) with
            | none => rw [c] at hh; exact hh.elim
            | some q =>
              obtain ⟨v0, l0⟩ := q
              rw [c] at hh
              dsimp only at hh
              cases c2 : argN (ex d.z) x (l0.length + 1) [v0] l0 with
              | none => rw [c2] at hh; exact hh.elim
              | some b =>
                rw [c2] at hh
                exact ⟨v0, l0, b.1, b.2, rfl, c2, hh⟩
          have hp2 := m2.2
          obtain ⟨j2, g2, hj2, h22, h32, h52, h42⟩ := hp2
          refine ⟨_, rfl, hsc, _, rfl, ?_⟩
          show if decide ((optD x.2).v K = V.int 0) = true then _ else _
          rw [hdc]
          cases c1 : decide (x.2 = some 0) with
          | true =>
            rw [c1, Bool.true_or, if_pos rfl] at k
            obtain ⟨hu, k⟩ := xk k
            refine iteT (iteT ?_)
            refine ⟨_, rfl, d.r, d.dx, _, rfl, h22, pr_no (by decide +kernel), d, u, m, _, rfl, m2.2, hu, fun H4 mv4 => ?_⟩
            refine ⟨_, rfl, by decide, fun p5 hp5 => ⟨(by show 3 ≤ sizeLine; decide), fun p6 hp6 => ?_⟩⟩
            exact k _ _ (((m2.trans mv4).more (same_new hp5)).more (same_new hp6)) (Dt.new hp6 (.cons (.str _) (.cons (.str _) (.cons (Dt.new hp5 .nil) .nil))))
          | false =>
            rw [c1, Bool.false_or] at k
            refine iteF ?_
            refine ⟨_, rfl, rfl, _, rfl, ?_⟩
            show if decide (V.int x.1 = V.int 0) = true then _ else _
            rw [hdl]
            cases c2 : decide (x.1 = 0) with
            | false =>
              rw [c2, Bool.false_and, if_neg Bool.false_ne_true] at k
              refine iteF (iteF ?_)
              exact ⟨by rw [← optV_eq K]; rfl, m2, nx k⟩
            | true =>
              rw [c2, Bool.true_and] at k
              refine iteT ?_
              refine ⟨_, rfl, d.r, CP K, d.dx, _, _, rfl, h22, cls_PathReader T, na_PathReader_kinds T, pr_kinds, _, rfl, d.r, CP K, d.dx, _, _, rfl, h22, cls_PathReader T, na_PathReader_at T, pr_at, d.M, _, (j2 : Int), _, rfl, rfl, SqL.of h52, atI_nat (kd_at hj2), rfl, _, rfl, ?_⟩
              show if decide (V.str (kdS u) = V.str (Str.ofString ")")) = true then _ else _
              rw [kd_lit u [41]]
              cases c3 : kdL u == [41] with
              | false =>
                rw [c3, if_neg Bool.false_ne_true] at k
                refine iteF ?_
                exact ⟨by rw [← optV_eq K]; rfl, m2, nx k⟩
              | true =>
                rw [c3, if_pos rfl] at k
                obtain ⟨hu, k⟩ := xk k
                refine iteT ?_
                refine ⟨_, rfl, d.r, d.dx, _, rfl, h22, pr_no (by decide +kernel), d, u, m, _, rfl, m2.2, hu, fun H4 mv4 => ?_⟩
                refine ⟨_, rfl, by decide, fun p5 hp5 => ⟨(by show 3 ≤ sizeLine; decide), fun p6 hp6 => ?_⟩⟩
                exact k _ _ (((m2.trans mv4).more (same_new hp5)).more (same_new hp6)) (Dt.new hp6 (.cons (.str _) (.cons (.str _) (.cons (Dt.new hp5 .nil) .nil))))
        · rintro σ H3 ⟨rfl, m3, v0, l0, args, l1, hx0, hx1, k3⟩
          obtain ⟨j3, h23⟩ := m3.2.rm
          refine ⟨_, rfl, d.r, d.dx, _, rfl, h23, pr_no (by decide +kernel), d, u :: m, rfl, m3.2, ?_⟩
          rw [hx0]
          intro H5 y mv5 hy
          have m5 := m3.trans mv5
          refine ⟨(by show 1 ≤ sizeLine; decide), fun L hL => ?_⟩
          have hL0 : H L = none := m5.fresh hp hL
          have m6 : MvR K H (upd H5 L (.lst [y])) d l0 := m5.updN hp hL0
          have h6 : upd H5 L (.lst [y]) L = some (.lst [y]) := upd_same
          have hd6 : DtAll K (upd H5 L (.lst [y])) [y] [v0] := .cons (Dt.keep (KT.same (same_new hL)) _ _ hy) .nil
          generalize upd H5 L (.lst [y]) = H6 at m6 h6 hd6 ⊢
          have hLr := ne_new hp hL0
          have hl6 := m6.2.len
          dsimp only [tSeq]
          refine while_x (fun mm σ H7 => σ = [some (.ref d.r), some (.str (mkS t.2.1)), some (.int x.1), some (optV x.2), some (.ref L)] ∧ ∃ (l : List Tk) (xs : List V) (acc : List PyData), MvR K H H7 d l ∧ H7 L = some (.lst xs) ∧ DtAll K H7 xs acc ∧ acc.length + mm ≤ 500000 ∧ argN (ex d.z) x mm acc l = some (args, l1))
            (fun σ H7 => σ = [some (.ref d.r), some (.str (mkS t.2.1)), some (.int x.1), some (optV x.2), some (.ref L)] ∧ ∃ (l : List Tk) (xs : List V), MvR K H H7 d l ∧ H7 L = some (.lst xs) ∧ DtAll K H7 xs args ∧ exN [41] l = some l1)
            ⟨_, rfl, l0, [y], [v0], m6, h6, hd6, (by show 1 + (l0.length + 1) ≤ _; omega), hx1⟩ ?_ ?_
          · rintro σ H7 ⟨rfl, l, xs, m7, h7, hd7, he7⟩
            obtain ⟨j7, h27⟩ := m7.2.rm
            cases l with
            | nil => cases he7
            | cons u7 r7 =>
              unfold exN at he7
              dsimp only at he7
              cases c : kdL u7 == [41] with
              | false => rw [c, if_neg Bool.false_ne_true] at he7; cases he7
              | true =>
                rw [c, if_pos rfl] at he7
                cases he7
                refine ⟨_, rfl, d.r, d.dx, _, rfl, h27, pr_no (by decide +kernel), d, u7, _, _, rfl, m7.2, eq_of_beq c, fun H8 mv8 => ?_⟩
                have h8 := mv8.1 _ _ hLr h7
                have hd8 := Dt.keepAll (mv8.kt m7.2) _ _ hd7
                refine ⟨_, rfl, _, rfl, .inl ⟨L, _, rfl, SqL.of h8, fun p9 hp9 => ⟨(by show 3 ≤ sizeLine; decide), fun p10 hp10 => ?_⟩⟩⟩
                exact k3 _ _ (((m7.trans mv8).more (same_new hp9)).more (same_new hp10)) (Dt.new hp10 (.cons (.str _) (.cons (.str _) (.cons (Dt.new hp9 hd8) .nil))))
          · rintro - mm σ H7 R ⟨rfl, l, xs, acc, m7, h7, hd7, hn7, hx7⟩ hfin hbody
            cases l with
            | nil => cases mm <;> cases hx7
            | cons u7 r7 =>
              cases mm with
              | zero => cases hx7
              | succ f =>
                have hxl := hd7.len
                have hp7 := m7.2
                obtain ⟨j7, g7, hj7, h27, h37, h57, h47⟩ := hp7
                have ea : argN (ex d.z) x (f + 1) acc (u7 :: r7) = if moreN x acc.length u7 then (if (kdL u7 == [44]) = true then
                    match ex d.z r7 with
                    | some (v, l) => argN (ex d.z) x f (acc ++ [v]) l
                    | none => none
                  else none) else (exN [41] (u7 :: r7)).map fun l => (acc, l) := rfl
                rw [ea] at hx7
                have em : moreN x acc.length u7 = (decide (((xs.length : Nat) : Int) < x.1) || (kdL u7 == [44] && (match x.2 with | none => true | some m => decide (((xs.length : Nat) : Int) < m)))) := by
                  rw [hxl]
                  rfl
                rw [em] at hx7
                have stop : (exN [41] (u7 :: r7)).map (fun l => (acc, l)) = some (args, l1) → ∃ (l : List Tk) (xs : List V), MvR K H H7 d l ∧ H7 L = some (.lst xs) ∧ DtAll K H7 xs args ∧ exN [41] l = some l1 := by
                  intro h
                  cases c : exN [41] (u7 :: r7) with
                  | none => rw [c] at h; cases h
                  | some q =>
                    rw [c] at h
                    cases h
                    exact ⟨_, xs, m7, h7, hd7, c⟩
                have body : (if (kdL u7 == [44]) = true then
                    match ex d.z r7 with
                    | some (v, l) => argN (ex d.z) x f (acc ++ [v]) l
                    | none => none
                  else none) = some (args, l1) → kdL u7 = [44] ∧ ∃ v l, ex d.z r7 = some (v, l) ∧ argN (ex d.z) x f (acc ++ [v]) l = some (args, l1) := by
                  intro h
                  cases c : kdL u7 == [44] with
                  | false => rw [c, if_neg Bool.false_ne_true] at h; cases h
                  | true =>
                    rw [c, if_pos rfl] at h
                    cases c2 : ex d.z r7 with
                    | none => rw [c2] at h; cases h
                    | some q =>
                      rw [c2] at h
                      exact ⟨eq_of_beq c, q.1, q.2, rfl, h⟩
                have goT : (kdL u7 = [44] ∧ ∃ v l, ex d.z r7 = some (v, l) ∧ argN (ex d.z) x f (acc ++ [v]) l = some (args, l1)) → R true H7 := by
                  rintro ⟨hu, v, l, hxa, hxb⟩
                  refine hbody _ ?_
                  refine ⟨_, rfl, d.r, d.dx, _, rfl, h27, pr_no (by decide +kernel), d, u7, r7, _, rfl, m7.2, hu, fun H8 mv8 => ?_⟩
                  have m8 := m7.trans mv8
                  have h8 := mv8.1 _ _ hLr h7
                  have hd8 := Dt.keepAll (mv8.kt m7.2) _ _ hd7
                  obtain ⟨j8, h28⟩ := m8.2.rm
                  refine ⟨_, rfl, .inl ⟨rfl, _, SqL.of h8⟩, _, rfl, d.r, d.dx, _, rfl, h28, pr_no (by decide +kernel), d, r7, rfl, m8.2, ?_⟩
                  rw [hxa]
                  intro H9 y9 mv9 hy9
                  have m9 := m8.trans mv9
                  have h9 := mv9.1 _ _ hLr h8
                  have hd9 := Dt.keepAll (mv9.kt m8.2) _ _ hd8
                  refine ⟨L, xs, y9, rfl, rfl, h9, by rw [sizeLine_eq]; omega, ?_⟩
                  have kt10 : KT H9 (upd H9 L (.lst (xs ++ [y9]))) := KT.up (nt_lst h9)
                  exact ⟨f, by omega, rfl, l, xs ++ [y9], acc ++ [v], m9.updN hp hL0, upd_same, Dt.keepAll kt10 _ _ (DtAll.snoc hy9 hd9), by rw [List.length_append]; show _ + 1 + f ≤ _; omega, hxb⟩
                refine ⟨_, rfl, _, _, rfl, .inl ⟨xs, SqL.of h7, rfl⟩, _, rfl, _, _, rfl, rfl, _, rfl, ?_⟩
                show if decide (((xs.length : Nat) : Int) < x.1) = true then _ else _
                cases c1 : decide (((xs.length : Nat) : Int) < x.1) with
                | true =>
                  rw [c1, Bool.true_or, if_pos rfl] at hx7
                  exact iteT (goT (body hx7))
                | false =>
                  rw [c1, Bool.false_or] at hx7
                  refine iteF ?_
                  refine ⟨_, rfl, d.r, CP K, d.dx, _, _, rfl, h27, cls_PathReader T, na_PathReader_kinds T, pr_kinds, _, rfl, d.r, CP K, d.dx, _, _, rfl, h27, cls_PathReader T, na_PathReader_at T, pr_at, d.M, _, (j7 : Int), _, rfl, rfl, SqL.of h57, atI_nat (kd_at hj7), rfl, _, rfl, ?_⟩
                  show if decide (V.str (kdS u7) = V.str (Str.ofString ",")) = true then _ else _
                  rw [kd_lit u7 [44]]
                  cases c2 : kdL u7 == [44] with
                  | false =>
                    rw [c2, Bool.false_and, if_neg Bool.false_ne_true] at hx7
                    refine iteF ?_
                    exact hfin _ ⟨rfl, stop hx7⟩
                  | true =>
                    rw [c2, Bool.true_and] at hx7
                    rw [c2] at body
                    refine iteT ?_
                    refine ⟨_, rfl, rfl, _, rfl, ?_⟩
                    show if decide (optV x.2 = V.non) = true then _ else _
                    cases c3 : x.2 with
                    | none =>
                      rw [c3] at hx7
                      dsimp only at hx7
                      rw [if_pos rfl] at hx7
                      exact iteT (goT (body hx7))
                    | some mx =>
                      rw [c3] at hx7
                      change (if decide (((xs.length : Nat) : Int) < mx) = true then _ else _) = _ at hx7
                      refine iteF ?_
                      refine ⟨_, rfl, _, _, rfl, .inl ⟨xs, SqL.of h7, rfl⟩, _, rfl, _, _, rfl, rfl, _, rfl, ?_⟩
                      show R (decide (((xs.length : Nat) : Int) < mx)) _
                      cases c4 : decide (((xs.length : Nat) : Int) < mx) with
                      | false =>
                        rw [c4, if_neg Bool.false_ne_true] at hx7
                        exact hfin _ ⟨rfl, stop hx7⟩
                      | true =>
                        rw [c4, if_pos rfl] at hx7
                        exact goT (body hx7)
end
end PX
/-! PXRl -/
namespace PX
open PySem PySem.Spec PyProof.Rows L2 TL
section
variable {P : Program} {w : World} {K : PySem.W.Frag} {mg : Str → Option Value} {base : Heap}
theorem ok_read_operand (T : Tx w K mg) {e : Nat} (he : 4 ≤ e) {ex : Str → List Tk → Rz} (hE : OkX P w K mg base e ex) : Ok P w K mg base CX0 (e + 6) (He.fAd K d_PathReader_read_operand.at_) p_PathReader_read_operand (spXz K fun z => opnN (ex z) z) := by
  obtain ⟨fd, F⟩ := f_PathReader_read_operand T
  obtain ⟨fB, GB, bB, kB⟩ := ok_read_behind T he hE
  obtain ⟨fC, GC, bC, kC⟩ := ok_read_call T he hE
  obtain ⟨fL, GL, bL, kL⟩ := ok_read_literal (P := P) (base := base) T
  obtain ⟨fF, GF, bF, kF⟩ := ok_is_function (P := P) (base := base) T
  obtain ⟨fR, GR, bR, kR⟩ := ok_read_rooted T he hE
  obtain ⟨fV, GV, bV, kV⟩ := ok_read_variable (P := P) (base := base) T
  obtain ⟨fS, GS, bS, kS⟩ := ok_read_steps T he hE
  obtain ⟨fY, GY, bY, kY⟩ := ok_expect_behind_operand (P := P) (base := base) T
  obtain ⟨fE, GE, bE, kE⟩ := hE
  refine ⟨fd, ?_, b_PathReader_read_operand F, F.kp⟩
  refine F.ok sc_PathReader_read_operand (fun vs H Q E h => ?_) (fun cdv A outer s H vs Q E hr h => ?_)
  · obtain ⟨d, l, rfl, _⟩ := h
    rfl
  · obtain ⟨d, l, rfl, hp, k⟩ := h
    have nd := sc_PathReader_read_operand.nd
    cases l with
    | nil => exact k.elim
    | cons t r =>
    have hp' := hp
    obtain ⟨j, g, hj, h2, h3, h5, h4⟩ := hp'
    obtain ⟨a, hv, ha⟩ := h4.at hj
    have har := ne_ins h2 a _ ha (fun _ _ _ => by simp)
    refine ⟨_, PSs.nox (pss_cons (ps_set (i := 1) nd rfl (.inl rfl) (pe_ix ix_list (pe_fld (pv 0) rfl) (pe_fld (pv 0) rfl) (fun _ _ => rfl)))
      (Evl.pss_cut (ps_if (pt_cmpR op_eq (pv 1) pe_str (nomark _))
        (pss_cons (ps_set (i := 2) nd rfl (.inl rfl) (pe_ix ix_list (pe_fld (pv 0) rfl) (pe_op op_add (pe_fld (pv 0) rfl) pe_int) (fun _ _ => rfl)))
        (pss_cons (ps_if (pt_cmpR op_notIn_seq (pv 2) (pe_glob (v := .ref (He.ga K "BEHIND_LONGER_PATHS")) (by rfl) (g_BEHIND_LONGER_PATHS T) rfl) (by rfl))
          (pss_cons (ps_fldaug (pv 0) pe_int ip_add)
            (pss_one (ps_ret (pe_tup (pa_cons pe_str (pa_cons pe_non (pa_cons (pe_tup (pa_cons (pe_tup (pa_cons pe_str (pa_cons (pe_tup (pa_cons pe_str (pa_cons (pe_ix ix_tup (pe_ix ix_list (pe_fld (pv 0) rfl) (pe_op op_sub (pe_fld (pv 0) rfl) pe_int) (fun _ _ => rfl)) pe_int (fun _ _ => rfl)) pa_nil))) (pa_cons (pe_tup pa_nil) pa_nil)))) pa_nil)) pa_nil))))))) pss_nil)
        (pss_one (ps_if (pw_and (pt_cmpR op_eq (pv 2) pe_str (nomark _)) (pw_and1 (pt_val (pe_meth (E := E0) (pv 0) (cls_PathReader T) (m_PathReader_is_function T) GF (hr.mono (by omega)) bF .nil pass0 (pa_cons (pe_ix ix_tup (pe_ix ix_list (pe_fld (pv 0) rfl) (pe_fld (pv 0) rfl) (fun _ _ => rfl)) pe_int (fun _ _ => rfl)) pa_nil))))).pt
          (pss_one (ps_ret (pe_meth (E := E0) (pv 0) (cls_PathReader T) (m_PathReader_read_behind T) GB (hr.mono (by omega)) bB .nil pass0 (pa_cons (pe_meth0 (E := E0) (pv 0) (cls_PathReader T) (m_PathReader_read_call T) GC (hr.mono (by omega)) bC .nil pass0) pa_nil)))) pss_nil))))
        (pss_one (ps_if (pt_cmpR op_in_seq (pv 1) (pe_glob (v := .ref (He.ga K "LITERALS")) (by rfl) (g_LITERALS T) rfl) (by rfl))
          (pss_one (ps_ret (pe_meth (E := E0) (pv 0) (cls_PathReader T) (m_PathReader_read_behind T) GB (hr.mono (by omega)) bB .nil pass0 (pa_cons (pe_meth0 (E := E0) (pv 0) (cls_PathReader T) (m_PathReader_read_literal T) GL (hr.mono (by omega)) bL .nil pass0) pa_nil))))
        (pss_one (ps_if (pt_cmpR op_in_seq (pv 1) (pe_tup (pa_cons pe_str (pa_cons pe_str pa_nil))) (by rfl))
          (pss_one (ps_ret (pe_meth0 (E := E0) (pv 0) (cls_PathReader T) (m_PathReader_read_rooted T) GR (hr.mono (by omega)) bR .nil pass0)))
        (pss_one (ps_if (pt_cmpR op_eq (pv 1) pe_str (nomark _))
          (pss_cons (ps_fldaug (pv 0) pe_int ip_add)
          (pss_cons (ps_set (i := 3) nd rfl (.inl rfl) (pe_meth0 (E := E0) (pv 0) (cls_PathReader T) (m_PathReader_read_expression T) GE (hr.mono (by omega)) bE .nil pass0))
          (pss_cons (ps_expr (pe_meth (E := E0) (pv 0) (cls_PathReader T) (m_PathReader_expect_behind_operand T) GY (hr.mono (by omega)) bY .nil pass0 (pa_cons pe_str pa_nil)))
          (pss_one (ps_ret (pe_meth (E := E0) (pv 0) (cls_PathReader T) (m_PathReader_read_behind T) GB (hr.mono (by omega)) bB .nil pass0 (pa_cons (pv 3) pa_nil)))))))
        (pss_one (ps_if (pw_and (pt_cmpR op_eq (pv 1) pe_str (nomark _)) (pw_and1 (pt_not (pt_val (pe_fld (pv 0) rfl))))).pt
          (pss_one (ps_ret (pe_meth (E := E0) (pv 0) (cls_PathReader T) (m_PathReader_read_behind T) GB (hr.mono (by omega)) bB .nil pass0 (pa_cons (pe_meth0 (E := E0) (pv 0) (cls_PathReader T) (m_PathReader_read_variable T) GV (hr.mono (by omega)) bV .nil pass0) pa_nil)))) pss_nil)))))))))
      (pss_one (ps_ret (pe_tup (pa_cons pe_str (pa_cons pe_non (pa_cons (pe_tupleOf (by rfl) (n_tuple T) (pe_meth (E := E0) (pv 0) (cls_PathReader T) (m_PathReader_read_steps T) GS (hr.mono (by omega)) bS .nil pass0 (pa_cons (pe_lst pa_nil) pa_nil))) pa_nil))))))))
      , ?_⟩
    refine ⟨_, rfl, d.r, CP K, d.dx, _, _, rfl, h2, cls_PathReader T, na_PathReader_kinds T, pr_kinds, _, rfl, d.r, CP K, d.dx, _, _, rfl, h2, cls_PathReader T, na_PathReader_at T, pr_at, d.M, _, (j : Int), _, rfl, rfl, SqL.of h5, atI_nat (kd_at hj), ?_⟩
    unfold opnN at k
    dsimp only at k
    refine ⟨fun σ H3 => (∃ v1 v2 v3, σ = [some (.ref d.r), v1, v2, v3]) ∧ MvR K H H3 d (t :: r) ∧ rzC K d H Q (stsN (ex d.z) d.z .none [] (t :: r)), ?_, ?_⟩
    · refine ⟨_, rfl, rfl, _, rfl, ?_⟩
      show if decide (V.str (kdS t) = V.str (Str.ofString "name")) = true then _ else _
      rw [kd_lit t cNam]
      cases c1 : kdL t == cNam with
      | true =>
        rw [c1, if_pos rfl] at k
        refine iteT ?_
        cases r with
        | nil => exact k.elim
        | cons u r2 =>
        dsimp only at k
        refine ⟨_, rfl, d.r, CP K, d.dx, _, _, rfl, h2, cls_PathReader T, na_PathReader_kinds T, pr_kinds, _, rfl, d.r, CP K, d.dx, _, _, rfl, h2, cls_PathReader T, na_PathReader_at T, pr_at, _, _, rfl, rfl, d.M, _, (j : Int) + 1, _, rfl, rfl, SqL.of h5, (by rw [show ((j : Int) + 1) = ((j + 1 : Nat) : Int) by omega]; exact atI_nat (kd_at (drop_one hj))), ?_⟩
        refine ⟨_, rfl, He.ga K "BEHIND_LONGER_PATHS", _, rfl, .inr (strs_of (x_t_BEHIND_LONGER_PATHS T) (by decide) _), rfl, flat_strs _, ?_⟩
        rw [if_pos rfl]
        refine ⟨_, rfl, ?_⟩
        show if (!inV (.str (kdS u)) (tup_BEHIND_LONGER_PATHS.map V.str)) = true then _ else _
        rw [kd_in]
        change rzC K d H Q (if (!is1 (kdL u) (tup_BEHIND_LONGER_PATHS.map tl)) = true then _ else _) at k
        cases c2 : is1 (kdL u) (tup_BEHIND_LONGER_PATHS.map tl) with
        | false =>
          rw [c2, Bool.not_false, if_pos rfl] at k
          refine iteT ?_
          refine ⟨_, rfl, d.r, CP K, d.dx, _, _, rfl, h2, cls_PathReader T, na_PathReader_at T, pr_at, _, _, rfl, rfl, d.dx, _, h2, (by show 5 < 1000; decide), ?_⟩
          rw [pr_put (i := j + 1) (by show ((j : Nat) : Int) + 1 = ((j + 1 : Nat) : Int); omega)]
          have m1 := PR.go hp (drop_one hj)
          have h21 : upd H d.r (.ins (CP K) d.dx (prF d.z d.L d.M (j + 1))) d.r = some (.ins (CP K) d.dx (prF d.z d.L d.M (j + 1))) := upd_same
          generalize upd H d.r _ = H1 at m1 h21 ⊢
          have h31 : H1 d.L = some (.lst d.vs) := by
            obtain ⟨_, _, _, _, h, _⟩ := m1.2
            exact h
          have ha1 := m1.1 _ _ har ha
          refine ⟨_, rfl, d.r, CP K, d.dx, _, _, rfl, h21, cls_PathReader T, na_PathReader_tokens T, pr_tokens, _, rfl, d.r, CP K, d.dx, _, _, rfl, h21, cls_PathReader T, na_PathReader_at T, pr_at, _, _, rfl, rfl, d.L, d.vs, ((j + 1 : Nat) : Int) - 1, _, rfl, rfl, SqL.of h31, (by rw [show ((j + 1 : Nat) : Int) - 1 = (j : Int) by omega]; exact atI_nat hv), ?_⟩
          refine ⟨a, _, 1, _, rfl, rfl, SqT.of ha1, atI1 _ _ _, (by show 2 ≤ sizeLine; decide), fun p1 hp1 => ⟨by decide, fun p2 hp2 => ⟨(by show 3 ≤ sizeLine; decide), fun p3 hp3 => ⟨(by show 1 ≤ sizeLine; decide), fun p4 hp4 => ⟨(by show 3 ≤ sizeLine; decide), fun p5 hp5 => ?_⟩⟩⟩⟩⟩
          have n1 := Dt.new (K := K) hp1 (.cons (.str (Str.ofString "name")) (.cons (.str (mkS t.2.1)) .nil))
          have n2 := Dt.new (K := K) hp2 .nil
          have n3 := Dt.new (K := K) hp3 (.cons (.str (Str.ofString "child")) (.cons (Dt.keep (KT.same (same_new hp2)) _ _ n1) (.cons n2 .nil)))
          have n4 := Dt.new (K := K) hp4 (.cons n3 .nil)
          have n5 := Dt.new (K := K) hp5 (.cons (.str (Str.ofString "path")) (.cons .non (.cons n4 .nil)))
          exact k _ _ (((((m1.more (same_new hp1)).more (same_new hp2)).more (same_new hp3)).more (same_new hp4)).more (same_new hp5)) n5
        | true =>
          rw [c2, Bool.not_true, if_neg Bool.false_ne_true] at k
          refine iteF ?_
          refine ⟨_, rfl, rfl, _, rfl, ?_⟩
          show if decide (V.str (kdS u) = V.str (Str.ofString "(")) = true then _ else _
          rw [kd_lit u [40]]
          cases c3 : kdL u == [40] with
          | false =>
            rw [c3, Bool.false_and, if_neg Bool.false_ne_true] at k
            refine iteF (iteF ?_)
            exact ⟨⟨_, _, _, rfl⟩, MvR.refl hp, k⟩
          | true =>
            rw [c3, Bool.true_and] at k
            refine iteT ?_
            refine ⟨_, rfl, d.r, d.dx, _, rfl, h2, pr_no (by decide +kernel), _, rfl, d.r, CP K, d.dx, _, _, rfl, h2, cls_PathReader T, na_PathReader_tokens T, pr_tokens, _, rfl, d.r, CP K, d.dx, _, _, rfl, h2, cls_PathReader T, na_PathReader_at T, pr_at, d.L, d.vs, (j : Int), _, rfl, rfl, SqL.of h3, atI_nat hv, ?_⟩
            refine ⟨a, _, 1, _, rfl, rfl, SqT.of ha, atI1 _ _ _, d, _, _, rfl, hp, _, rfl, ?_⟩
            cases c4 : (fnLook t.2.1).isSome with
            | false =>
              rw [c4, if_neg Bool.false_ne_true] at k
              refine iteF ?_
              exact ⟨⟨_, _, _, rfl⟩, MvR.refl hp, k⟩
            | true =>
              rw [c4, if_pos rfl] at k
              refine iteT ?_
              refine ⟨_, rfl, d.r, d.dx, _, rfl, h2, pr_no (by decide +kernel), _, rfl, d.r, d.dx, _, rfl, h2, pr_no (by decide +kernel), d, _, rfl, hp, ?_⟩
              cases c5 : callN (ex d.z) (t :: u :: r2) with
              | none => rw [c5] at k; exact k.elim
              | some q =>
                obtain ⟨v, l1⟩ := q
                rw [c5] at k
                show rzC K d H _ (callN (ex d.z) (t :: u :: r2))
                rw [c5]
                intro H1 y m1 hy
                exact ⟨d, l1, y, v, rfl, m1.2, hy, rzC.mv hp m1 k⟩
      | false =>
        rw [c1, if_neg Bool.false_ne_true] at k
        refine iteF ?_
        refine ⟨_, rfl, He.ga K "LITERALS", _, rfl, .inr (strs_of (x_t_LITERALS T) (by decide) _), rfl, flat_strs _, ?_⟩
        rw [if_neg Bool.false_ne_true]
        refine ⟨_, rfl, ?_⟩
        show if inV (.str (kdS t)) (tup_LITERALS.map V.str) = true then _ else _
        rw [kd_in]
        change rzC K d H Q (if is1 (kdL t) (tup_LITERALS.map tl) = true then _ else _) at k
        cases c2 : is1 (kdL t) (tup_LITERALS.map tl) with
        | true =>
          rw [c2, if_pos rfl] at k
          refine iteT ?_
          refine ⟨_, rfl, d.r, d.dx, _, rfl, h2, pr_no (by decide +kernel), _, rfl, d.r, d.dx, _, rfl, h2, pr_no (by decide +kernel), d, _, rfl, hp, ?_⟩
          cases c5 : litN (t :: r) with
          | none => rw [c5] at k; exact k.elim
          | some q =>
            obtain ⟨v, l1⟩ := q
            rw [c5] at k
            intro H1 y m1 hy
            exact ⟨d, l1, y, v, rfl, m1.2, hy, rzC.mv hp m1 k⟩
        | false =>
          rw [c2, if_neg Bool.false_ne_true] at k
          refine iteF ?_
          refine ⟨_, rfl, (by decide), fun p hpn => ⟨p, _, rfl, .inr (SqT.of upd_same), rfl, rfl, ?_⟩⟩
          rw [if_neg Bool.false_ne_true]
          refine ⟨_, rfl, ?_⟩
          show if inV (.str (kdS t)) ((["/" , "//"] : List Str).map V.str) = true then _ else _
          rw [kd_in]
          have s1 := same_new hpn (o := .tup [V.str (Str.ofString "/"), V.str (Str.ofString "//")])
          generalize upd H p (.tup [V.str (Str.ofString "/"), V.str (Str.ofString "//")]) = H1 at s1 ⊢
          have m1 := MvR.same hp s1
          have h21 := s1 _ _ h2
          change rzC K d H Q (if is1 (kdL t) ((["/" , "//"] : List Str).map tl) = true then _ else _) at k
          cases c3 : is1 (kdL t) ((["/" , "//"] : List Str).map tl) with
          | true =>
            rw [c3, if_pos rfl] at k
            refine iteT ?_
            exact ⟨_, rfl, d.r, d.dx, _, rfl, h21, pr_no (by decide +kernel), d, _, rfl, m1.2, rzC.mv hp m1 k⟩
          | false =>
            rw [c3, if_neg Bool.false_ne_true] at k
            refine iteF ?_
            refine ⟨_, rfl, rfl, _, rfl, ?_⟩
            show if decide (V.str (kdS t) = V.str (Str.ofString "(")) = true then _ else _
            rw [kd_lit t [40]]
            cases c4 : kdL t == [40] with
            | true =>
              rw [c4, if_pos rfl] at k
              refine iteT ?_
              refine ⟨_, rfl, d.r, CP K, d.dx, _, _, rfl, h21, cls_PathReader T, na_PathReader_at T, pr_at, _, _, rfl, rfl, d.dx, _, h21, (by show 5 < 1000; decide), ?_⟩
              rw [pr_put (i := j + 1) (by show ((j : Nat) : Int) + 1 = ((j + 1 : Nat) : Int); omega)]
              have mv2 := PR.go m1.2 (drop_one hj)
              generalize upd H1 _ _ = H2 at mv2 ⊢
              have m2 := m1.trans mv2
              obtain ⟨j2, h22⟩ := m2.2.rm
              refine ⟨_, rfl, d.r, d.dx, _, rfl, h22, pr_no (by decide +kernel), d, r, rfl, m2.2, ?_⟩
              cases c5 : ex d.z r with
              | none => rw [c5] at k; exact k.elim
              | some q =>
                obtain ⟨v, l3⟩ := q
                rw [c5] at k
                dsimp only at k
                intro H3 y mv3 hy
                have m3 := m2.trans mv3
                cases l3 with
                | nil => exact k.elim
                | cons u r3 =>
                  unfold exN at k
                  dsimp only at k
                  cases c6 : kdL u == [41] with
                  | false => rw [c6, if_neg Bool.false_ne_true] at k; exact k.elim
                  | true =>
                    rw [c6, if_pos rfl] at k
                    dsimp only at k
                    obtain ⟨j3, h23⟩ := m3.2.rm
                    refine ⟨_, rfl, d.r, d.dx, _, rfl, h23, pr_no (by decide +kernel), d, u, r3, _, rfl, m3.2, eq_of_beq c6, fun H4 mv4 => ?_⟩
                    have m4 := m3.trans mv4
                    obtain ⟨j4, h24⟩ := m4.2.rm
                    exact ⟨_, rfl, d.r, d.dx, _, rfl, h24, pr_no (by decide +kernel), _, rfl, d, r3, y, v, rfl, m4.2, Dt.keep (mv4.kt m3.2) _ _ hy, rzC.mv hp m4 k⟩
            | false =>
              rw [c4, if_neg Bool.false_ne_true] at k
              refine iteF ?_
              refine ⟨_, rfl, rfl, _, rfl, ?_⟩
              show if decide (V.str (kdS t) = V.str (Str.ofString "$")) = true then _ else _
              rw [kd_lit t [36]]
              cases c5 : kdL t == [36] with
              | false =>
                rw [c5, if_neg Bool.false_ne_true] at k
                refine iteF (iteF ?_)
                exact ⟨⟨_, _, _, rfl⟩, m1, k⟩
              | true =>
                rw [c5, if_pos rfl] at k
                refine iteT ?_
                refine ⟨_, rfl, d.r, CP K, d.dx, _, _, rfl, h21, cls_PathReader T, na_PathReader_closed T, pr_closed, _, rfl, ?_⟩
                refine iteT ?_
                refine ⟨_, rfl, d.r, d.dx, _, rfl, h21, pr_no (by decide +kernel), _, rfl, d.r, d.dx, _, rfl, h21, pr_no (by decide +kernel), d, _, rfl, m1.2, ?_⟩
                cases c6 : varN d.z (t :: r) with
                | none => rw [c6] at k; exact k.elim
                | some q =>
                  obtain ⟨v, l3⟩ := q
                  rw [c6] at k
                  intro H2 y m2 hy
                  exact ⟨d, l3, y, v, rfl, m2.2, hy, rzC.mv hp (m1.trans m2) k⟩
    · rintro σ H3 ⟨⟨v1, v2, v3, rfl⟩, m3, k3⟩
      obtain ⟨res, m, hx, k4⟩ := sts_of k3
      obtain ⟨j3, h23⟩ := m3.2.rm
      have hl3 := m3.2.len
      refine ⟨_, rfl, d.r, d.dx, _, rfl, h23, pr_no (by decide +kernel), (by decide), fun L hL => ?_⟩
      have hL0 := m3.fresh hp hL
      have m5 := m3.more (same_new hL (o := .lst []))
      refine ⟨d, H, _, _, L, [], [], res, m, _, rfl, hp, hL0, m5, upd_same, .nil, (by show 0 + 2 * _ ≤ _; omega), hx, fun H4 zs m4 hL4 hd4 _ => ?_⟩
      refine .inl ⟨L, zs, rfl, SqL.of hL4, fun q1 hq1 => ⟨(by show 3 ≤ sizeLine; decide), fun q2 hq2 => ?_⟩⟩
      exact k4 _ _ ((m4.more (same_new hq1)).more (same_new hq2)) (Dt.new hq2 (.cons (.str _) (.cons .non (.cons (Dt.new hq1 hd4) .nil))))
end
end PX
/-! PXKg -/
namespace PX
open PySem PySem.Spec PyProof.Rows L2 TL
/-! ### d.get(key), d.get(key, other) of a dict that the head made -/
def optQ (r : Option Value) (o : V) (Q : VK) (H : Hp) : Prop := match r with
  | some u => ∃ v, RelV v u ∧ Q v H
  | none => Q o H
def tKGet1 (K : PySem.W.Frag) (d : Addr) (td ty : TE) : TE := fun σ H Q => td σ H fun x H1 => x = .ref d ∧ ty σ H1 fun y H2 => ∃ (z : Str) (r : Option Value), y = .str z ∧ PySem.W.nsIn K d z = some r ∧ optQ r .non Q H2
def tKGet2 (K : PySem.W.Frag) (d : Addr) (td ty tx : TE) : TE := fun σ H Q => td σ H fun x H1 => x = .ref d ∧ ty σ H1 fun y H2 => tx σ H2 fun o H3 => ∃ (z : Str) (r : Option Value), y = .str z ∧ PySem.W.nsIn K d z = some r ∧ optQ r o Q H3
section
variable {X : Cx} {d : Addr} {es : Array DictEntry} {n : Nat} {o e f : Expr} {apos cpos : Pos} {td ty tx : TE}
theorem kd_own {pins : List (Addr × Obj)} {σ : L2.St} {H : Hp} {s : Shared} (D : KDict X.K X.w d es n) (I : Inv X pins σ H s) : ∀ a, Value.ref d = .ref a → ∃ ob, s.heap.get? a = some ob ∧ ob.dict = none := fun a e => by
  cases e
  exact ⟨_, I.kIn _ _ D.at_, rfl⟩
theorem pe_kget1 (D : KDict X.K X.w d es n) (ho : PE X o td) (he : PE X e ty) (m : M1 X o "get" apos e cpos) : PE X (.Call (.Attribute o "get" apos) [e] [] cpos) (tKGet1 X.K d td ty) := by
  refine ⟨fun pins s σ H Q I h => ?_⟩
  refine wpAny_Call_method m.base m.few m.line PySem.F.plainAttrs_dict PySem.F.slot_dict_get PySem.F.type_dict_get (thn (ho.run pins s σ H _ I h) fun u s1 ⟨x, H1, I1, rx, ex, q1⟩ => ?_)
  subst ex
  obtain rfl : u = Value.ref d := rx
  refine ⟨kd_type D I1, kd_own D I1, ?_⟩
  rw [m.trees]
  refine Calls.callWith_builtin rfl (Calls.evalArgs_plain (Calls.spliced_cons (thn (he.run pins s1 σ H1 _ I1 q1) fun iv s2 ⟨y, H2, I2, ry, z, r, ey, en, q2⟩ => Calls.spliced_nil ?_)))
  subst ey
  obtain ⟨t, rfl⟩ := (show ∃ t, iv = Value.str z t from ry)
  have hm := PySem.W.mapOf_K (prog := X.prog) (w := X.w) I2.kIn D.at_ D.lit
  refine call_meetsIn PySem.F.slot_dict_get (kd_type D I2) PySem.F.entry_dict_get (PySem.F.args_dict_get_2 _ _) (meets_dict_get (PySem.strKind X.prog X.w) d (strKind_is X.prog X.w z t) D.low) ⟨_, hm, ?_⟩
  rw [PySem.W.find_K D.at_ en]
  cases r with
  | none => exact ⟨.non, H2, I2.tok _, rfl, q2⟩
  | some u =>
    obtain ⟨v, rv, q3⟩ := q2
    exact ⟨v, H2, I2.tok _, rv, q3⟩
theorem pe_kget2 (D : KDict X.K X.w d es n) (ho : PE X o td) (he : PE X e ty) (hf : PE X f tx) (m : M2 X o "get" apos e f cpos) : PE X (.Call (.Attribute o "get" apos) [e, f] [] cpos) (tKGet2 X.K d td ty tx) := by
  refine ⟨fun pins s σ H Q I h => ?_⟩
  refine wpAny_Call_method m.base m.few m.line PySem.F.plainAttrs_dict PySem.F.slot_dict_get PySem.F.type_dict_get (thn (ho.run pins s σ H _ I h) fun u s1 ⟨x, H1, I1, rx, ex, q1⟩ => ?_)
  subst ex
  obtain rfl : u = Value.ref d := rx
  refine ⟨kd_type D I1, kd_own D I1, ?_⟩
  rw [m.trees]
  refine Calls.callWith_builtin rfl (Calls.evalArgs_plain (Calls.spliced_cons (thn (he.run pins s1 σ H1 _ I1 q1) fun iv s2 ⟨y, H2, I2, ry, q2⟩ =>
    Calls.spliced_cons (thn (hf.run pins s2 σ H2 _ I2 q2) fun fv s3 ⟨o, H3, I3, ro, z, r, ey, en, q3⟩ => Calls.spliced_nil ?_))))
  subst ey
  obtain ⟨t, rfl⟩ := (show ∃ t, iv = Value.str z t from ry)
  have hm := PySem.W.mapOf_K (prog := X.prog) (w := X.w) I3.kIn D.at_ D.lit
  refine call_meetsIn PySem.F.slot_dict_get (kd_type D I3) PySem.F.entry_dict_get (PySem.F.args_dict_get_3 _ _ _) (meets_dict_get_default (PySem.strKind X.prog X.w) d (strKind_is X.prog X.w z t) D.low fv) ⟨_, hm, ?_⟩
  rw [PySem.W.find_K D.at_ en]
  cases r with
  | none => exact ⟨o, H3, I3.tok _, ro, q3⟩
  | some u =>
    obtain ⟨v, rv, q4⟩ := q3
    exact ⟨v, H3, I3.tok _, rv, q4⟩
end
end PX
/-! PXRm -/
namespace PX
open PySem PySem.Spec PyProof.Rows L2 TL
/-! ### the operators' ranks -/
def rkOk (wd : List Nat) : Prop := (kvs_RANKS.find? fun q => tl q.1 == wd).isSome = true
instance (wd : List Nat) : Decidable (rkOk wd) := inferInstanceAs (Decidable (_ = _))
theorem ranks_int : kvs_RANKS.all (fun q => match q.2 with | .int i => decide (0 ≤ i) | _ => false) = true := by decide +kernel
theorem ranks_ok : kvs_RANKS.all (fun q => PyData.strOk q.1) = true := by decide +kernel
theorem rk_in {w : World} {K : PySem.W.Frag} {mg : Str → Option Value} (T : Tx w K mg) {wd : List Nat} (h : rkOk wd) : KDct K w (He.ga K "RANKS") (mkS wd) (.int (rkN wd : Int)) := by
  unfold rkOk at h
  unfold rkN
  cases q : kvs_RANKS.find? (fun q => tl q.1 == wd) with
  | none => rw [q] at h; cases h
  | some y =>
    have hm := kv_in q
    have hs := List.all_eq_true.mp ranks_int _ hm
    obtain ⟨y1, y2⟩ := y
    cases y2 with
    | int i =>
      have hi : 0 ≤ i := of_decide_eq_true hs
      have e : ((i.toNat : Nat) : Int) = i := Int.toNat_of_nonneg hi
      show KDct K w _ _ (.int ((i.toNat : Nat) : Int))
      rw [e]
      exact kd_val T.tab_RANKS (x_v_RANKS T) hm
    | _ => cases hs
theorem rk_str {wd : List Nat} (h : rkOk wd) : PyData.strOk (mkS wd) = true := by
  unfold rkOk at h
  cases q : kvs_RANKS.find? (fun q => tl q.1 == wd) with
  | none => rw [q] at h; cases h
  | some y => exact List.all_eq_true.mp ranks_ok _ (kv_in q)
theorem rk_neg : rkOk cNeg := by decide +kernel
theorem ops_ok : opWords.all (fun wd => decide (rkOk wd)) = true := by decide +kernel
theorem opsign_ok : kvs_OPERATOR_OF_SIGN.all (fun q => match q.2 with | .str s => decide (rkOk (tl s)) | _ => false) = true := by decide +kernel
theorem sign_map : kvs_OPERATOR_OF_SIGN.map (·.1) = keys_OPERATOR_OF_SIGN := by decide +kernel
theorem is1_mem {l : List Nat} {ws : List (List Nat)} (h : is1 l ws = true) : l ∈ ws := by
  unfold is1 at h
  obtain ⟨x, hx, e⟩ := List.any_eq_true.mp h
  rw [← eq_of_beq e]
  exact hx
/-- the operator that a sign is -/
theorem sign_in {w : World} {K : PySem.W.Frag} {mg : Str → Option Value} (T : Tx w K mg) (wd : List Nat) : ∃ r, PySem.W.nsIn K (He.ga K "OPERATOR_OF_SIGN") (mkS wd) = some r ∧ ((r = none ∧ opSign wd = none) ∨ ∃ u o, r = some u ∧ opSign wd = some o ∧ RelV (.str (mkS o)) u ∧ rkOk o) := by
  unfold opSign
  cases q : kvs_OPERATOR_OF_SIGN.find? (fun q => tl q.1 == wd) with
  | none =>
    have := kv_no q
    rw [sign_map] at this
    exact ⟨none, kd_no T.tab_OPERATOR_OF_SIGN this, .inl ⟨rfl, rfl⟩⟩
  | some y =>
    have hm := kv_in q
    have hs := List.all_eq_true.mp opsign_ok _ hm
    obtain ⟨y1, y2⟩ := y
    cases y2 with
    | str x =>
      obtain ⟨u, e3, e4⟩ := He.valsB_ok (x_v_OPERATOR_OF_SIGN T) hm
      refine ⟨some u, e3, .inr ⟨u, tl x, rfl, rfl, ?_, of_decide_eq_true hs⟩⟩
      rw [mkS_tl]
      exact e4
    | _ => cases hs
section
variable {P : Program} {w : World} {K : PySem.W.Frag} {mg : Str → Option Value} {base : Heap}
/-- an operator with its operands; the lists stand the other way round -/
def spBn (K : PySem.W.Frag) : Sp := fun vs H Q _ => ∃ (A : Addr) (xs : List V) (st st2 : List PyData) (wd : List Nat), vs = [.ref A, .str (mkS wd)] ∧ H A = some (.lst xs.reverse) ∧ DtAll K H xs st ∧ xs.length ≤ 500000 ∧ bndN wd st = some st2 ∧
  ∀ H' xs2, SameB A H H' → H' A = some (.lst xs2.reverse) → DtAll K H' xs2 st2 → Q .non H'
theorem ok_bind (T : Tx w K mg) : Ok P w K mg base CX0 1 (He.fAd K d_bind.at_) p_bind (spBn K) := by
  obtain ⟨fd, F⟩ := f_bind T
  refine ⟨fd, ?_, b_bind F, F.kp⟩
  refine F.ok sc_bind (fun vs H Q E h => ?_) (fun cdv A outer s H vs Q E hr h => ?_)
  · obtain ⟨A, xs, st, st2, wd, rfl, _⟩ := h
    rfl
  · obtain ⟨B, xs, st, st2, wd, rfl, hA, hd, hlen, hb, k⟩ := h
    have nd := sc_bind.nd
    refine ⟨_, PSs.nox (pss_cons (ps_set (i := 2) nd rfl (.inl rfl) (pe_bm0 PySem.F.plainAttrs_list PySem.F.slot_list_pop PySem.F.type_list_pop mt_pop (pv 0)))
      (pss_one (ps_if (pt_cmpR op_eq (pv 1) pe_str (nomark _))
        (pss_one (ps_expr (pe_bm PySem.F.plainAttrs_list PySem.F.slot_list_append PySem.F.type_list_append mt_append (pv 0) (pa_cons (pe_tup (pa_cons pe_str (pa_cons (pv 2) pa_nil))) pa_nil))))
        (pss_one (ps_expr (pe_bm PySem.F.plainAttrs_list PySem.F.slot_list_append PySem.F.type_list_append mt_append (pv 0) (pa_cons (pe_tup (pa_cons (pv 1) (pa_cons (pe_bm0 PySem.F.plainAttrs_list PySem.F.slot_list_pop PySem.F.type_list_pop mt_pop (pv 0)) (pa_cons (pv 2) pa_nil)))) pa_nil))))))), ?_⟩
    cases st with
    | nil => cases hb
    | cons a st =>
    cases hd with
    | cons hx hd =>
    rename_i x xs
    rw [List.reverse_cons] at hA
    rw [List.length_cons] at hlen
    refine ⟨_, rfl, .inl ⟨rfl, _, SqL.of hA⟩, B, _, x, rfl, rfl, hA, (by simp), ?_⟩
    rw [List.dropLast_concat]
    have kt1 : KT H (upd H B (.lst xs.reverse)) := KT.up (nt_lst hA)
    have s1 : SameB B H (upd H B (.lst xs.reverse)) := .up
    have hA1 : upd H B (.lst xs.reverse) B = some (.lst xs.reverse) := upd_same
    have hx1 := Dt.keep kt1 _ _ hx
    have hd1 := Dt.keepAll kt1 _ _ hd
    generalize upd H B (.lst xs.reverse) = H1 at kt1 s1 hA1 hx1 hd1 ⊢
    unfold bndN at hb
    dsimp only at hb
    refine ⟨_, rfl, rfl, _, rfl, ?_⟩
    show if decide (V.str (mkS wd) = V.str (Str.ofString "neg")) = true then _ else _
    have en : decide (V.str (mkS wd) = V.str (Str.ofString "neg")) = (wd == cNeg) := dec_mk wd cNeg
    rw [en]
    have hxl : xs.reverse.length = xs.length := List.length_reverse
    cases c : wd == cNeg with
    | true =>
      rw [c, if_pos rfl] at hb
      cases hb
      refine iteT ?_
      refine ⟨_, rfl, .inl ⟨rfl, _, SqL.of hA1⟩, _, rfl, (by show 2 ≤ sizeLine; decide), fun p hp => ?_⟩
      have s2 := same_new hp (o := .tup [.str (Str.ofString "neg"), x])
      have n2 := Dt.new (K := K) hp (.cons (.str (Str.ofString "neg")) (.cons hx1 .nil))
      have hA2 := s2 _ _ hA1
      have hd2 := Dt.keepAll (KT.same s2) _ _ hd1
      generalize upd H1 p (.tup [.str (Str.ofString "neg"), x]) = H2 at s2 n2 hA2 hd2 ⊢
      refine ⟨B, _, .ref p, rfl, rfl, hA2, (by rw [sizeLine_eq]; omega), ?_⟩
      have kt3 : KT H2 (upd H2 B (.lst (xs.reverse ++ [.ref p]))) := KT.up (nt_lst hA2)
      refine k _ (.ref p :: xs) ((s1.trans (.of s2)).trans .up) ?_ (.cons (Dt.keep kt3 _ _ n2) (Dt.keepAll kt3 _ _ hd2))
      rw [List.reverse_cons]
      exact upd_same
    | false =>
      rw [c, if_neg Bool.false_ne_true] at hb
      cases st with
      | nil => cases hb
      | cons b st =>
      cases hb
      cases hd1 with
      | cons hy hd1 =>
      rename_i y ys
      refine iteF ?_
      rw [List.reverse_cons] at hA1 hxl
      rw [List.length_cons] at hlen
      refine ⟨_, rfl, .inl ⟨rfl, _, SqL.of hA1⟩, _, rfl, _, rfl, .inl ⟨rfl, _, SqL.of hA1⟩, B, _, y, rfl, rfl, hA1, (by simp), ?_⟩
      rw [List.dropLast_concat]
      have kt2 : KT H1 (upd H1 B (.lst ys.reverse)) := KT.up (nt_lst hA1)
      have s2 : SameB B H1 (upd H1 B (.lst ys.reverse)) := .up
      have hA2 : upd H1 B (.lst ys.reverse) B = some (.lst ys.reverse) := upd_same
      have hx2 := Dt.keep kt2 _ _ hx1
      have hy2 := Dt.keep kt2 _ _ hy
      have hd2 := Dt.keepAll kt2 _ _ hd1
      generalize upd H1 B (.lst ys.reverse) = H2 at kt2 s2 hA2 hx2 hy2 hd2 ⊢
      refine ⟨_, rfl, (by show 3 ≤ sizeLine; decide), fun p hp => ?_⟩
      have s3 := same_new hp (o := .tup [.str (mkS wd), y, x])
      have n3 := Dt.new (K := K) hp (.cons (.str (mkS wd)) (.cons hy2 (.cons hx2 .nil)))
      have hA3 := s3 _ _ hA2
      have hd3 := Dt.keepAll (KT.same s3) _ _ hd2
      generalize upd H2 p (.tup [.str (mkS wd), y, x]) = H3 at s3 n3 hA3 hd3 ⊢
      have hyl : ys.reverse.length = ys.length := List.length_reverse
      refine ⟨B, _, .ref p, rfl, rfl, hA3, (by rw [sizeLine_eq]; omega), ?_⟩
      have kt4 : KT H3 (upd H3 B (.lst (ys.reverse ++ [.ref p]))) := KT.up (nt_lst hA3)
      refine k _ (.ref p :: ys) (((s1.trans s2).trans (.of s3)).trans .up) ?_ (.cons (Dt.keep kt4 _ _ n3) (Dt.keepAll kt4 _ _ hd3))
      rw [List.reverse_cons]
      exact upd_same
end
end PX
/-! PXRn -/
namespace PX
open PySem PySem.Spec PyProof.Rows L2 TL
theorem MvR.keepB {K : PySem.W.Frag} {H H' H2 : Hp} {d : Rd0} {l0 l : List Tk} {L : Addr} (h0 : PR K H d l0) (hL : H L = none) (m : MvR K H H' d l) (s2 : SameB L H' H2) : MvR K H H2 d l := by
  have nL : ∀ {b : Addr} {u : HO}, H b = some u → b ≠ L := fun hb e => by
    rw [e, hL] at hb
    cases hb
  obtain ⟨s, j, g, hj, h2, h3, h5, h4⟩ := m
  obtain ⟨_, _, _, i2, i3, i5, i4⟩ := h0
  refine ⟨fun b u hb hu => s2 _ _ (nL hu) (s b u hb hu), j, g, hj, s2 _ _ (nL i2) h2, s2 _ _ (nL i3) h3, s2 _ _ (nL i5) h5, ?_⟩
  exact i4.keep fun a xs ha => s2 _ _ (nL ha) (s a _ (ne_ins i2 a _ ha (fun _ _ _ => by simp)) ha)
def wsV (ws : List (List Nat)) : List V := (ws.map fun wd => V.str (mkS wd)).reverse
theorem wsV_cons (wd : List Nat) (ws : List (List Nat)) : wsV (wd :: ws) = wsV ws ++ [.str (mkS wd)] := by
  unfold wsV
  rw [List.map_cons, List.reverse_cons]
theorem wsV_len (ws : List (List Nat)) : (wsV ws).length = ws.length := by
  unfold wsV
  rw [List.length_reverse, List.length_map]
theorem atL {xs : List V} {x : V} : atI (xs ++ [x]) (-1) = some x := by
  unfold atI ixN
  simp
  rw [if_pos (by omega), show (-1 + ((xs.length : Int) + 1)).toNat = xs.length by omega]
  simp
theorem cut_last (xs : List V) (x : V) : cutV (xs ++ [x]) (some (-1)) none = [x] := by
  unfold cutV
  have e1 : HT.sIx (xs ++ [x]).length 0 (some (-1)) = xs.length := by
    show ((-1 : Int) + (((xs ++ [x]).length : Nat) : Int)).toNat = xs.length
    rw [List.length_append]
    show ((-1 : Int) + ((xs.length + 1 : Nat) : Int)).toNat = xs.length
    omega
  rw [e1, HT.sIx_none, List.drop_left, List.length_append]
  show [x].take (xs.length + 1 - xs.length) = [x]
  rw [show xs.length + 1 - xs.length = 1 by omega]
  rfl
/-- the operands and the operators that wait, ahead of the tokens l -/
structure XS (K : PySem.W.Frag) (H0 H : Hp) (d : Rd0) (A W : Addr) (l : List Tk) (ws : List (List Nat)) (xs : List V) (st : List PyData) : Prop where
  mv : MvR K H0 H d l
  a : H A = some (.lst xs.reverse)
  w : H W = some (.lst (wsV ws))
  dt : DtAll K H xs st
section
variable {K : PySem.W.Frag} {H0 H H1 : Hp} {d : Rd0} {A W : Addr} {l l0 m : List Tk} {ws : List (List Nat)} {xs : List V} {st : List PyData}
theorem XS.same (x : XS K H0 H d A W l ws xs st) (s : Same H H1) : XS K H0 H1 d A W l ws xs st := ⟨x.mv.more s, s _ _ x.a, s _ _ x.w, Dt.keepAll (KT.same s) _ _ x.dt⟩
theorem XS.move (x : XS K H0 H d A W l ws xs st) (hA : A ≠ d.r) (hW : W ≠ d.r) (s : MvR K H H1 d m) : XS K H0 H1 d A W m ws xs st := ⟨x.mv.trans s, s.1 _ _ hA x.a, s.1 _ _ hW x.w, Dt.keepAll (s.kt x.mv.2) _ _ x.dt⟩
theorem XS.setW (h0 : PR K H0 d l0) (x : XS K H0 H d A W l ws xs st) (hW : H0 W = none) (ne : A ≠ W) (ws2 : List (List Nat)) : XS K H0 (upd H W (.lst (wsV ws2))) d A W l ws2 xs st :=
  ⟨x.mv.updN h0 hW, by rw [upd_ne ne]; exact x.a, upd_same, Dt.keepAll (KT.up (nt_lst x.w)) _ _ x.dt⟩
theorem XS.push (h0 : PR K H0 d l0) (x : XS K H0 H d A W l ws xs st) (hA : H0 A = none) (ne : A ≠ W) {y : V} {t : PyData} (hy : Dt K H y t) : XS K H0 (upd H A (.lst (xs.reverse ++ [y]))) d A W l ws (y :: xs) (t :: st) :=
  have kt : KT H (upd H A (.lst (xs.reverse ++ [y]))) := KT.up (nt_lst x.a)
  ⟨x.mv.updN h0 hA, by rw [List.reverse_cons]; exact upd_same, by rw [upd_ne (Ne.symm ne)]; exact x.w, .cons (Dt.keep kt _ _ hy) (Dt.keepAll kt _ _ x.dt)⟩
theorem XS.setA (h0 : PR K H0 d l0) (x : XS K H0 H d A W l ws xs st) (hA : H0 A = none) (ne : A ≠ W) {xs2 : List V} {st2 : List PyData} (s : SameB A H H1) (h : H1 A = some (.lst xs2.reverse)) (hd : DtAll K H1 xs2 st2) : XS K H0 H1 d A W l ws xs2 st2 :=
  ⟨x.mv.keepB h0 hA s, h, s _ _ (Ne.symm ne) x.w, hd⟩
end
/-- what is to be told behind an operand -/
def cont (K : PySem.W.Frag) (d : Rd0) (H : Hp) (Q : VK) (ex : Str → List Tk → Rz) (f : Nat) (t : Tk) (r : List Tk) : Option (List Nat) → List (List Nat) → List PyData → Prop
  | none, [], [x] => rzC K d H Q (some (x, t :: r))
  | none, _, _ => False
  | some wd, ws2, st2 => rzC K d H Q (xpL (ex d.z) d.z f (wd :: ws2) st2 r)
def rkO : Option (List Nat) → Nat
  | some wd => rkN wd
  | none => 0
def optS : Option (List Nat) → V
  | some wd => .str (mkS wd)
  | none => .non
theorem word_ok {t : Tk} {wd : List Nat} (h : wordN t = some wd) : rkOk wd := by
  unfold wordN at h
  split at h
  · split at h
    · rename_i h2
      cases h
      exact of_decide_eq_true (List.all_eq_true.mp ops_ok _ (is1_mem h2))
    · cases h
  · unfold opSign at h
    cases q : kvs_OPERATOR_OF_SIGN.find? (fun q => tl q.1 == kdL t) with
    | none => rw [q] at h; cases h
    | some y =>
      have hs := List.all_eq_true.mp opsign_ok _ (List.mem_of_find?_eq_some q)
      obtain ⟨y1, y2⟩ := y
      rw [q] at h
      cases y2 with
      | str x =>
        have : tl x = wd := Option.some.inj h
        rw [← this]
        exact of_decide_eq_true hs
      | _ => cases hs
theorem minN_ok : ∀ (ws : List (List Nat)) (l : List Tk), (∀ wd ∈ ws, rkOk wd) → ∀ wd ∈ (minN ws l).1, rkOk wd
  | ws, [], h => h
  | ws, t :: r, h => by
    unfold minN
    split
    · exact minN_ok _ r fun wd hm => by
        rcases List.mem_cons.mp hm with rfl | hm
        · exact rk_neg
        · exact h wd hm
    · exact h
theorem minN_len : ∀ (ws : List (List Nat)) (l : List Tk), (minN ws l).1.length + (minN ws l).2.length = ws.length + l.length ∧ (minN ws l).2.length ≤ l.length
  | ws, [] => ⟨rfl, Nat.le_refl _⟩
  | ws, t :: r => by
    unfold minN
    split
    · have := minN_len (cNeg :: ws) r
      rw [List.length_cons] at this
      rw [List.length_cons]
      exact ⟨by omega, by omega⟩
    · exact ⟨rfl, Nat.le_refl _⟩
section
variable {P : Program} {w : World} {K : PySem.W.Frag} {mg : Str → Option Value} {base : Heap}
theorem ok_read_expression (T : Tx w K mg) {e : Nat} (he : 4 ≤ e) {ex : Str → List Tk → Rz} (hE : OkX P w K mg base e ex) : OkX P w K mg base (e + 7) (fun z => xpN (ex z) z) := by
  obtain ⟨fd, F⟩ := f_PathReader_read_expression T
  obtain ⟨fX, GX, bX, kX⟩ := ok_read_operand T he hE
  obtain ⟨fO, GO, bO, kO⟩ := ok_operator_word (P := P) (base := base) T
  obtain ⟨fN, GN, bN, kN⟩ := ok_bind (P := P) (base := base) T
  obtain ⟨es, n, D⟩ := He.dicW_ok T.tab_OPERATOR_OF_SIGN
  refine ⟨fd, ?_, b_PathReader_read_expression F, F.kp⟩
  refine F.ok sc_PathReader_read_expression (fun vs H Q E h => ?_) (fun cdv A outer s H vs Q E hr h => ?_)
  · obtain ⟨d, l, rfl, _⟩ := h
    rfl
  · obtain ⟨d, l, rfl, hp, k⟩ := h
    have nd := sc_PathReader_read_expression.nd
    refine ⟨_, PSs.nox (pss_cons (ps_set (i := 1) nd rfl (.inl rfl) (pe_lst pa_nil))
      (pss_cons (ps_set (i := 2) nd rfl (.inl rfl) (pe_lst pa_nil))
      (pss_cons (ps_set (i := 3) nd rfl (.inl rfl) (pe_fld (pv 0) rfl))
      (pss_one (ps_while PassesOwn.never (pt_val pe_bl)
        (pss_cons (ps_while PassesOwn.never (pw_and (pt_cmpR op_eq (pe_ix ix_list (pv 3) (pe_fld (pv 0) rfl) (fun _ _ => rfl)) pe_str (nomark _)) (pw_and1 (pt_cmpR (op_neD hr.units) (pe_slice sl_list (pv 2) (po_some (pe_un un_neg pe_int)) po_none) (pe_lst (pa_cons pe_str pa_nil)) (nomark _)))).pt
          (pss_cons (ps_fldaug (pv 0) pe_int ip_add) (pss_one (ps_expr (pe_bm PySem.F.plainAttrs_list PySem.F.slot_list_append PySem.F.type_list_append mt_append (pv 2) (pa_cons pe_str pa_nil))))))
        (pss_cons (ps_expr (pe_bm PySem.F.plainAttrs_list PySem.F.slot_list_append PySem.F.type_list_append mt_append (pv 1) (pa_cons (pe_meth0 (E := E0) (pv 0) (cls_PathReader T) (m_PathReader_read_operand T) GX (hr.mono (by omega)) bX .nil pass0) pa_nil)))
        (pss_cons (ps_set (i := 4) nd rfl (.inl rfl) (pe_ix ix_list (pv 3) (pe_fld (pv 0) rfl) (fun _ _ => rfl)))
        (Evl.pss_cut (ps_set (i := 5) nd rfl (.inl rfl) (pe_ifExp (pt_cmpR op_eq (pv 4) pe_str (nomark _)) (pe_meth0 (E := E0) (pv 0) (cls_PathReader T) (m_PathReader_operator_word T) GO (hr.mono (by omega)) bO .nil pass0) (pe_kget1 D (pe_glob (v := .ref (He.ga K "OPERATOR_OF_SIGN")) (by rfl) (g_OPERATOR_OF_SIGN T) rfl) (pv 4) ⟨rfl, rfl, rfl, rfl⟩)))
        (Evl.pss_cut (ps_set (i := 6) nd rfl (.inl rfl) (pe_ifExp (pt_cmpR op_notN (pv 5) pe_non (nomark _)) (pe_ix ix_kdict (pe_glob (v := .ref (He.ga K "RANKS")) (by rfl) (g_RANKS T) rfl) (pv 5) (fun _ _ => rfl)) pe_int))
        (pss_cons (ps_while PassesOwn.never (pw_and (pt_truth (pv 2) (by intro _; rfl)) (pw_and1 (pt_cmpR op_ge (pe_ix ix_kdict (pe_glob (v := .ref (He.ga K "RANKS")) (by rfl) (g_RANKS T) rfl) (pe_ix ix_list (pv 2) (pe_un un_neg pe_int) (fun _ _ => rfl)) (fun _ _ => rfl)) (pv 6) (nomark _)))).pt
          (pss_one (ps_expr (pe_call (E := E0) GN (hr.mono (by omega)) (by rfl) (g_bind T) kN bN .nil pass0 (pa_cons (pv 1) (pa_cons (pe_bm0 PySem.F.plainAttrs_list PySem.F.slot_list_pop PySem.F.type_list_pop mt_pop (pv 2)) pa_nil))))))
        (pss_cons (ps_if (pt_cmpR op_isN (pv 5) pe_non (nomark _)) (pss_one (ps_ret (pe_ix ix_list (pv 1) pe_int (fun _ _ => rfl)))) pss_nil)
        (pss_cons (ps_fldaug (pv 0) pe_int ip_add)
        (pss_one (ps_expr (pe_bm PySem.F.plainAttrs_list PySem.F.slot_list_append PySem.F.type_list_append mt_append (pv 2) (pa_cons (pv 5) pa_nil))))))))))))))))), ?_⟩
    refine ⟨by decide, fun B hB => ?_⟩
    refine ⟨by decide, fun W hW1 => ?_⟩
    have s1 := same_new hB (o := .lst [])
    have s2 := same_new hW1 (o := .lst [])
    have hW : H W = none := by
      cases q : H W with
      | none => rfl
      | some u =>
        have := s1 _ _ q
        rw [hW1] at this
        cases this
    have ne : B ≠ W := fun e => by
      rw [← e, upd_same] at hW1
      cases hW1
    have x0 : XS K H (upd (upd H B (.lst [])) W (.lst [])) d B W l [] [] [] := ⟨MvR.same hp (s1.trans s2), by rw [upd_ne ne]; exact upd_same, upd_same, .nil⟩
    have hBr := ne_new hp hB
    have hWr := ne_new hp hW
    generalize upd (upd H B (.lst [])) W (.lst []) = H1 at x0 ⊢
    clear s1 s2 hW1
    have hl0 := hp.len
    have hp1 := x0.mv.2
    obtain ⟨j, g, hj, h2, h3, h5, h4⟩ := hp1
    refine ⟨_, rfl, d.r, CP K, d.dx, _, _, rfl, h2, cls_PathReader T, na_PathReader_kinds T, pr_kinds, ?_⟩
    refine while_x (fun mm σ H2 => ∃ (v4 v5 v6 : Option V) (ws : List (List Nat)) (xs : List V) (st : List PyData) (l : List Tk), σ = [some (.ref d.r), some (.ref B), some (.ref W), some (.ref d.M), v4, v5, v6] ∧ XS K H H2 d B W l ws xs st ∧ (∀ wd ∈ ws, rkOk wd) ∧ ws.length + l.length ≤ 400002 ∧ st.length + l.length ≤ 400002 ∧ rzC K d H Q (xpL (ex d.z) d.z mm ws st l))
      (fun _ _ => False) ⟨_, none, none, none, [], [], [], l, rfl, x0, (fun _ h => by cases h), (by simp; omega), (by simp; omega), k⟩ (fun _ _ h => h.elim) ?_
    clear j g hj h2 h3 h5 h4 x0 k
    rintro - mm σ H2 R ⟨v4, v5, v6, ws, xs, st, l, rfl, x2, hok, hn1, hn2, k⟩ hfin hbody
    refine ⟨_, rfl, ?_⟩
    refine hbody _ ?_
    clear hfin hbody R
    cases mm with
    | zero => exact k.elim
    | succ f =>
    dsimp only [tSeq]
    refine while_x (fun mm σ H3 => ∃ (ws' : List (List Nat)) (l' : List Tk), σ = [some (.ref d.r), some (.ref B), some (.ref W), some (.ref d.M), v4, v5, v6] ∧ XS K H H3 d B W l' ws' xs st ∧ (∀ wd ∈ ws', rkOk wd) ∧ ws'.length + l'.length = ws.length + l.length ∧ l'.length = mm ∧ l'.length ≤ l.length ∧ minN ws' l' = minN ws l)
      (fun σ H3 => σ = [some (.ref d.r), some (.ref B), some (.ref W), some (.ref d.M), v4, v5, v6] ∧ XS K H H3 d B W (minN ws l).2 (minN ws l).1 xs st) ⟨_, ws, l, rfl, x2, hok, rfl, rfl, Nat.le_refl _, rfl⟩ ?_ ?_
    · rintro σ H3 ⟨rfl, x3⟩
      have hmo := minN_ok ws l hok
      have hml := minN_len ws l
      unfold xpL at k
      generalize minN ws l = mw at x3 hmo hml k
      obtain ⟨ws1, l1⟩ := mw
      dsimp only at x3 hmo hml k
      cases hop : opnN (ex d.z) d.z l1 with
      | none => rw [hop] at k; exact k.elim
      | some q =>
      obtain ⟨v, l2⟩ := q
      rw [hop] at k
      cases l2 with
      | nil => exact k.elim
      | cons t r =>
      dsimp only at k
      by_cases hlt : r.length < l1.length
      · rw [if_pos hlt] at k
        obtain ⟨j3, h23⟩ := x3.mv.2.rm
        have hxl3 := x3.dt.len
        have hrl : xs.reverse.length = xs.length := List.length_reverse
        refine ⟨_, rfl, .inl ⟨rfl, _, SqL.of x3.a⟩, _, rfl, d.r, d.dx, _, rfl, h23, pr_no (by decide +kernel), d, l1, rfl, x3.mv.2, ?_⟩
        show rzC K d H3 _ (opnN (ex d.z) d.z l1)
        rw [hop]
        intro H4 y mv4 hy
        have x4 := x3.move hBr hWr mv4
        refine ⟨B, _, y, rfl, rfl, x4.a, (by rw [sizeLine_eq]; omega), ?_⟩
        have x5 := x4.push hp hB ne hy
        generalize upd H4 B (.lst (xs.reverse ++ [y])) = H5 at x5 ⊢
        clear x4 hy mv4 x3 h23
        have hp5 := x5.mv.2
        obtain ⟨j, g, hj, h2, h3, h5, h4⟩ := hp5
        refine ⟨_, rfl, _, rfl, d.r, CP K, d.dx, _, _, rfl, h2, cls_PathReader T, na_PathReader_at T, pr_at, d.M, _, (j : Int), _, rfl, rfl, SqL.of h5, atI_nat (kd_at hj), ?_⟩
        refine ⟨fun σ H6 => σ = [some (.ref d.r), some (.ref B), some (.ref W), some (.ref d.M), some (.str (kdS t)), some (optS (wordN t)), v6] ∧ H6 = H5, ?_, ?_⟩
        · refine ⟨_, rfl, rfl, _, rfl, ?_⟩
          show if decide (V.str (kdS t) = V.str (Str.ofString "name")) = true then _ else _
          rw [kd_lit t cNam]
          unfold wordN
          cases c1 : kdL t == cNam with
          | true =>
            refine iteT ?_
            refine ⟨_, rfl, d.r, d.dx, _, rfl, h2, pr_no (by decide +kernel), d, t, r, rfl, x5.mv.2, ?_⟩
            refine ⟨?_, rfl⟩
            unfold wordV
            rw [if_pos rfl]
            cases is1 t.2.1 opWords <;> rfl
          | false =>
            refine iteF ?_
            obtain ⟨r1, e1, h⟩ := sign_in T (kdL t)
            rw [if_neg Bool.false_ne_true]
            refine ⟨rfl, _, rfl, kdS t, r1, rfl, (by rw [kd_tl]; exact e1), ?_⟩
            rcases h with ⟨rfl, e2⟩ | ⟨u, o, rfl, e2, rv, _⟩
            · rw [e2]
              exact ⟨rfl, rfl⟩
            · rw [e2]
              exact ⟨_, rv, rfl, rfl⟩
        · rintro σ H6 ⟨rfl, rfl⟩
          have hword : ∀ wd, wordN t = some wd → rkOk wd := fun wd h => word_ok h
          generalize wordN t = wo at k hword ⊢
          refine ⟨fun σ H7 => σ = [some (.ref d.r), some (.ref B), some (.ref W), some (.ref d.M), some (.str (kdS t)), some (optS wo), some (.int ((rkO wo : Nat) : Int))] ∧ H7 = H6, ?_, ?_⟩
          · refine ⟨_, rfl, rfl, _, rfl, ?_⟩
            show if (!decide (optS wo = V.non)) = true then _ else _
            cases wo with
            | none =>
              refine iteF ?_
              exact ⟨rfl, rfl⟩
            | some wd =>
              refine iteT ?_
              exact ⟨_, rfl, He.ga K "RANKS", mkS wd, .int (rkN wd : Int), rfl, rfl, rk_in T (hword wd rfl), rfl, rfl⟩
          · rintro σ H7 ⟨rfl, rfl⟩
            clear h2 h3 h4 h5 hj g j
            obtain ⟨ws2, st2, hf, k2⟩ : ∃ ws2 st2, fldN (rkO wo) ws1 (v :: st) = some (ws2, st2) ∧ cont K d H Q ex f t r wo ws2 st2 := by
              cases wo with
              | none =>
                show ∃ ws2 st2, fldN 0 ws1 (v :: st) = some (ws2, st2) ∧ _
                dsimp only at k
                cases c : fldN 0 ws1 (v :: st) with
                | none => rw [c] at k; exact k.elim
                | some q =>
                  obtain ⟨a, b⟩ := q
                  rw [c] at k
                  refine ⟨a, b, rfl, ?_⟩
                  match a, b, k with
                  | [], [x], k => exact k
              | some wd =>
                show ∃ ws2 st2, fldN (rkN wd) ws1 (v :: st) = some (ws2, st2) ∧ _
                dsimp only at k
                cases c : fldN (rkN wd) ws1 (v :: st) with
                | none => rw [c] at k; exact k.elim
                | some q =>
                  rw [c] at k
                  exact ⟨q.1, q.2, rfl, k⟩
            clear k
            generalize hrank : rkO wo = rank at hf ⊢
            dsimp only [tSeq]
            refine while_x (fun mm σ H8 => σ = [some (.ref d.r), some (.ref B), some (.ref W), some (.ref d.M), some (.str (kdS t)), some (optS wo), some (.int (rank : Int))] ∧ ∃ (ws' : List (List Nat)) (xs' : List V) (st' : List PyData), XS K H H8 d B W (t :: r) ws' xs' st' ∧ (∀ wd ∈ ws', rkOk wd) ∧ ws'.length = mm ∧ ws'.length ≤ ws1.length ∧ st'.length ≤ st.length + 1 ∧ fldN rank ws' st' = some (ws2, st2))
              (fun σ H8 => σ = [some (.ref d.r), some (.ref B), some (.ref W), some (.ref d.M), some (.str (kdS t)), some (optS wo), some (.int (rank : Int))] ∧ ∃ (xs2 : List V), XS K H H8 d B W (t :: r) ws2 xs2 st2 ∧ (∀ wd ∈ ws2, rkOk wd) ∧ ws2.length ≤ ws1.length ∧ st2.length ≤ st.length + 1)
              ⟨_, rfl, ws1, _, _, x5, hmo, rfl, Nat.le_refl _, (by simp), hf⟩ ?_ ?_
            · rintro σ H8 ⟨rfl, xs2, x8, hok8, hw8, hs8⟩
              have hp8 := x8.mv.2
              obtain ⟨j, g, hj, h2, h3, h5, h4⟩ := hp8
              refine ⟨_, rfl, rfl, _, rfl, ?_⟩
              show if decide (optS wo = V.non) = true then _ else _
              cases wo with
              | none =>
                refine iteT ?_
                match ws2, st2, k2, x8 with
                | [], [x], k2, x8 =>
                  have hd := x8.dt
                  cases hd with
                  | cons hx hnil =>
                  cases hnil
                  have ha := x8.a
                  refine ⟨_, rfl, B, _, 0, _, rfl, rfl, SqL.of ha, atI0 _ _, ?_⟩
                  exact k2 _ _ x8.mv hx
              | some wd =>
                refine iteF ?_
                refine ⟨_, rfl, d.r, CP K, d.dx, _, _, rfl, h2, cls_PathReader T, na_PathReader_at T, pr_at, _, _, rfl, rfl, d.dx, _, h2, (by show 5 < 1000; decide), ?_⟩
                rw [pr_put (i := j + 1) (by show ((j : Nat) : Int) + 1 = ((j + 1 : Nat) : Int); omega)]
                have mv9 := PR.go x8.mv.2 (drop_one hj)
                generalize upd H8 _ _ = H9 at mv9 ⊢
                have x9 := x8.move hBr hWr mv9
                have hwl := wsV_len ws2
                refine ⟨_, rfl, .inl ⟨rfl, _, SqL.of x9.w⟩, _, rfl, W, _, _, rfl, rfl, x9.w, (by rw [sizeLine_eq]; omega), ?_⟩
                have x10 := x9.setW hp hW ne (wd :: ws2)
                rw [wsV_cons] at x10
                refine ⟨f, by omega, _, _, _, wd :: ws2, xs2, st2, r, rfl, x10, ?_, ?_, ?_, k2⟩
                · intro u hu
                  rcases List.mem_cons.mp hu with rfl | hu
                  · exact hword _ rfl
                  · exact hok8 u hu
                · rw [List.length_cons]
                  omega
                · omega
            · rintro - mm σ H8 R ⟨rfl, ws', xs', st', x8, hok8, rfl, hw8, hs8, hf8⟩ hfin hbody
              refine ⟨_, rfl, !(wsV ws').isEmpty, .inl ⟨_, SqL.of x8.w, rfl⟩, ?_⟩
              cases ws' with
              | nil =>
                cases hf8
                refine iteF ?_
                exact hfin _ ⟨rfl, xs', x8, hok8, hw8, hs8⟩
              | cons wd ws' =>
                have hwx := x8.w
                rw [wsV_cons] at hwx
                have hnE : (wsV (wd :: ws')).isEmpty = false := by
                  rw [wsV_cons]
                  simp
                rw [hnE]
                refine iteT ?_
                refine ⟨_, rfl, 1, rfl, W, _, -1, .str (mkS wd), rfl, rfl, SqL.of hwx, atL, He.ga K "RANKS", mkS wd, .int (rkN wd : Int), rfl, rfl, rk_in T (hok8 wd List.mem_cons_self), _, rfl, _, _, rfl, rfl, _, rfl, ?_⟩
                show R (decide ((rank : Int) ≤ (rkN wd : Int))) H8
                unfold fldN at hf8
                by_cases hr9 : rank ≤ rkN wd
                · rw [if_pos hr9] at hf8
                  rw [decide_eq_true (show (rank : Int) ≤ (rkN wd : Int) by omega)]
                  cases hb : bndN wd st' with
                  | none => rw [hb] at hf8; cases hf8
                  | some st3 =>
                    rw [hb] at hf8
                    dsimp only at hf8
                    refine hbody _ ?_
                    have hxl8 := x8.dt.len
                    refine ⟨_, rfl, _, rfl, .inl ⟨rfl, _, SqL.of hwx⟩, W, _, .str (mkS wd), rfl, rfl, hwx, (by simp), ?_⟩
                    rw [List.dropLast_concat]
                    have x9 := x8.setW hp hW ne ws'
                    generalize upd H8 W (.lst (wsV ws')) = H9 at x9 ⊢
                    rw [List.length_cons] at hw8
                    refine ⟨B, xs', st', st3, wd, rfl, x9.a, x9.dt, (by omega), hb, fun H10 xs10 sB hA10 hd10 => ?_⟩
                    have x10 := x9.setA hp hB ne sB hA10 hd10
                    have hst3 : st3.length ≤ st'.length := by
                      unfold bndN at hb
                      cases st' with
                      | nil => cases hb
                      | cons a st' =>
                        dsimp only at hb
                        split at hb
                        · cases hb
                          exact Nat.le_refl _
                        · cases st' with
                          | nil => cases hb
                          | cons b st' =>
                            cases hb
                            exact Nat.le_succ _
                    exact ⟨ws'.length, by rw [List.length_cons]; omega, rfl, ws', xs10, st3, x10, fun u hu => hok8 u (List.mem_cons_of_mem _ hu), rfl, by omega, by omega, hf8⟩
                · rw [if_neg hr9] at hf8
                  cases hf8
                  rw [decide_eq_false (show ¬ (rank : Int) ≤ (rkN wd : Int) by omega)]
                  exact hfin _ ⟨rfl, xs', x8, hok8, hw8, hs8⟩
      · rw [if_neg hlt] at k
        exact k.elim
    · rintro - mm σ H3 R ⟨ws', l', rfl, x3, hok3, hl3, rfl, hl4, e3⟩ hfin hbody
      have hp3 := x3.mv.2
      cases l' with
      | nil =>
        exfalso
        obtain ⟨j, g, hj, _⟩ := hp3
        have e : minN ws' [] = (ws', []) := by cases ws' <;> rfl
        unfold xpL at k
        rw [← e3, e] at k
        exact k
      | cons t r =>
      obtain ⟨j, g, hj, h2, h3, h5, h4⟩ := hp3
      have em : minN ws' (t :: r) = if (kdL t == [45] && !(ws'.head? == some cUni)) = true then minN (cNeg :: ws') r else (ws', t :: r) := by
        cases ws' <;> rfl
      rw [em] at e3
      refine ⟨_, rfl, _, rfl, d.r, CP K, d.dx, _, _, rfl, h2, cls_PathReader T, na_PathReader_at T, pr_at, d.M, _, (j : Int), _, rfl, rfl, SqL.of h5, atI_nat (kd_at hj), rfl, _, rfl, ?_⟩
      show if decide (V.str (kdS t) = V.str (Str.ofString "-")) = true then _ else _
      rw [kd_lit t [45]]
      cases c1 : kdL t == [45] with
      | false =>
        rw [c1, Bool.false_and, if_neg Bool.false_ne_true] at e3
        refine iteF ?_
        exact hfin _ ⟨rfl, by rw [← e3]; exact x3⟩
      | true =>
        rw [c1, Bool.true_and] at e3
        refine iteT ?_
        refine ⟨_, rfl, 1, rfl, -1, rfl, W, _, rfl, SqL.of x3.w, fun p hpn => ?_⟩
        have s1 := same_new hpn (o := .lst (cutV (wsV ws') (some (-1)) none))
        have hb1 : upd H3 p (.lst (cutV (wsV ws') (some (-1)) none)) p = some (.lst (cutV (wsV ws') (some (-1)) none)) := upd_same
        generalize upd H3 p (.lst (cutV (wsV ws') (some (-1)) none)) = H4 at s1 hb1 ⊢
        refine ⟨(by show 1 ≤ sizeLine; decide), fun p2 hpn2 => ?_⟩
        have s2 := same_new hpn2 (o := .lst [V.str (Str.ofString "union")])
        have hb2 : upd H4 p2 (.lst [V.str (Str.ofString "union")]) p2 = some (.lst [V.str (Str.ofString "union")]) := upd_same
        generalize upd H4 p2 (.lst [V.str (Str.ofString "union")]) = H5 at s2 hb2 ⊢
        have x5 := x3.same (s1.trans s2)
        have h25 := s2 _ _ (s1 _ _ h2)
        have fin2 : ∀ c, c = (ws'.head? == some cUni) → R (!c) H5 := by
          intro c hc
          subst hc
          cases c2 : ws'.head? == some cUni with
          | true =>
            rw [c2] at e3
            exact hfin _ ⟨rfl, by rw [← e3]; exact x5⟩
          | false =>
            rw [c2] at e3
            refine hbody _ ?_
            refine ⟨_, rfl, d.r, CP K, d.dx, _, _, rfl, h25, cls_PathReader T, na_PathReader_at T, pr_at, _, _, rfl, rfl, d.dx, _, h25, (by show 5 < 1000; decide), ?_⟩
            rw [pr_put (i := j + 1) (by show ((j : Nat) : Int) + 1 = ((j + 1 : Nat) : Int); omega)]
            have mv6 := PR.go x5.mv.2 (drop_one hj)
            generalize upd H5 _ _ = H6 at mv6 ⊢
            have x6 := x5.move hBr hWr mv6
            have hwl := wsV_len ws'
            rw [List.length_cons] at hl3 hl4
            refine ⟨_, rfl, .inl ⟨rfl, _, SqL.of x6.w⟩, W, _, _, rfl, rfl, x6.w, (by rw [sizeLine_eq]; omega), ?_⟩
            have x7 := x6.setW hp hW ne (cNeg :: ws')
            rw [wsV_cons] at x7
            refine ⟨r.length, by rw [List.length_cons]; omega, cNeg :: ws', r, rfl, x7, ?_, by rw [List.length_cons]; omega, rfl, by omega, e3⟩
            intro u hu
            rcases List.mem_cons.mp hu with rfl | hu
            · exact rk_neg
            · exact hok3 u hu
        cases ws' with
        | nil =>
          have ec : cutV (wsV []) (some (-1)) none = [] := rfl
          rw [ec] at hb1
          refine ⟨_, _, .lst (SqL.of (s2 _ _ hb1)) .nil, .lst (SqL.of hb2) (.cons (.str _) .nil), by decide +kernel, by decide +kernel, ?_⟩
          exact ⟨_, rfl, fin2 _ rfl⟩
        | cons wd ws' =>
          have ec : cutV (wsV (wd :: ws')) (some (-1)) none = [.str (mkS wd)] := by
            rw [wsV_cons]
            exact cut_last _ _
          rw [ec] at hb1
          refine ⟨_, _, .lst (SqL.of (s2 _ _ hb1)) (.cons (.str _) .nil), .lst (SqL.of hb2) (.cons (.str _) .nil), ?_, by decide +kernel, ?_⟩
          · have h1 : PyData.canLay0 (.list [.str (mkS wd)]) = true := by
              show (PyData.strOk (mkS wd) && true) = true
              rw [rk_str (hok3 wd List.mem_cons_self)]
              rfl
            unfold SeqAt.shaped
            rw [h1]
            rfl
          · refine ⟨_, rfl, fin2 _ ?_⟩
            show ((mkS wd == Str.ofString "union") && true) = (some wd == some cUni)
            rw [Bool.and_true, beq_mk, tl_mkS]
            show decide (wd = cUni) = _
            by_cases h : wd = cUni
            · subst h; rfl
            · rw [decide_eq_false h]
              exact (beq_eq_false_iff_ne.mpr (fun q => h (Option.some.inj q))).symm
end
end PX
/-! PXRo -/
namespace PX
open PySem PySem.Spec PyProof.Rows L2 TL
theorem put_new {f : Str} {v : V} : putF f v [] = [(f, v)] := rfl
theorem Toks.get {H : Hp} : ∀ {vs : List V} {ts : List Tk} {j : Nat} {v : V}, Toks H vs ts → vs[j]? = some v → ∃ t, ts[j]? = some t ∧ TkAt H v t
  | [], [], j, v, _, h => by simp at h
  | u :: vs, t :: ts, 0, v, ⟨a, _⟩, h => by
    cases h
    exact ⟨t, rfl, a⟩
  | u :: vs, t :: ts, j + 1, v, ⟨_, k⟩, h => Toks.get (j := j) k h
  | [], _ :: _, _, _, h, _ => h.elim
  | _ :: _, [], _, _, h, _ => h.elim
theorem ix_tupK {X : Cx} {K : PySem.W.Frag} (h : X.K = K) : IxR X (rIxT K) := h ▸ ix_tup
section
variable {P : Program} {w : World} {K : PySem.W.Frag} {mg : Str → Option Value} {base : Heap}
theorem ok_expr0 (T : Tx w K mg) : OkX P w K mg base 4 (fun z => xpD 0 z) := by
  obtain ⟨fd, F⟩ := f_PathReader_read_expression T
  refine ⟨fd, ?_, b_PathReader_read_expression F, F.kp⟩
  refine F.ok sc_PathReader_read_expression (fun vs H Q E h => ?_) (fun cdv A outer s H vs Q E hr h => ?_)
  · obtain ⟨d, l, rfl, _⟩ := h
    rfl
  · obtain ⟨d, l, rfl, hp, k⟩ := h
    exact k.elim
theorem ok_expr (T : Tx w K mg) : ∀ n, OkX P w K mg base (4 + 7 * n) (fun z => xpD n z)
  | 0 => ok_expr0 T
  | n + 1 => ok_read_expression T (e := 4 + 7 * n) (by omega) (ok_expr T n)
/-- the whole text as a path -/
def endN (r : Rz) : Option PyData := match r with
  | some (v, t :: _) => if kdL t == cEnd then some v else none
  | _ => none
def spRp (K : PySem.W.Frag) (n : Nat) : Sp := fun vs H Q _ => ∃ (d : Rd0) (l : List Tk) (t : PyData), vs = [.ref d.r] ∧ PR K H d l ∧ endN (xpD n d.z l) = some t ∧ ∀ H' v m, MvR K H H' d m → Dt K H' v t → Q v H'
theorem ok_read_path (T : Tx w K mg) (n : Nat) : Ok P w K mg base CX0 (5 + 7 * n) (He.fAd K d_PathReader_read_path.at_) p_PathReader_read_path (spRp K n) := by
  obtain ⟨fd, F⟩ := f_PathReader_read_path T
  obtain ⟨fE, GE, bE, kE⟩ := ok_expr (P := P) (base := base) T n
  refine ⟨fd, ?_, b_PathReader_read_path F, F.kp⟩
  have hlev : 5 + 7 * n = (4 + 7 * n) + 1 := by omega
  rw [hlev]
  refine F.ok sc_PathReader_read_path (fun vs H Q E h => ?_) (fun cdv A outer s H vs Q E hr h => ?_)
  · obtain ⟨d, l, t, rfl, _⟩ := h
    rfl
  · obtain ⟨d, l, t, rfl, hp, hx, k⟩ := h
    have nd := sc_PathReader_read_path.nd
    refine ⟨_, PSs.nox (pss_cons (ps_set (i := 1) nd rfl (.inl rfl) (pe_meth0 (E := E0) (pv 0) (cls_PathReader T) (m_PathReader_read_expression T) GE (hr.mono (by omega)) bE .nil pass0))
      (pss_cons (ps_if (pt_cmpR op_ne (pe_ix ix_list (pe_fld (pv 0) rfl) (pe_fld (pv 0) rfl) (fun _ _ => rfl)) pe_str (nomark _)) pss_no pss_nil)
      (pss_one (ps_ret (pv 1))))), ?_⟩
    obtain ⟨j, h2⟩ := hp.rm
    refine ⟨_, rfl, d.r, d.dx, _, rfl, h2, pr_no (by decide +kernel), d, l, rfl, hp, ?_⟩
    show rzC K d H _ (xpD n d.z l)
    cases hq : xpD n d.z l with
    | none => rw [hq] at hx; cases hx
    | some q =>
      obtain ⟨v, l2⟩ := q
      rw [hq] at hx
      cases l2 with
      | nil => cases hx
      | cons y m =>
        unfold endN at hx
        dsimp only at hx
        cases he : kdL y == cEnd with
        | false => rw [he, if_neg Bool.false_ne_true] at hx; cases hx
        | true =>
          rw [he, if_pos rfl] at hx
          cases hx
          intro H1 x m1 hv
          have hp1 := m1.2
          obtain ⟨j, g, hj, h2, h3, h5, h4⟩ := hp1
          refine ⟨_, rfl, d.r, CP K, d.dx, _, _, rfl, h2, cls_PathReader T, na_PathReader_kinds T, pr_kinds, _, rfl, d.r, CP K, d.dx, _, _, rfl, h2, cls_PathReader T, na_PathReader_at T, pr_at, d.M, _, (j : Int), _, rfl, rfl, SqL.of h5, atI_nat (kd_at hj), rfl, _, rfl, ?_⟩
          show if (!decide (V.str (kdS y) = V.str (Str.ofString "end"))) = true then _ else _
          rw [kd_lit y cEnd, he]
          refine iteF ?_
          exact ⟨_, rfl, k _ _ _ m1 hv⟩
def spPi (K : PySem.W.Frag) : Sp := fun vs H Q _ => ∃ (r dx : Addr) (z : Str), vs = [.ref r, .str z, .bl false] ∧ H r = some (.ins (CP K) dx []) ∧ Gd z ∧ ∀ H' L M ts, PR K H' ⟨r, dx, L, M, z, ts⟩ (tokL z) → SameB r H H' → Q .non H'
theorem ok_reader_init (T : Tx w K mg) : Ok P w K mg base CX0 6 (He.fAd K d_PathReader_init.at_) p_PathReader_init (spPi K) := by
  obtain ⟨fd, F⟩ := f_PathReader_init T
  obtain ⟨fT, GT, bT, kT⟩ := ok_tokens_in (P := P) (base := base) T
  refine ⟨fd, ?_, b_PathReader_init F, F.kp⟩
  refine F.ok sc_PathReader_init (fun vs H Q E h => ?_) (fun cdv A outer s H vs Q E hr h => ?_)
  · obtain ⟨r, dx, z, rfl, _⟩ := h
    rfl
  · obtain ⟨r, dx, z, rfl, h0, g, k⟩ := h
    have nd := sc_PathReader_init.nd
    refine ⟨_, PSs.nox (pss_cons (ps_fld (pv 0) (pv 1) rfl) (pss_cons (ps_fld (pv 0) (pv 2) rfl)
      (pss_cons (ps_fld (pv 0) (pe_call (E := E0) GT (hr.mono (by decide)) rfl (g_tokens_in T) kT bT .nil pass0 (pa_cons (pv 1) pa_nil)) rfl)
      (pss_cons (ps_fld (pv 0) (pe_lc (own := [("token", 3)]) (g := gName 3) (tt := tYes) (by rfl) nd (pi_list (pe_fld (pv 0) rfl)) (blkOk_by (own := [("token", 3)]) (N := N_PathReader_init) (sc := defScope s_PathReader_init) (by decide +kernel))
              (fun _ _ _ _ _ => pg_name (i := 3) nd rfl (Or.inl rfl)) (fun _ _ _ _ _ => pts_nil)
              (fun _ _ _ _ _ => pe_ifExp (pt_cmpR op_eq (pe_ix (ix_tupK (K := K) rfl) (pv 3) pe_int (fun _ _ => rfl)) pe_str (nomark _)) (pe_ix (ix_tupK (K := K) rfl) (pv 3) pe_int (fun _ _ => rfl)) (pe_ix (ix_tupK (K := K) rfl) (pv 3) pe_int (fun _ _ => rfl)))) rfl)
      (pss_one (ps_fld (pv 0) pe_int rfl)))))), ?_⟩
    refine ⟨_, rfl, _, rfl, r, CP K, dx, _, rfl, h0, cls_PathReader T, na_PathReader_text T, (by decide), ?_⟩
    refine ⟨_, rfl, _, rfl, r, CP K, dx, _, rfl, upd_same, cls_PathReader T, na_PathReader_closed T, (by show 1 < 1000; decide), ?_⟩
    refine ⟨_, rfl, z, rfl, g, fun H1 L ts s1 hL hL1 tk => ?_⟩
    refine ⟨_, rfl, r, CP K, dx, _, rfl, s1 _ _ upd_same, cls_PathReader T, na_PathReader_tokens T, (by show 2 < 1000; decide), ?_⟩
    have hLr : L ≠ r := fun e => by
      rw [e, upd_same] at hL
      cases hL
    have s2 : SameB r H (upd H1 r (.ins (CP K) dx [("text", .str z), ("closed", .bl false), ("tokens", .ref L)])) := ((SameB.up.trans .up).trans (.of s1)).trans .up
    have hr2 : upd H1 r (.ins (CP K) dx [("text", .str z), ("closed", .bl false), ("tokens", .ref L)]) r = some (.ins (CP K) dx [("text", .str z), ("closed", .bl false), ("tokens", .ref L)]) := upd_same
    have hL2 : upd H1 r (.ins (CP K) dx [("text", .str z), ("closed", .bl false), ("tokens", .ref L)]) L = some (.lst ts) := by
      rw [upd_ne hLr]
      exact hL1
    have tk2 : Toks (upd H1 r (.ins (CP K) dx [("text", .str z), ("closed", .bl false), ("tokens", .ref L)])) ts (tokL z) := tk.keep fun a xs ha => by
      have har : a ≠ r := fun e => by
        subst e
        have := s1 _ _ (upd_same (H := upd H a (.ins (CP K) dx (putF "text" (.str z) []))) (a := a) (o := .ins (CP K) dx (putF "closed" (.bl false) (putF "text" (.str z) []))))
        rw [this] at ha
        cases ha
      rw [upd_ne har]
      exact ha
    show (tSeq _ _) _ _ (upd H1 r (.ins (CP K) dx [("text", .str z), ("closed", .bl false), ("tokens", .ref L)]))
    generalize upd H1 r (.ins (CP K) dx [("text", .str z), ("closed", .bl false), ("tokens", .ref L)]) = H2 at s2 hr2 hL2 tk2 ⊢
    have htl : ts.length = (tokL z).length := tk2.len
    have hts : (tokL z).length ≤ 400001 := by
      have h1 := tks_len (z.length + 1) 0 (tl z)
      have h2 := g.len
      have h3 : (tokL z).length ≤ z.length + 1 := h1
      omega
    refine ⟨_, rfl, r, CP K, dx, _, _, rfl, hr2, cls_PathReader T, na_PathReader_tokens T, (lk_skip (by decide +kernel)).trans ((lk_skip (by decide +kernel)).trans lk_hit), L, rfl, ⟨_, SqL.of hL2⟩, fun D hD => ?_⟩
    refine lc_it (walk_list (K := K) (a := L) (xs := ts)) (fun t H6 => Same H2 H6 ∧ H6 D = some (.lst ((kdV (tokL z)).take t)))
      ⟨same_new hD, upd_same⟩ (fun t H6 _ h => SqL.of (h.1 _ _ hL2)) ?_ ?_
    · rintro t y H6' H6 ht ⟨s6, hD6⟩ ⟨rfl, hy⟩
      obtain ⟨tt, htt, a, rfl, ha⟩ := tk2.get hy
      have ha6 := s6 _ _ ha
      have hkt : (kdV (tokL z))[t]? = some (.str (kdS tt)) := by
        unfold kdV
        rw [List.getElem?_map, htt]
        rfl
      have fin : ∀ x, x = V.str (kdS tt) → ∃ acc, H6 D = some (.lst acc) ∧ acc.length < sizeLine ∧ Same H2 (upd H6 D (.lst (acc ++ [x]))) ∧ upd H6 D (.lst (acc ++ [x])) D = some (.lst ((kdV (tokL z)).take (t + 1))) := by
        rintro x rfl
        refine ⟨_, hD6, ?_, same_upd0 s6 hD, ?_⟩
        · rw [List.length_take, sizeLine_eq]
          omega
        · rw [upd_same, List.take_succ, hkt]
          rfl
      refine ⟨rfl, _, rfl, a, _, 0, _, rfl, rfl, SqT.of ha6, atI0 _ _, rfl, _, rfl, ?_⟩
      show if decide (V.str (kiS tt.1) = V.str (Str.ofString "sign")) = true then _ else _
      rw [kiS_lit tt.1 .sgn]
      by_cases hs : tt.1 = .sgn
      · rw [decide_eq_true hs]
        refine iteT ?_
        refine ⟨_, rfl, a, _, 1, _, rfl, rfl, SqT.of ha6, atI1 _ _ _, fin _ ?_⟩
        unfold kdS
        rw [if_pos hs]
      · rw [decide_eq_false hs]
        refine iteF ?_
        refine ⟨_, rfl, a, _, 0, _, rfl, rfl, SqT.of ha6, atI0 _ _, fin _ ?_⟩
        unfold kdS
        rw [if_neg hs]
    · rintro H6 ⟨s6, hD6⟩
      have hfull : (kdV (tokL z)).take ts.length = kdV (tokL z) := by
        refine List.take_of_length_le ?_
        unfold kdV
        rw [List.length_map, htl]
        exact Nat.le_refl _
      rw [hfull] at hD6
      refine ⟨_, rfl, r, CP K, dx, _, rfl, s6 _ _ hr2, cls_PathReader T, na_PathReader_kinds T, (by show 3 < 1000; decide), ?_⟩
      refine ⟨_, rfl, r, CP K, dx, _, rfl, upd_same, cls_PathReader T, na_PathReader_at T, (by show 4 < 1000; decide), ?_⟩
      have hDr : D ≠ r := fun e => by
        rw [e, hr2] at hD
        cases hD
      refine k _ L D ts ⟨0, g, rfl, upd_same, ?_, ?_, ?_⟩ ?_
      · rw [upd_ne hLr, upd_ne hLr]
        exact s6 _ _ hL2
      · rw [upd_ne hDr, upd_ne hDr]
        exact hD6
      · exact tk2.keep fun a xs ha => by
          have har : a ≠ r := fun e => by
            subst e
            rw [hr2] at ha
            cases ha
          rw [upd_ne har, upd_ne har]
          exact s6 _ _ ha
      · exact ((s2.trans (.of s6)).trans .up).trans .up
end
end PX
/-! PXRp -/
namespace PX
open PySem PySem.Spec PyProof.Rows L2 TL
theorem same_of {p : Addr} {H H' : Hp} (hp : H p = none) (s : SameB p H H') : Same H H' := fun b u hb => s b u (ne_of_none hb hp) hb
theorem same_ofB {p : Addr} {H H1 H2 : Hp} (hp : H p = none) (s1 : Same H H1) (s : SameB p H1 H2) : Same H H2 := fun b u hb => s b u (ne_of_none hb hp) (s1 b u hb)
theorem rpN_eq (n : Nat) (z : Str) : rpN n z = endN (xpD n z (tokL z)) := rfl
theorem cut_but (xs : List V) : cutV xs none (some (-1)) = xs.dropLast := by
  unfold cutV
  have e1 : HT.sIx xs.length xs.length (some (-1)) = xs.length - 1 := by
    show (if (-1 : Int) < 0 then ((-1 : Int) + ((xs.length : Nat) : Int)).toNat else min (-1 : Int).toNat xs.length) = _
    rw [if_pos (by decide)]
    omega
  rw [HT.sIx_none, e1, List.drop_zero, List.dropLast_eq_take]
  rfl
theorem Toks.butLast {H : Hp} : ∀ {vs : List V} {ts : List Tk}, Toks H vs ts → Toks H vs.dropLast ts.dropLast
  | [], [], _ => trivial
  | [_], [_], _ => trivial
  | _ :: _ :: _, _ :: _ :: _, ⟨a, r⟩ => ⟨a, Toks.butLast r⟩
  | [_], _ :: _ :: _, ⟨_, r⟩ => r.elim
  | _ :: _ :: _, [_], ⟨_, r⟩ => r.elim
  | [], _ :: _, h => h.elim
  | _ :: _, [], h => h.elim
section
variable {P : Program} {w : World} {K : PySem.W.Frag} {mg : Str → Option Value} {base : Heap}
def spRo (K : PySem.W.Frag) : Sp := fun vs H Q _ => ∃ z : Str, vs = [.str z] ∧ Gd z ∧ ∀ H' (d : Rd0), d.z = z → Same H H' → H d.r = none → PR K H' d (tokL z) → Q (.ref d.r) H'
theorem ok_reader_of (T : Tx w K mg) : Ok P w K mg base CX0 8 (He.fAd K d_reader_of.at_) p_reader_of (spRo K) := by
  obtain ⟨fd, F⟩ := f_reader_of T
  obtain ⟨fI, GI, bI, kI⟩ := ok_reader_init (P := P) (base := base) T
  refine ⟨fd, ?_, b_reader_of F, F.kp⟩
  refine F.ok sc_reader_of (fun vs H Q E h => ?_) (fun cdv A outer s H vs Q E hr h => ?_)
  · obtain ⟨z, rfl, _⟩ := h
    rfl
  · obtain ⟨z, rfl, g, k⟩ := h
    have nd := sc_reader_of.nd
    refine ⟨_, PSs.nox (pss_cons (ps_if (pt_not (pt_val (pe_callB call_isi (by rfl) (n_isinstance T) boot_isinstance (pa_cons (pv 0) (pa_cons (pe_bltn (v := .ty "str") (by rfl) (n_str T) boot_str rfl) pa_nil))))) pss_no pss_nil)
      (pss_one (ps_ret (pe_make (E := E0) (mk_PathReader T) GI (hr.mono (by decide)) rfl (g_PathReader T) bI .nil pass0 (pa_cons (pv 0) (pa_cons pe_bl pa_nil)))))), ?_⟩
    refine ⟨_, rfl, _, _, _, _, true, rfl, .ty "str", .base (.str z), kit_ty (by decide), _, rfl, ?_⟩
    refine iteF ?_
    refine ⟨_, rfl, ?_⟩
    intro r dxr hr0 hd0 hne
    have s1 : Same H (upd (upd H dxr (.own r)) r (.ins (CP K) dxr [])) := same_upd0 (same_new hd0) hr0
    refine ⟨r, dxr, z, rfl, upd_same, g, fun H2 L M ts hR s2 => ⟨rfl, ?_⟩⟩
    exact k H2 ⟨r, dxr, L, M, z, ts⟩ rfl (same_ofB hr0 s1 s2) hr0 hR
end
end PX
/-! PXRt -/
namespace PX
open PySem PySem.Spec PyProof.Rows L2 TL
section
variable {P : Program} {w : World} {K : PySem.W.Frag} {mg : Str → Option Value} {base : Heap}
def spTr (K : PySem.W.Frag) (n : Nat) : Sp := fun vs H Q _ => ∃ (z : Str) (t : PyData), vs = [.str z] ∧ Gd z ∧ rpN n z = some t ∧ ∀ H' v, Same H H' → Dt K H' v t → Q v H'
theorem ok_tree_of (T : Tx w K mg) (n : Nat) : Ok P w K mg base CX0 (9 + 7 * n) (He.fAd K d_tree_of.at_) p_tree_of (spTr K n) := by
  obtain ⟨fd, F⟩ := f_tree_of T
  obtain ⟨fR, GR, bR, kR⟩ := ok_reader_of (P := P) (base := base) T
  obtain ⟨fD, GD, bD, kD⟩ := ok_read_path (P := P) (base := base) T n
  refine ⟨fd, ?_, b_tree_of F, F.kp⟩
  have hlev : 9 + 7 * n = (8 + 7 * n) + 1 := by omega
  rw [hlev]
  refine F.ok sc_tree_of (fun vs H Q E h => ?_) (fun cdv A outer s H vs Q E hr h => ?_)
  · obtain ⟨z, t, rfl, _⟩ := h
    rfl
  · obtain ⟨z, t, rfl, g, hx, k⟩ := h
    refine ⟨_, PSs.nox (pss_one (ps_ret (pe_meth0 (E := E0) (pe_call (E := E0) GR (hr.mono (by omega)) (by rfl) (g_reader_of T) kR bR .nil pass0 (pa_cons (pv 0) pa_nil)) (cls_PathReader T) (m_PathReader_read_path T) GD (hr.mono (by omega)) bD .nil pass0))), ?_⟩
    refine ⟨_, rfl, z, rfl, g, fun H1 d hz s1 hr0 hR => ?_⟩
    obtain ⟨j, h2⟩ := hR.rm
    subst hz
    exact ⟨d.r, d.dx, _, rfl, h2, pr_no (by decide +kernel), d, _, t, rfl, hR, hx, fun H2 v m m2 hv => k H2 v (same_ofB hr0 s1 m2.1) hv⟩
end
end PX
/-! PVa -/
namespace PX
open PySem PySem.Spec PyProof.Rows L2 TL
/-! ### what is refused -/
/-- an error with the place n -/
def Fl (H H' : Hp) (p e : Addr) (n : Nat) : Prop := SameB p H H' ∧ H e = none ∧ ∃ y, H' e = some (.xd [("at", .int (n : Int)), ("why", y)])
theorem MvR.fl {K : PySem.W.Frag} {H H1 H2 : Hp} {d : Rd0} {l m : List Tk} {e : Addr} {n : Nat} (h0 : PR K H d l) (a : MvR K H H1 d m) (b : Fl H1 H2 d.r e n) : Fl H H2 d.r e n :=
  ⟨a.1.trans b.1, a.1.free h0.ne a.2.ne b.2.1, b.2.2⟩
theorem MvR.raise {K : PySem.W.Frag} {H H1 : Hp} {d : Rd0} {l m : List Tk} {e : Addr} {n : Nat} {y : V} (h0 : PR K H d l) (a : MvR K H H1 d m) (h : H1 e = none) : Fl H (upd H1 e (.xd [("at", .int (n : Int)), ("why", y)])) d.r e n :=
  MvR.fl h0 a ⟨.of (same_new h), h, y, upd_same⟩
theorem PR.logs {K : PySem.W.Frag} {H : Hp} {d : Rd0} {t : Tk} {r : List Tk} (a : PR K H d (t :: r)) {n : Nat} (hn : n ≤ t.2.2 + t.2.1.length) : ((n : Int)).natAbs.log2 < 1920 := by
  obtain ⟨h, g⟩ := a.place
  exact g.log (by omega)
section
variable {P : Program} {w : World} {K : PySem.W.Frag} {mg : Str → Option Value} {base : Heap}
/-- a reading that ends in an error: B tells of the tokens and the place -/
def spXr (K : PySem.W.Frag) (B : List Tk → Nat → Prop) : Sp := fun vs H _ E => ∃ (d : Rd0) (l : List Tk) (n : Nat), vs = [.ref d.r] ∧ PR K H d l ∧ B l n ∧ ∀ H' e, Fl H H' d.r e n → E (.ref (CN K)) (some e) H'
def spEb (K : PySem.W.Frag) : Sp := fun vs H Q _ => ∃ (d : Rd0) (t : Tk) (r : List Tk), vs = [.ref d.r] ∧ PR K H d (t :: r) ∧ t.1 ≠ .nam ∧ t.1 ≠ .brk ∧ Q (.int (t.2.2 : Int)) H
theorem ok_end_behind_operand (T : Tx w K mg) : Ok P w K mg base CX0 2 (He.fAd K d_PathReader_end_behind_operand.at_) p_PathReader_end_behind_operand (spEb K) := by
  obtain ⟨fd, F⟩ := f_PathReader_end_behind_operand T
  obtain ⟨fP, GP, bP, kP⟩ := ok_peek (P := P) (base := base) T
  refine ⟨fd, ?_, b_PathReader_end_behind_operand F, F.kp⟩
  refine F.ok sc_PathReader_end_behind_operand (fun vs H Q E h => ?_) (fun cdv A outer s H vs Q E hr h => ?_)
  · obtain ⟨d, t, r, rfl, _⟩ := h
    rfl
  · obtain ⟨d, t, r, rfl, hp, hn, hb, k⟩ := h
    have nd := sc_PathReader_end_behind_operand.nd
    refine ⟨_, PSs.nox (pss_cons (ps_set (i := 1) nd rfl (.inr rfl) (pe_meth0 (E := E0) (pv 0) (cls_PathReader T) (m_PathReader_peek T) GP (hr.mono (by decide)) bP .nil pass0))
      (pss_cons (ps_if (pt_cmpR op_eq (pe_ix ix_tup (pv 1) pe_int (fun _ _ => rfl)) pe_str (nomark _)) pss_no pss_nil)
      (pss_cons (ps_if (pw_and (pt_cmpR op_eq (pe_ix ix_tup (pv 1) pe_int (fun _ _ => rfl)) pe_str (nomark _)) (pw_and1 pt_nev)).pt pss_no pss_nil)
      (pss_one (ps_ret (pe_ix ix_tup (pv 1) pe_int (fun _ _ => rfl))))))), ?_⟩
    obtain ⟨j, h2⟩ := hp.rm
    refine ⟨_, rfl, d.r, d.dx, _, rfl, h2, pr_no (by decide +kernel), d, t, r, rfl, hp, fun a ha => ?_⟩
    refine ⟨_, rfl, a, _, 0, _, rfl, rfl, SqT.of ha, atI0 _ _, rfl, _, rfl, ?_⟩
    show if decide (V.str (kiS t.1) = V.str (Str.ofString "name")) = true then _ else _
    rw [kiS_lit t.1 .nam, decide_eq_false hn]
    refine iteF ?_
    refine ⟨_, rfl, a, _, 0, _, rfl, rfl, SqT.of ha, atI0 _ _, rfl, _, rfl, ?_⟩
    show if decide (V.str (kiS t.1) = V.str (Str.ofString "broken")) = true then _ else _
    rw [kiS_lit t.1 .brk, decide_eq_false hb]
    refine iteF ?_
    exact ⟨_, rfl, a, _, 2, _, rfl, rfl, SqT.of ha, atI_nat rfl, k⟩
/-- text_of_literal, of a text without an end -/
def spTlX (K : PySem.W.Frag) : Sp := fun vs H _ E => ∃ (x : V) (a : Addr) (t : Tk), vs = [x, .ref a] ∧ H a = some (.tup (tkV t.1 t.2.1 t.2.2)) ∧ t.1 = .opn ∧ t.2.1.length ≤ 400000 ∧ (((t.2.2 + t.2.1.length : Nat) : Int)).natAbs.log2 < 1920 ∧
  ∀ e y, H e = none → E (.ref (CN K)) (some e) (upd H e (.xd [("at", .int ((t.2.2 + t.2.1.length : Nat) : Int)), ("why", y)]))
theorem ok_text_of_literalX (T : Tx w K mg) : Ok P w K mg base (L2.CX P w) 4 (He.fAd K d_PathReader_text_of_literal.at_) p_PathReader_text_of_literal (spTlX K) := by
  obtain ⟨fd, F⟩ := f_PathReader_text_of_literal T
  refine ⟨fd, ?_, b_PathReader_text_of_literal F, F.kp⟩
  refine F.ok sc_PathReader_text_of_literal (fun vs H Q E h => ?_) (fun cdv A outer s H vs Q E hr h => ?_)
  · obtain ⟨x, a, t, rfl, _⟩ := h
    rfl
  · obtain ⟨x, a, t, rfl, ha, ht, htl, hlg, k⟩ := h
    refine ⟨_, pss_cons (ps_if (pt_cmpR op_eq (pe_ix ix_tup (pv 1) pe_int (fun _ _ => rfl)) pe_str (nomark _))
        (pss_one (ps_raise rfl (takes_of rfl rfl rfl rfl) (pmk_nd T (hr.mono (by decide)) (pa_cons (pe_op op_add (pe_ix ix_tup (pv 1) pe_int (fun _ _ => rfl)) (pe_callB call_len (by rfl) (n_len T) PySem.boot_len (pa_cons (pe_ix ix_tup (pv 1) pe_int (fun _ _ => rfl)) pa_nil))) pa_nil)))) pss_nil)
      pss_no, ?_⟩
    refine ⟨_, rfl, a, _, 0, _, rfl, rfl, SqT.of ha, atI0 _ _, rfl, _, rfl, ?_⟩
    show if decide (V.str (kiS t.1) = V.str (Str.ofString "open")) = true then _ else _
    rw [kiS_lit t.1 .opn, ht]
    refine iteT ?_
    refine ⟨_, rfl, a, _, 2, _, rfl, rfl, SqT.of ha, atI_nat rfl, _, rfl, a, _, 1, _, rfl, rfl, SqT.of ha, atI1 _ _ _, _, _, rfl, ⟨by rw [mkS_len, sizeLine_eq]; omega, rfl⟩, _, _, rfl, rfl, ?_⟩
    have e2 : ((t.2.2 : Int) + (((mkS t.2.1).length : Nat) : Int)) = ((t.2.2 + t.2.1.length : Nat) : Int) := by
      rw [mkS_len]
      omega
    refine nd_ok (n := (t.2.2 : Int) + (((mkS t.2.1).length : Nat) : Int)) (by rw [e2]; exact hlg) fun e y he => ?_
    rw [e2]
    exact k e y he
def opnB : List Tk → Nat → Prop := fun l n => ∃ t r, l = t :: r ∧ t.1 = .opn ∧ n = t.2.2 + t.2.1.length
theorem ok_read_literalX (T : Tx w K mg) : Ok P w K mg base (L2.CX P w) 5 (He.fAd K d_PathReader_read_literal.at_) p_PathReader_read_literal (spXr K opnB) := by
  obtain ⟨fd, F⟩ := f_PathReader_read_literal T
  obtain ⟨fT, GT, bT, kT⟩ := ok_take (P := P) (base := base) T
  obtain ⟨fX, GX, bX, kX⟩ := ok_text_of_literalX (P := P) (base := base) T
  refine ⟨fd, ?_, b_PathReader_read_literal F, F.kp⟩
  refine F.ok sc_PathReader_read_literal (fun vs H Q E h => ?_) (fun cdv A outer s H vs Q E hr h => ?_)
  · obtain ⟨d, l, n, rfl, _⟩ := h
    rfl
  · obtain ⟨d, l, n, rfl, hp, ⟨t, r, rfl, ht, rfl⟩, k⟩ := h
    have nd := sc_PathReader_read_literal.nd
    refine ⟨_, pss_cons (ps_set (i := 1) nd rfl (.inl rfl) (pe_meth0 (E := E0) (pv 0) (cls_PathReader T) (m_PathReader_take T) GT (hr.mono (by decide)) bT .nil pass0))
      (pss_cons (ps_if (pt_cmpR op_eq (pe_ix ix_tup (pv 1) pe_int (fun _ _ => rfl)) pe_str (nomark _)) pss_no pss_nil)
      (pss_one (ps_ret (pe_tup (pa_cons pe_str (pa_cons (pe_meth (E := E) (pv 0) (cls_PathReader T) (m_PathReader_text_of_literal T) GX (hr.mono (by decide)) bX .nil (passes_call (takes_of rfl rfl rfl rfl) (fun _ _ _ _ h => h)) (pa_cons (pv 1) pa_nil)) pa_nil)))))), ?_⟩
    obtain ⟨j, h2⟩ := hp.rm
    obtain ⟨hpl, g⟩ := hp.place
    have htl : t.2.1.length ≤ 400000 := by have := g.len; omega
    refine ⟨_, rfl, d.r, d.dx, _, rfl, h2, pr_no (by decide +kernel), d, t, r, rfl, hp, fun H1 a ha mv => ?_⟩
    obtain ⟨j1, h21⟩ := mv.2.rm
    refine ⟨_, rfl, a, _, 0, _, rfl, rfl, SqT.of ha, atI0 _ _, rfl, _, rfl, ?_⟩
    show if decide (V.str (kiS t.1) = V.str (Str.ofString "number")) = true then _ else _
    rw [kiS_lit t.1 .num, ht]
    refine iteF ?_
    refine ⟨_, rfl, d.r, d.dx, _, rfl, h21, pr_no (by decide +kernel), _, rfl, _, a, t, rfl, ha, ht, htl, hp.logs (Nat.le_refl _), fun e y he => ?_⟩
    exact k _ e (mv.raise hp he)
end
end PX
/-! PVb -/
namespace PX
open PySem PySem.Spec PyProof.Rows L2 TL
section
variable {P : Program} {w : World} {K : PySem.W.Frag} {mg : Str → Option Value} {base : Heap}
/-- an expression, and behind it no end -/
def restB (n : Nat) (z : Str) : List Tk → Nat → Prop := fun l p => ∃ v t m, xpD n z l = some (v, t :: m) ∧ t.1 ≠ .nam ∧ t.1 ≠ .brk ∧ (kdL t == cEnd) = false ∧ p = t.2.2
def spRpX (K : PySem.W.Frag) (B : Str → List Tk → Nat → Prop) : Sp := fun vs H _ E => ∃ (d : Rd0) (l : List Tk) (n : Nat), vs = [.ref d.r] ∧ PR K H d l ∧ B d.z l n ∧ ∀ H' e, Fl H H' d.r e n → E (.ref (CN K)) (some e) H'
theorem ok_read_pathX (T : Tx w K mg) (n : Nat) : Ok P w K mg base (L2.CX P w) (5 + 7 * n) (He.fAd K d_PathReader_read_path.at_) p_PathReader_read_path (spRpX K (restB n)) := by
  obtain ⟨fd, F⟩ := f_PathReader_read_path T
  obtain ⟨fE, GE, bE, kE⟩ := ok_expr (P := P) (base := base) T n
  obtain ⟨fB, GB, bB, kB⟩ := ok_end_behind_operand (P := P) (base := base) T
  refine ⟨fd, ?_, b_PathReader_read_path F, F.kp⟩
  have hlev : 5 + 7 * n = (4 + 7 * n) + 1 := by omega
  rw [hlev]
  refine F.ok sc_PathReader_read_path (fun vs H Q E h => ?_) (fun cdv A outer s H vs Q E hr h => ?_)
  · obtain ⟨d, l, t, rfl, _⟩ := h
    rfl
  · obtain ⟨d, l, p, rfl, hp, ⟨v, t, m, hx, hn, hb, he, rfl⟩, k⟩ := h
    have nd := sc_PathReader_read_path.nd
    refine ⟨_, pss_cons (ps_set (i := 1) nd rfl (.inl rfl) (pe_meth0 (E := E0) (pv 0) (cls_PathReader T) (m_PathReader_read_expression T) GE (hr.mono (by omega)) bE .nil pass0))
      (pss_cons (ps_if (pt_cmpR op_ne (pe_ix ix_list (pe_fld (pv 0) rfl) (pe_fld (pv 0) rfl) (fun _ _ => rfl)) pe_str (nomark _))
        (pss_one (ps_raise rfl (takes_of rfl rfl rfl rfl) (pmk_nd T (hr.mono (by omega)) (pa_cons (pe_meth0 (E := E0) (pv 0) (cls_PathReader T) (m_PathReader_end_behind_operand T) GB (hr.mono (by omega)) bB .nil pass0) pa_nil)))) pss_nil)
      pss_no), ?_⟩
    obtain ⟨j, h2⟩ := hp.rm
    refine ⟨_, rfl, d.r, d.dx, _, rfl, h2, pr_no (by decide +kernel), d, l, rfl, hp, ?_⟩
    show rzC K d H _ (xpD n d.z l)
    rw [hx]
    intro H1 x m1 hv
    have hp1 := m1.2
    obtain ⟨j, g, hj, h2, h3, h5, h4⟩ := hp1
    refine ⟨_, rfl, d.r, CP K, d.dx, _, _, rfl, h2, cls_PathReader T, na_PathReader_kinds T, pr_kinds, _, rfl, d.r, CP K, d.dx, _, _, rfl, h2, cls_PathReader T, na_PathReader_at T, pr_at, d.M, _, (j : Int), _, rfl, rfl, SqL.of h5, atI_nat (kd_at hj), rfl, _, rfl, ?_⟩
    show if (!decide (V.str (kdS t) = V.str (Str.ofString "end"))) = true then _ else _
    rw [kd_lit t cEnd, he]
    refine iteT ?_
    refine ⟨_, rfl, d.r, d.dx, _, rfl, h2, pr_no (by decide +kernel), d, t, m, rfl, m1.2, hn, hb, nd_ok (m1.2.logs (Nat.le_add_right _ _)) fun e y he => ?_⟩
    exact k _ e (m1.raise hp he)
/-- tree_of, of what is refused -/
def spTrX (K : PySem.W.Frag) (B : Str → List Tk → Nat → Prop) : Sp := fun vs H _ E => ∃ (z : Str) (n : Nat), vs = [.str z] ∧ Gd z ∧ B z (tokL z) n ∧ ∀ H' e y, Same H H' → H e = none → H' e = some (.xd [("at", .int (n : Int)), ("why", y)]) → E (.ref (CN K)) (some e) H'
theorem ok_tree_ofX (T : Tx w K mg) {k : Nat} (hk : 7 ≤ k) {B : Str → List Tk → Nat → Prop} (hD : Ok P w K mg base (L2.CX P w) k (He.fAd K d_PathReader_read_path.at_) p_PathReader_read_path (spRpX K B)) : Ok P w K mg base (L2.CX P w) (k + 4) (He.fAd K d_tree_of.at_) p_tree_of (spTrX K B) := by
  obtain ⟨fd, F⟩ := f_tree_of T
  obtain ⟨fR, GR, bR, kR⟩ := ok_reader_of (P := P) (base := base) T
  obtain ⟨fD, GD, bD, kD⟩ := hD
  refine ⟨fd, ?_, b_tree_of F, F.kp⟩
  refine F.ok sc_tree_of (fun vs H Q E h => ?_) (fun cdv A outer s H vs Q E hr h => ?_)
  · obtain ⟨z, t, rfl, _⟩ := h
    rfl
  · obtain ⟨z, n, rfl, g, hB, k⟩ := h
    refine ⟨_, pss_one (ps_ret (pe_meth0 (E := E) (pe_call (E := E0) GR (hr.mono (by omega)) (by rfl) (g_reader_of T) kR bR .nil pass0 (pa_cons (pv 0) pa_nil)) (cls_PathReader T) (m_PathReader_read_path T) GD (hr.mono (by omega)) bD .nil (passes_call (takes_of rfl rfl rfl rfl) (fun _ _ _ _ h => h)))), ?_⟩
    refine ⟨_, rfl, z, rfl, g, fun H1 d hz s1 hr0 hR => ?_⟩
    obtain ⟨j, h2⟩ := hR.rm
    subst hz
    refine ⟨d.r, d.dx, _, rfl, h2, pr_no (by decide +kernel), d, _, n, rfl, hR, hB, fun H2 e f => ?_⟩
    obtain ⟨f1, f2, y, f3⟩ := f
    refine k H2 e y (same_ofB hr0 s1 f1) ?_ f3
    cases q : H e with
    | none => rfl
    | some o =>
      have := s1 _ _ q
      rw [f2] at this
      cases this
end
end PX
/-! PVc -/
namespace PX
open PySem PySem.Spec PyProof.Rows L2 TL
/-- no step begins here -/
structure NoStep (t : Tk) : Prop where
  nm : t.1 ≠ .nam
  k1 : (kdL t == cNam) = false
  k2 : (kdL t == [42]) = false
  k3 : (kdL t == [64]) = false
  k4 : (kdL t == [46]) = false
  k5 : (kdL t == [46, 46]) = false
  k6 : (kdL t == tl "number") = false
def noB : Str → List Tk → Nat → Prop := fun _ l n => ∃ t r, l = t :: r ∧ NoStep t ∧ n = t.2.2
section
variable {P : Program} {w : World} {K : PySem.W.Frag} {mg : Str → Option Value} {base : Heap}
theorem ok_read_testX (T : Tx w K mg) : Ok P w K mg base (L2.CX P w) 4 (He.fAd K d_PathReader_read_test.at_) p_PathReader_read_test (spRpX K noB) := by
  obtain ⟨fd, F⟩ := f_PathReader_read_test T
  obtain ⟨fP, GP, bP, kP⟩ := ok_peek (P := P) (base := base) T
  refine ⟨fd, ?_, b_PathReader_read_test F, F.kp⟩
  refine F.ok sc_PathReader_read_test (fun vs H Q E h => ?_) (fun cdv A outer s H vs Q E hr h => ?_)
  · obtain ⟨d, l, n, rfl, _⟩ := h
    rfl
  · obtain ⟨d, l, n, rfl, hp, ⟨t, r, rfl, hs, rfl⟩, k⟩ := h
    have nd := sc_PathReader_read_test.nd
    refine ⟨_, pss_cons (ps_set (i := 1) nd rfl (.inl rfl) (pe_meth0 (E := E0) (pv 0) (cls_PathReader T) (m_PathReader_peek T) GP (hr.mono (by decide)) bP .nil pass0))
      (pss_cons (ps_if (pt_cmpR op_eq (pe_ix ix_list (pe_fld (pv 0) rfl) (pe_fld (pv 0) rfl) (fun _ _ => rfl)) pe_str (nomark _)) pss_no pss_nil)
      (pss_cons (ps_if (pt_cmpR op_ne (pe_ix ix_tup (pv 1) pe_int (fun _ _ => rfl)) pe_str (nomark _))
        (pss_one (ps_raise rfl (takes_of rfl rfl rfl rfl) (pmk_nd T (hr.mono (by decide)) (pa_cons (pe_ix ix_tup (pv 1) pe_int (fun _ _ => rfl)) pa_nil)))) pss_nil)
      pss_no)), ?_⟩
    have hp' := hp
    obtain ⟨j, g, hj, h2, h3, h5, h4⟩ := hp'
    refine ⟨_, rfl, d.r, d.dx, _, rfl, h2, pr_no (by decide +kernel), d, t, r, rfl, hp, fun a ha => ?_⟩
    refine ⟨_, rfl, d.r, CP K, d.dx, _, _, rfl, h2, cls_PathReader T, na_PathReader_kinds T, pr_kinds, _, rfl, d.r, CP K, d.dx, _, _, rfl, h2, cls_PathReader T, na_PathReader_at T, pr_at, d.M, _, (j : Int), _, rfl, rfl, SqL.of h5, atI_nat (kd_at hj), rfl, _, rfl, ?_⟩
    show if decide (V.str (kdS t) = V.str (Str.ofString "*")) = true then _ else _
    rw [kd_lit t [42], hs.k2]
    refine iteF ?_
    refine ⟨_, rfl, a, _, 0, _, rfl, rfl, SqT.of ha, atI0 _ _, rfl, _, rfl, ?_⟩
    show if (!decide (V.str (kiS t.1) = V.str (Str.ofString "name"))) = true then _ else _
    rw [kiS_lit t.1 .nam, decide_eq_false hs.nm]
    refine iteT ?_
    refine ⟨_, rfl, a, _, 2, _, rfl, rfl, SqT.of ha, atI_nat rfl, nd_ok (hp.logs (Nat.le_add_right _ _)) fun e y he => ?_⟩
    exact k _ e ((MvR.refl hp).raise hp he)
end
end PX
/-! PVd -/
namespace PX
open PySem PySem.Spec PyProof.Rows L2 TL
section
variable {P : Program} {w : World} {K : PySem.W.Frag} {mg : Str → Option Value} {base : Heap}
def spSwX (K : PySem.W.Frag) : Sp := fun vs H _ E => ∃ (d : Rd0) (t : Tk) (r : List Tk) (q : Addr) (ws : List Str), vs = [.ref d.r, .ref q] ∧ PR K H d (t :: r) ∧ (∀ H', SqT K H' q (ws.map V.str)) ∧ NoStep t ∧ ∀ H' e, Fl H H' d.r e t.2.2 → E (.ref (CN K)) (some e) H'
theorem ok_read_step_withX (T : Tx w K mg) : Ok P w K mg base (L2.CX P w) 5 (He.fAd K d_PathReader_read_step_with.at_) p_PathReader_read_step_with (spSwX K) := by
  obtain ⟨fd, F⟩ := f_PathReader_read_step_with T
  obtain ⟨fA, GA, bA, kA⟩ := ok_read_axis (P := P) (base := base) T
  obtain ⟨fT, GT, bT, kT⟩ := ok_read_testX (P := P) (base := base) T
  refine ⟨fd, ?_, b_PathReader_read_step_with F, F.kp⟩
  refine F.ok sc_PathReader_read_step_with (fun vs H Q E h => ?_) (fun cdv A outer s H vs Q E hr h => ?_)
  · obtain ⟨d, t, r, q, ws, rfl, _⟩ := h
    rfl
  · obtain ⟨d, t, r, q, ws, rfl, hp, hq, hs, k⟩ := h
    have nd := sc_PathReader_read_step_with.nd
    refine ⟨_, pss_cons (ps_set (i := 2) nd rfl (.inl rfl) pe_str)
      (pss_cons (ps_if (pw_and (pt_cmpR op_eq (pe_ix ix_list (pe_fld (pv 0) rfl) (pe_fld (pv 0) rfl) (fun _ _ => rfl)) pe_str (nomark _)) (pw_and1 pt_nev)).pt pss_no
        (pss_cons (ps_set (i := 2) nd rfl (.inl rfl) (pe_meth (E := E0) (pv 0) (cls_PathReader T) (m_PathReader_read_axis T) GA (hr.mono (by omega)) bA .nil pass0 (pa_cons (pv 1) pa_nil)))
          (pss_one (ps_set (i := 3) nd rfl (.inl rfl) (pe_meth0 (E := E) (pv 0) (cls_PathReader T) (m_PathReader_read_test T) GT (hr.mono (by omega)) bT .nil (passes_call (takes_of rfl rfl rfl rfl) (fun _ _ _ _ h => h)))))))
      pss_no), ?_⟩
    have hp' := hp
    obtain ⟨j, g, hj, h2, h3, h5, h4⟩ := hp'
    refine ⟨_, rfl, d.r, CP K, d.dx, _, _, rfl, h2, cls_PathReader T, na_PathReader_kinds T, pr_kinds, _, rfl, d.r, CP K, d.dx, _, _, rfl, h2, cls_PathReader T, na_PathReader_at T, pr_at, d.M, _, (j : Int), _, rfl, rfl, SqL.of h5, atI_nat (kd_at hj), rfl, _, rfl, ?_⟩
    show if decide (V.str (kdS t) = V.str (Str.ofString "name")) = true then _ else _
    rw [kd_lit t cNam, hs.k1]
    refine iteF (iteF ?_)
    have hax : axN (ws.map tl) (t :: r) = some ([99, 104, 105, 108, 100], t :: r) := by
      show (if kdL t == [64] then _ else if t.1 = .nam ∧ _ then _ else _) = _
      rw [hs.k3, if_neg Bool.false_ne_true, if_neg (fun h => hs.nm h.1)]
    refine ⟨_, rfl, d.r, d.dx, _, rfl, h2, pr_no (by decide +kernel), _, rfl, d, _, q, ws, _, _, rfl, hp, hq, hax, fun H1 m1 => ?_⟩
    obtain ⟨j1, h21⟩ := m1.2.rm
    refine ⟨_, rfl, d.r, d.dx, _, rfl, h21, pr_no (by decide +kernel), d, t :: r, _, rfl, m1.2, ⟨t, r, rfl, hs, rfl⟩, fun H2 e f => ?_⟩
    exact k H2 e (m1.fl hp f)
theorem ok_read_stepX (T : Tx w K mg) : Ok P w K mg base (L2.CX P w) 6 (He.fAd K d_PathReader_read_step.at_) p_PathReader_read_step (spRpX K noB) := by
  obtain ⟨fd, F⟩ := f_PathReader_read_step T
  obtain ⟨fS, GS, bS, kS⟩ := ok_read_step_withX (P := P) (base := base) T
  refine ⟨fd, ?_, b_PathReader_read_step F, F.kp⟩
  refine F.ok sc_PathReader_read_step (fun vs H Q E h => ?_) (fun cdv A outer s H vs Q E hr h => ?_)
  · obtain ⟨d, l, n, rfl, _⟩ := h
    rfl
  · obtain ⟨d, l, n, rfl, hp, ⟨t, r, rfl, hs, rfl⟩, k⟩ := h
    have nd := sc_PathReader_read_step.nd
    have hp' := hp
    obtain ⟨j, g, hj, h2, h3, h5, h4⟩ := hp'
    refine ⟨_, pss_cons (ps_set (i := 1) nd rfl (.inl rfl) (pe_ix ix_list (pe_fld (pv 0) rfl) (pe_fld (pv 0) rfl) (fun _ _ => rfl)))
      (pss_cons (ps_if (pt_cmpR op_in_seq (pv 1) (pe_tup (pa_cons pe_str (pa_cons pe_str pa_nil))) (by rfl)) pss_no pss_nil)
      (pss_cons (ps_if (pw_and (pt_cmpR op_eq (pv 1) pe_str (nomark _)) (pw_and1 pt_nev)).pt pss_no pss_nil)
      (pss_one (ps_ret (pe_meth (E := E) (pv 0) (cls_PathReader T) (m_PathReader_read_step_with T) GS (hr.mono (by omega)) bS .nil (passes_call (takes_of rfl rfl rfl rfl) (fun _ _ _ _ h => h)) (pa_cons (pe_glob (v := .ref (He.ga K "AXES")) (by rfl) (g_AXES T) rfl) pa_nil)))))), ?_⟩
    refine ⟨_, rfl, d.r, CP K, d.dx, _, _, rfl, h2, cls_PathReader T, na_PathReader_kinds T, pr_kinds, _, rfl, d.r, CP K, d.dx, _, _, rfl, h2, cls_PathReader T, na_PathReader_at T, pr_at, d.M, _, (j : Int), _, rfl, rfl, SqL.of h5, atI_nat (kd_at hj), ?_⟩
    refine ⟨_, rfl, (by decide), fun p hpn => ⟨p, _, rfl, .inr (SqT.of upd_same), rfl, rfl, ?_⟩⟩
    rw [if_neg Bool.false_ne_true]
    refine ⟨_, rfl, ?_⟩
    show if inV (.str (kdS t)) ((["." , ".."] : List Str).map V.str) = true then _ else _
    rw [kd_in]
    have s1 := same_new hpn (o := .tup [V.str (Str.ofString "."), V.str (Str.ofString "..")])
    generalize upd H p (.tup [V.str (Str.ofString "."), V.str (Str.ofString "..")]) = H1 at s1 ⊢
    have hin : is1 (kdL t) ((["." , ".."] : List Str).map tl) = (kdL t == [46] || kdL t == [46, 46]) := by
      show ([46] == kdL t || ([46, 46] == kdL t || false)) = _
      rw [Bool.or_false, beq_comm' [46], beq_comm' [46, 46]]
    rw [hin, hs.k4, hs.k5]
    have hp1 := hp.same s1
    have h21 := s1 _ _ h2
    have m1 := MvR.same hp s1
    refine iteF ?_
    refine ⟨_, rfl, rfl, _, rfl, ?_⟩
    show if decide (V.str (kdS t) = V.str (Str.ofString "number")) = true then _ else _
    rw [kd_lit t (tl "number"), hs.k6]
    refine iteF (iteF ?_)
    refine ⟨_, rfl, d.r, d.dx, _, rfl, h21, pr_no (by decide +kernel), d, t, r, _, tup_AXES, rfl, hp1, fun H' => strs_of (x_t_AXES T) (by decide) H', hs, fun H2 e f => ?_⟩
    exact k H2 e (m1.fl hp f)
end
end PX
/-! PVe -/
namespace PX
open PySem PySem.Spec PyProof.Rows L2 TL
/-- no operand begins here -/
structure NoOpd (t : Tk) : Prop where
  st : NoStep t
  lit : is1 (kdL t) (tup_LITERALS.map tl) = false
  sl : is1 (kdL t) ((["/" , "//"] : List Str).map tl) = false
  op : (kdL t == [40]) = false
  dl : (kdL t == [36]) = false
  mi : (kdL t == [45]) = false
def noO : Str → List Tk → Nat → Prop := fun _ l n => ∃ t r, l = t :: r ∧ NoOpd t ∧ n = t.2.2
section
variable {P : Program} {w : World} {K : PySem.W.Frag} {mg : Str → Option Value} {base : Heap}
def spSsX (K : PySem.W.Frag) : Sp := fun vs H _ E => ∃ (d : Rd0) (t : Tk) (r : List Tk) (L : Addr) (ys : List V), vs = [.ref d.r, .ref L] ∧ PR K H d (t :: r) ∧ H L = some (.lst ys) ∧ NoStep t ∧ ∀ H' e, Fl H H' d.r e t.2.2 → E (.ref (CN K)) (some e) H'
theorem ok_read_stepsX (T : Tx w K mg) : Ok P w K mg base (L2.CX P w) 7 (He.fAd K d_PathReader_read_steps.at_) p_PathReader_read_steps (spSsX K) := by
  obtain ⟨fd, F⟩ := f_PathReader_read_steps T
  obtain ⟨fS, GS, bS, kS⟩ := ok_read_stepX (P := P) (base := base) T
  refine ⟨fd, ?_, b_PathReader_read_steps F, F.kp⟩
  refine F.ok sc_PathReader_read_steps (fun vs H Q E h => ?_) (fun cdv A outer s H vs Q E hr h => ?_)
  · obtain ⟨d, t, r, L, ys, rfl, _⟩ := h
    rfl
  · obtain ⟨d, t, r, L, ys, rfl, hp, hL, hs, k⟩ := h
    have nd := sc_PathReader_read_steps.nd
    refine ⟨_, pss_one (ps_while (passes_of rfl) (pt_val pe_bl)
      (pss_cons (ps_expr (pe_bm PySem.F.plainAttrs_list PySem.F.slot_list_append PySem.F.type_list_append mt_append (pv 1) (pa_cons (pe_meth0 (E := E) (pv 0) (cls_PathReader T) (m_PathReader_read_step T) GS (hr.mono (by omega)) bS .nil (passes_call (takes_of rfl rfl rfl rfl) (fun _ _ _ _ h => h))) pa_nil))) pss_no)), ?_⟩
    refine while_x (fun mm σ H2 => σ = [some (.ref d.r), some (.ref L), none] ∧ H2 = H) (fun σ H2 => False) ⟨0, rfl, rfl⟩ (fun _ _ h => h.elim) ?_
    rintro - mm σ H2 R ⟨rfl, rfl⟩ hfin hbody
    refine ⟨_, rfl, ?_⟩
    refine hbody _ ?_
    obtain ⟨j2, h22⟩ := hp.rm
    exact ⟨_, rfl, .inl ⟨rfl, _, SqL.of hL⟩, _, rfl, d.r, d.dx, _, rfl, h22, pr_no (by decide +kernel), d, t :: r, _, rfl, hp, ⟨t, r, rfl, hs, rfl⟩, fun H3 e f => k H3 e f⟩
theorem ok_read_operandL (T : Tx w K mg) : Ok P w K mg base (L2.CX P w) 10 (He.fAd K d_PathReader_read_operand.at_) p_PathReader_read_operand (spRpX K fun _ => opnB) := by
  obtain ⟨fd, F⟩ := f_PathReader_read_operand T
  obtain ⟨fB, GB, bB, kB⟩ := ok_read_behind (P := P) (base := base) T (Nat.le_refl 4) (ok_expr0 T)
  obtain ⟨fL, GL, bL, kL⟩ := ok_read_literalX (P := P) (base := base) T
  refine ⟨fd, ?_, b_PathReader_read_operand F, F.kp⟩
  refine F.ok sc_PathReader_read_operand (fun vs H Q E h => ?_) (fun cdv A outer s H vs Q E hr h => ?_)
  · obtain ⟨d, l, n, rfl, _⟩ := h
    rfl
  · obtain ⟨d, l, n, rfl, hp, ⟨t, r, rfl, ht, rfl⟩, k⟩ := h
    have nd := sc_PathReader_read_operand.nd
    have hp' := hp
    obtain ⟨j, g, hj, h2, h3, h5, h4⟩ := hp'
    refine ⟨_, pss_cons (ps_set (i := 1) nd rfl (.inl rfl) (pe_ix ix_list (pe_fld (pv 0) rfl) (pe_fld (pv 0) rfl) (fun _ _ => rfl)))
      (pss_cons (ps_if (pt_cmpR op_eq (pv 1) pe_str (nomark _)) pss_no
        (pss_one (ps_if (pt_cmpR op_in_seq (pv 1) (pe_glob (v := .ref (He.ga K "LITERALS")) (by rfl) (g_LITERALS T) rfl) (by rfl))
          (pss_one (ps_ret (pe_meth (E := E0) (pv 0) (cls_PathReader T) (m_PathReader_read_behind T) GB (hr.mono (by omega)) bB .nil pass0 (pa_cons (pe_meth0 (E := E) (pv 0) (cls_PathReader T) (m_PathReader_read_literal T) GL (hr.mono (by omega)) bL .nil (passes_call (takes_of rfl rfl rfl rfl) (fun _ _ _ _ h => h))) pa_nil)))) pss_no)))
      pss_no), ?_⟩
    refine ⟨_, rfl, d.r, CP K, d.dx, _, _, rfl, h2, cls_PathReader T, na_PathReader_kinds T, pr_kinds, _, rfl, d.r, CP K, d.dx, _, _, rfl, h2, cls_PathReader T, na_PathReader_at T, pr_at, d.M, _, (j : Int), _, rfl, rfl, SqL.of h5, atI_nat (kd_at hj), ?_⟩
    have hk : kdL t = tl "open" := by
      unfold kdL
      rw [ht]
      rfl
    refine ⟨_, rfl, rfl, _, rfl, ?_⟩
    show if decide (V.str (kdS t) = V.str (Str.ofString "name")) = true then _ else _
    rw [kd_lit t cNam, hk]
    refine iteF ?_
    refine ⟨_, rfl, He.ga K "LITERALS", _, rfl, .inr (strs_of (x_t_LITERALS T) (by decide) _), rfl, flat_strs _, ?_⟩
    rw [if_neg Bool.false_ne_true]
    refine ⟨_, rfl, ?_⟩
    show if inV (.str (kdS t)) (tup_LITERALS.map V.str) = true then _ else _
    rw [kd_in, hk]
    refine iteT ?_ (by decide +kernel)
    exact ⟨_, rfl, d.r, d.dx, _, rfl, h2, pr_no (by decide +kernel), _, rfl, d.r, d.dx, _, rfl, h2, pr_no (by decide +kernel), d, _, _, rfl, hp, ⟨t, r, rfl, ht, rfl⟩, fun H2 e f => k H2 e f⟩
theorem ok_read_operandX (T : Tx w K mg) : Ok P w K mg base (L2.CX P w) 10 (He.fAd K d_PathReader_read_operand.at_) p_PathReader_read_operand (spRpX K noO) := by
  obtain ⟨fd, F⟩ := f_PathReader_read_operand T
  obtain ⟨fS, GS, bS, kS⟩ := ok_read_stepsX (P := P) (base := base) T
  refine ⟨fd, ?_, b_PathReader_read_operand F, F.kp⟩
  refine F.ok sc_PathReader_read_operand (fun vs H Q E h => ?_) (fun cdv A outer s H vs Q E hr h => ?_)
  · obtain ⟨d, l, n, rfl, _⟩ := h
    rfl
  · obtain ⟨d, l, n, rfl, hp, ⟨t, r, rfl, ho, rfl⟩, k⟩ := h
    have nd := sc_PathReader_read_operand.nd
    have hp' := hp
    obtain ⟨j, g, hj, h2, h3, h5, h4⟩ := hp'
    refine ⟨_, pss_cons (ps_set (i := 1) nd rfl (.inl rfl) (pe_ix ix_list (pe_fld (pv 0) rfl) (pe_fld (pv 0) rfl) (fun _ _ => rfl)))
      (pss_cons (ps_if (pt_cmpR op_eq (pv 1) pe_str (nomark _)) pss_no
        (pss_one (ps_if (pt_cmpR op_in_seq (pv 1) (pe_glob (v := .ref (He.ga K "LITERALS")) (by rfl) (g_LITERALS T) rfl) (by rfl)) pss_no
        (pss_one (ps_if (pt_cmpR op_in_seq (pv 1) (pe_tup (pa_cons pe_str (pa_cons pe_str pa_nil))) (by rfl)) pss_no
        (pss_one (ps_if (pt_cmpR op_eq (pv 1) pe_str (nomark _)) pss_no
        (pss_one (ps_if (pw_and (pt_cmpR op_eq (pv 1) pe_str (nomark _)) (pw_and1 pt_nev)).pt pss_no pss_nil)))))))))
      (pss_one (ps_ret (pe_tup (pa_cons pe_str (pa_cons pe_non (pa_cons (pe_tupleOf (by rfl) (n_tuple T) (pe_meth (E := E) (pv 0) (cls_PathReader T) (m_PathReader_read_steps T) GS (hr.mono (by omega)) bS .nil (passes_call (takes_of rfl rfl rfl rfl) (fun _ _ _ _ h => h)) (pa_cons (pe_lst pa_nil) pa_nil))) pa_nil))))))), ?_⟩
    refine ⟨_, rfl, d.r, CP K, d.dx, _, _, rfl, h2, cls_PathReader T, na_PathReader_kinds T, pr_kinds, _, rfl, d.r, CP K, d.dx, _, _, rfl, h2, cls_PathReader T, na_PathReader_at T, pr_at, d.M, _, (j : Int), _, rfl, rfl, SqL.of h5, atI_nat (kd_at hj), ?_⟩
    refine ⟨_, rfl, rfl, _, rfl, ?_⟩
    show if decide (V.str (kdS t) = V.str (Str.ofString "name")) = true then _ else _
    rw [kd_lit t cNam, ho.st.k1]
    refine iteF ?_
    refine ⟨_, rfl, He.ga K "LITERALS", _, rfl, .inr (strs_of (x_t_LITERALS T) (by decide) _), rfl, flat_strs _, ?_⟩
    rw [if_neg Bool.false_ne_true]
    refine ⟨_, rfl, ?_⟩
    show if inV (.str (kdS t)) (tup_LITERALS.map V.str) = true then _ else _
    rw [kd_in, ho.lit]
    refine iteF ?_
    refine ⟨_, rfl, (by decide), fun p hpn => ⟨p, _, rfl, .inr (SqT.of upd_same), rfl, rfl, ?_⟩⟩
    rw [if_neg Bool.false_ne_true]
    refine ⟨_, rfl, ?_⟩
    show if inV (.str (kdS t)) ((["/" , "//"] : List Str).map V.str) = true then _ else _
    rw [kd_in, ho.sl]
    have s1 := same_new hpn (o := .tup [V.str (Str.ofString "/"), V.str (Str.ofString "//")])
    generalize upd H p (.tup [V.str (Str.ofString "/"), V.str (Str.ofString "//")]) = H1 at s1 ⊢
    have m1 := MvR.same hp s1
    have h21 := s1 _ _ h2
    refine iteF ?_
    refine ⟨_, rfl, rfl, _, rfl, ?_⟩
    show if decide (V.str (kdS t) = V.str (Str.ofString "(")) = true then _ else _
    rw [kd_lit t [40], ho.op]
    refine iteF ?_
    refine ⟨_, rfl, rfl, _, rfl, ?_⟩
    show if decide (V.str (kdS t) = V.str (Str.ofString "$")) = true then _ else _
    rw [kd_lit t [36], ho.dl]
    refine iteF (iteF ?_)
    refine ⟨_, rfl, d.r, d.dx, _, rfl, h21, pr_no (by decide +kernel), (by decide), fun L hL => ?_⟩
    have m2 := m1.more (same_new hL (o := .lst []))
    exact ⟨d, t, r, L, [], rfl, m2.2, upd_same, ho.st, fun H3 e f => k H3 e (m2.fl hp f)⟩
end
end PX
/-! PVf -/
namespace PX
open PySem PySem.Spec PyProof.Rows L2 TL
section
variable {P : Program} {w : World} {K : PySem.W.Frag} {mg : Str → Option Value} {base : Heap}
theorem ok_expressionX (T : Tx w K mg) {k : Nat} (hk : 3 ≤ k) {B : Str → List Tk → Nat → Prop} (hB : ∀ z l n, B z l n → ∃ t r, l = t :: r ∧ (kdL t == [45]) = false)
    (hO : Ok P w K mg base (L2.CX P w) k (He.fAd K d_PathReader_read_operand.at_) p_PathReader_read_operand (spRpX K B)) : Ok P w K mg base (L2.CX P w) (k + 1) (He.fAd K d_PathReader_read_expression.at_) p_PathReader_read_expression (spRpX K B) := by
  obtain ⟨fd, F⟩ := f_PathReader_read_expression T
  obtain ⟨fX, GX, bX, kX⟩ := hO
  refine ⟨fd, ?_, b_PathReader_read_expression F, F.kp⟩
  refine F.ok sc_PathReader_read_expression (fun vs H Q E h => ?_) (fun cdv A outer s H vs Q E hr h => ?_)
  · obtain ⟨d, l, n, rfl, _⟩ := h
    rfl
  · obtain ⟨d, l, n, rfl, hp, hb, k⟩ := h
    have nd := sc_PathReader_read_expression.nd
    refine ⟨_, pss_cons (ps_set (i := 1) nd rfl (.inl rfl) (pe_lst pa_nil))
      (pss_cons (ps_set (i := 2) nd rfl (.inl rfl) (pe_lst pa_nil))
      (pss_cons (ps_set (i := 3) nd rfl (.inl rfl) (pe_fld (pv 0) rfl))
      (pss_one (ps_while (passes_of rfl) (pt_val pe_bl)
        (pss_cons (ps_while (passes_of rfl) (pw_and (pt_cmpR op_eq (pe_ix ix_list (pv 3) (pe_fld (pv 0) rfl) (fun _ _ => rfl)) pe_str (nomark _)) (pw_and1 pt_nev)).pt pss_no)
        (pss_cons (ps_expr (pe_bm PySem.F.plainAttrs_list PySem.F.slot_list_append PySem.F.type_list_append mt_append (pv 1) (pa_cons (pe_meth0 (E := E) (pv 0) (cls_PathReader T) (m_PathReader_read_operand T) GX (hr.mono (by omega)) bX .nil (passes_call (takes_of rfl rfl rfl rfl) (fun _ _ _ _ h => h))) pa_nil)))
        pss_no)))))), ?_⟩
    refine ⟨by decide, fun B1 hB1 => ?_⟩
    refine ⟨by decide, fun W hW1 => ?_⟩
    have s1 := same_new hB1 (o := .lst [])
    have s2 := same_new hW1 (o := .lst [])
    have m1 := MvR.same hp (s1.trans s2)
    have ha : upd (upd H B1 (.lst [])) W (.lst []) B1 = some (.lst []) := s2 _ _ upd_same
    generalize upd (upd H B1 (.lst [])) W (.lst []) = H1 at m1 ha ⊢
    clear s1 s2 hW1 hB1
    obtain ⟨t, r, rfl, h45⟩ := hB _ _ _ hb
    have hp1 := m1.2
    obtain ⟨j, g, hj, h2, h3, h5, h4⟩ := hp1
    refine ⟨_, rfl, d.r, CP K, d.dx, _, _, rfl, h2, cls_PathReader T, na_PathReader_kinds T, pr_kinds, ?_⟩
    refine while_x (fun mm σ H2 => σ = [some (.ref d.r), some (.ref B1), some (.ref W), some (.ref d.M), none, none, none] ∧ H2 = H1) (fun _ _ => False) ⟨0, rfl, rfl⟩ (fun _ _ h => h.elim) ?_
    rintro - mm σ H2 R ⟨rfl, rfl⟩ hfin hbody
    refine ⟨_, rfl, ?_⟩
    refine hbody _ ?_
    clear hfin hbody R
    dsimp only [tSeq]
    refine while_x (fun mm σ H3 => σ = [some (.ref d.r), some (.ref B1), some (.ref W), some (.ref d.M), none, none, none] ∧ H3 = H2) (fun σ H3 => σ = [some (.ref d.r), some (.ref B1), some (.ref W), some (.ref d.M), none, none, none] ∧ H3 = H2) ⟨0, rfl, rfl⟩ ?_ ?_
    · rintro σ H3 ⟨rfl, rfl⟩
      exact ⟨_, rfl, .inl ⟨rfl, _, SqL.of ha⟩, _, rfl, d.r, d.dx, _, rfl, h2, pr_no (by decide +kernel), d, t :: r, n, rfl, m1.2, hb, fun H4 e f => k H4 e (m1.fl hp f)⟩
    · rintro - mm σ H3 R ⟨rfl, rfl⟩ hfin hbody
      refine ⟨_, rfl, _, rfl, d.r, CP K, d.dx, _, _, rfl, h2, cls_PathReader T, na_PathReader_at T, pr_at, d.M, _, (j : Int), _, rfl, rfl, SqL.of h5, atI_nat (kd_at hj), rfl, _, rfl, ?_⟩
      show if decide (V.str (kdS t) = V.str (Str.ofString "-")) = true then _ else _
      rw [kd_lit t [45], h45]
      refine iteF ?_
      exact hfin _ ⟨rfl, rfl⟩
theorem ok_read_pathE (T : Tx w K mg) {k : Nat} (hk : 3 ≤ k) {B : Str → List Tk → Nat → Prop}
    (hE : Ok P w K mg base (L2.CX P w) k (He.fAd K d_PathReader_read_expression.at_) p_PathReader_read_expression (spRpX K B)) : Ok P w K mg base (L2.CX P w) (k + 1) (He.fAd K d_PathReader_read_path.at_) p_PathReader_read_path (spRpX K B) := by
  obtain ⟨fd, F⟩ := f_PathReader_read_path T
  obtain ⟨fE, GE, bE, kE⟩ := hE
  refine ⟨fd, ?_, b_PathReader_read_path F, F.kp⟩
  refine F.ok sc_PathReader_read_path (fun vs H Q E h => ?_) (fun cdv A outer s H vs Q E hr h => ?_)
  · obtain ⟨d, l, n, rfl, _⟩ := h
    rfl
  · obtain ⟨d, l, n, rfl, hp, hb, k⟩ := h
    have nd := sc_PathReader_read_path.nd
    refine ⟨_, pss_cons (ps_set (i := 1) nd rfl (.inl rfl) (pe_meth0 (E := E) (pv 0) (cls_PathReader T) (m_PathReader_read_expression T) GE (hr.mono (by omega)) bE .nil (passes_call (takes_of rfl rfl rfl rfl) (fun _ _ _ _ h => h)))) pss_no, ?_⟩
    obtain ⟨j, h2⟩ := hp.rm
    exact ⟨_, rfl, d.r, d.dx, _, rfl, h2, pr_no (by decide +kernel), d, l, n, rfl, hp, hb, fun H2 e f => k H2 e f⟩
theorem noO_45 : ∀ z l n, noO z l n → ∃ t r, l = t :: r ∧ (kdL t == [45]) = false := by
  rintro z l n ⟨t, r, rfl, h, _⟩
  exact ⟨t, r, rfl, h.mi⟩
theorem opn_45 : ∀ (z : Str) (l : List Tk) (n : Nat), opnB l n → ∃ t r, l = t :: r ∧ (kdL t == [45]) = false := by
  rintro z l n ⟨t, r, rfl, ht, _⟩
  refine ⟨t, r, rfl, ?_⟩
  unfold kdL
  rw [ht]
  rfl
/-- a text without an end -/
theorem ok_tree_ofO (T : Tx w K mg) : Ok P w K mg base (L2.CX P w) 16 (He.fAd K d_tree_of.at_) p_tree_of (spTrX K fun _ => opnB) :=
  ok_tree_ofX T (by decide) (ok_read_pathE T (by decide) (ok_expressionX T (by decide) opn_45 (ok_read_operandL T)))
theorem fin_no {t : Tk} (h : t.1 = .fin) : NoOpd t := by
  have hk : kdL t = tl "end" := by
    unfold kdL
    rw [h]
    rfl
  have hn : t.1 ≠ .nam := by
    rw [h]
    intro e
    cases e
  refine ⟨⟨hn, ?_, ?_, ?_, ?_, ?_, ?_⟩, ?_, ?_, ?_, ?_, ?_⟩ <;> rw [hk] <;> decide +kernel
/-- no operand at the text's begin -/
theorem ok_tree_ofF (T : Tx w K mg) : Ok P w K mg base (L2.CX P w) 16 (He.fAd K d_tree_of.at_) p_tree_of (spTrX K noO) :=
  ok_tree_ofX T (by decide) (ok_read_pathE T (by decide) (ok_expressionX T (by decide) noO_45 (ok_read_operandX T)))
/-- something behind a path -/
theorem ok_tree_ofR (T : Tx w K mg) (n : Nat) (hn : 1 ≤ n) : Ok P w K mg base (L2.CX P w) (5 + 7 * n + 4) (He.fAd K d_tree_of.at_) p_tree_of (spTrX K (restB n)) :=
  ok_tree_ofX T (by omega) (ok_read_pathX T n)
end
end PX
/-! PQa -/
namespace PX
open PySem PySem.Spec PyProof.Rows L2 TL
theorem pe_or {X : Cx} {e : Expr} {t1 t2 : TE} (a : PE X e t1) (b : PE X e t2) : PE X e (fun σ H Q => t1 σ H Q ∨ t2 σ H Q) :=
  ⟨fun pins s σ H Q I h => h.elim (a.run pins s σ H Q I) (b.run pins s σ H Q I)⟩
section
variable {P : Program} {w : World} {K : PySem.W.Frag} {mg : Str → Option Value} {base : Heap}
/-- a sign that must stand here, and doesn't -/
def spExX (K : PySem.W.Frag) : Sp := fun vs H _ E => ∃ (d : Rd0) (t : Tk) (r : List Tk) (x : Str), vs = [.ref d.r, .str x] ∧ PR K H d (t :: r) ∧ (kdL t == tl x) = false ∧ t.1 ≠ .nam ∧ t.1 ≠ .brk ∧ ∀ H' e, Fl H H' d.r e t.2.2 → E (.ref (CN K)) (some e) H'
def spExY (K : PySem.W.Frag) : Sp := fun vs H _ E => ∃ (d : Rd0) (t : Tk) (r : List Tk) (x : Str), vs = [.ref d.r, .str x] ∧ PR K H d (t :: r) ∧ (kdL t == tl x) = false ∧ ∀ H' e, Fl H H' d.r e t.2.2 → E (.ref (CN K)) (some e) H'
theorem ok_expectX (T : Tx w K mg) : Ok P w K mg base (L2.CX P w) 4 (He.fAd K d_PathReader_expect.at_) p_PathReader_expect (spExY K) := by
  obtain ⟨fd, F⟩ := f_PathReader_expect T
  obtain ⟨fP, GP, bP, kP⟩ := ok_peek (P := P) (base := base) T
  refine ⟨fd, ?_, b_PathReader_expect F, F.kp⟩
  refine F.ok sc_PathReader_expect (fun vs H Q E h => ?_) (fun cdv A outer s H vs Q E hr h => ?_)
  · obtain ⟨d, t, r, x, rfl, _⟩ := h
    rfl
  · obtain ⟨d, t, r, x, rfl, hp, hx, k⟩ := h
    have hp' := hp
    obtain ⟨j, g, hj, h2, h3, h5, h4⟩ := hp'
    refine ⟨_, pss_cons (ps_if (pt_cmpR op_ne (pe_ix ix_list (pe_fld (pv 0) rfl) (pe_fld (pv 0) rfl) (fun _ _ => rfl)) (pv 1) (nomark _)) (pss_one (ps_raise rfl (takes_of rfl rfl rfl rfl) (pmk_nd T (hr.mono (by decide)) (pa_cons (pe_ix ix_tup (pe_meth0 (E := E0) (pv 0) (cls_PathReader T) (m_PathReader_peek T) GP (hr.mono (by decide)) bP .nil pass0) pe_int (fun _ _ => rfl)) pa_nil)))) pss_nil) pss_no, ?_⟩
    refine ⟨_, rfl, d.r, CP K, d.dx, _, _, rfl, h2, cls_PathReader T, na_PathReader_kinds T, pr_kinds, _, rfl, d.r, CP K, d.dx, _, _, rfl, h2, cls_PathReader T, na_PathReader_at T, pr_at, d.M, _, (j : Int), _, rfl, rfl, SqL.of h5, atI_nat (kd_at hj), _, rfl, rfl, _, rfl, ?_⟩
    show if (!decide (V.str (kdS t) = V.str x)) = true then _ else _
    rw [kd_ne]
    refine iteT ?_ (by first | rfl | (rw [bne, hx]; rfl) | simp [bne, hx])
    refine ⟨_, rfl, d.r, d.dx, _, rfl, h2, pr_no (by decide +kernel), d, t, r, rfl, hp, fun a ha => ⟨a, _, 2, _, rfl, rfl, SqT.of ha, atI_nat rfl, nd_ok (hp.logs (Nat.le_add_right _ _)) fun e y he => ?_⟩⟩
    exact k _ e ((MvR.refl hp).raise hp he)
theorem ok_expect_behind_operandX (T : Tx w K mg) : Ok P w K mg base (L2.CX P w) 4 (He.fAd K d_PathReader_expect_behind_operand.at_) p_PathReader_expect_behind_operand (spExX K) := by
  obtain ⟨fd, F⟩ := f_PathReader_expect_behind_operand T
  obtain ⟨fB, GB, bB, kB⟩ := ok_end_behind_operand (P := P) (base := base) T
  refine ⟨fd, ?_, b_PathReader_expect_behind_operand F, F.kp⟩
  refine F.ok sc_PathReader_expect_behind_operand (fun vs H Q E h => ?_) (fun cdv A outer s H vs Q E hr h => ?_)
  · obtain ⟨d, t, r, x, rfl, _⟩ := h
    rfl
  · obtain ⟨d, t, r, x, rfl, hp, hx, hn, hb, k⟩ := h
    have hp' := hp
    obtain ⟨j, g, hj, h2, h3, h5, h4⟩ := hp'
    refine ⟨_, pss_cons (ps_if (pt_cmpR op_ne (pe_ix ix_list (pe_fld (pv 0) rfl) (pe_fld (pv 0) rfl) (fun _ _ => rfl)) (pv 1) (nomark _)) (pss_one (ps_raise rfl (takes_of rfl rfl rfl rfl) (pmk_nd T (hr.mono (by decide)) (pa_cons (pe_meth0 (E := E0) (pv 0) (cls_PathReader T) (m_PathReader_end_behind_operand T) GB (hr.mono (by omega)) bB .nil pass0) pa_nil)))) pss_nil) pss_no, ?_⟩
    refine ⟨_, rfl, d.r, CP K, d.dx, _, _, rfl, h2, cls_PathReader T, na_PathReader_kinds T, pr_kinds, _, rfl, d.r, CP K, d.dx, _, _, rfl, h2, cls_PathReader T, na_PathReader_at T, pr_at, d.M, _, (j : Int), _, rfl, rfl, SqL.of h5, atI_nat (kd_at hj), _, rfl, rfl, _, rfl, ?_⟩
    show if (!decide (V.str (kdS t) = V.str x)) = true then _ else _
    rw [kd_ne]
    refine iteT ?_ (by first | rfl | (rw [bne, hx]; rfl) | simp [bne, hx])
    refine ⟨_, rfl, d.r, d.dx, _, rfl, h2, pr_no (by decide +kernel), d, t, r, rfl, hp, hn, hb, nd_ok (hp.logs (Nat.le_add_right _ _)) fun e y he => ?_⟩
    exact k _ e ((MvR.refl hp).raise hp he)
end
end PX
/-! PQb -/
namespace PX
open PySem PySem.Spec PyProof.Rows L2 TL
/-! ### calls that are refused -/
def opOk (t : Tk) : Bool := decide (t.1 ≠ .nam) && decide (t.1 ≠ .brk)
theorem opOk_of {t : Tk} (h : opOk t = true) : t.1 ≠ .nam ∧ t.1 ≠ .brk := by
  unfold opOk at h
  rw [Bool.and_eq_true, decide_eq_true_eq, decide_eq_true_eq] at h
  exact h
def argX (ex : List Tk → Rz) (x : Int × Option Int) : Nat → Nat → List Tk → Option Nat
  | 0, _, _ => none
  | f + 1, k, t :: r => if moreN x k t then
      if kdL t == [44] then
        match ex r with
        | some (_, l) => argX ex x f (k + 1) l
        | none => none
      else if opOk t then some t.2.2 else none
    else if kdL t == [41] then none else if opOk t then some t.2.2 else none
  | _, _, [] => none
def callX (ex : List Tk → Rz) (EB : List Tk → Nat → Prop) : List Tk → Nat → Prop
  | t :: _ :: u :: m, n => ∃ x, fnLook t.2.1 = some x ∧ ((x.2 = some 0 ∧ (kdL u == [41]) = false ∧ n = u.2.2) ∨ ((decide (x.2 = some 0) || (decide (x.1 = 0) && kdL u == [41])) = false ∧ (EB (u :: m) n ∨ ∃ v0 l0, ex (u :: m) = some (v0, l0) ∧ argX ex x (l0.length + 1) 1 l0 = some n)))
  | _, _ => False
section
variable {P : Program} {w : World} {K : PySem.W.Frag} {mg : Str → Option Value} {base : Heap}
theorem ok_read_callX (T : Tx w K mg) {e : Nat} (he : 4 ≤ e) {ex : Str → List Tk → Rz} (hE : OkX P w K mg base e ex) {EB : Str → List Tk → Nat → Prop} (hF : Ok P w K mg base (L2.CX P w) e (He.fAd K d_PathReader_read_expression.at_) p_PathReader_read_expression (spRpX K EB)) : Ok P w K mg base (L2.CX P w) (e + 1) (He.fAd K d_PathReader_read_call.at_) p_PathReader_read_call (spRpX K fun z => callX (ex z) (EB z)) := by
  obtain ⟨fd, F⟩ := f_PathReader_read_call T
  obtain ⟨fE, GE, bE, kE⟩ := hE
  obtain ⟨fF, GF, bF, kF⟩ := hF
  obtain ⟨fZ, GZ, bZ, kZ⟩ := ok_expect_behind_operandX (P := P) (base := base) T
  obtain ⟨fT, GT, bT, kT⟩ := ok_take (P := P) (base := base) T
  obtain ⟨fX, GX, bX, kX⟩ := ok_expectX (P := P) (base := base) T
  obtain ⟨fY, GY, bY, kY⟩ := ok_expect_behind_operand (P := P) (base := base) T
  refine ⟨fd, ?_, b_PathReader_read_call F, F.kp⟩
  refine F.ok sc_PathReader_read_call (fun vs H Q E h => ?_) (fun cdv A outer s H vs Q E hr h => ?_)
  · obtain ⟨d, l, n, rfl, _⟩ := h
    rfl
  · obtain ⟨d, l, n, rfl, hp, hB, k⟩ := h
    have nd := sc_PathReader_read_call.nd
    refine ⟨_, (pss_cons (ps_set (i := 1) nd rfl (.inl rfl) (pe_ix ix_tup (pe_meth0 (E := E0) (pv 0) (cls_PathReader T) (m_PathReader_take T) GT (hr.mono (by omega)) bT .nil pass0) pe_int (fun _ _ => rfl)))
      (pss_cons (ps_fldaug (pv 0) pe_int ip_add)
      (pss_cons (ps_asg (pe_ix ix_kdict (pe_glob (v := .ref (He.ga K "FUNCTIONS")) (by rfl) (g_FUNCTIONS T) rfl) (pv 1) (fun _ _ => rfl)) (pg_tup (by rfl) (pgs_cons (pg_name (i := 2) nd rfl (.inl rfl)) (pgs_cons (pg_name (i := 3) nd rfl (.inl rfl)) pgs_nil))))
      (Evl.pss_cut (ps_if (pw_or (pt_cmpR op_eq (pv 3) pe_int (nomark _)) (pw_or1 (pw_and (pt_cmpR op_eq (pv 2) pe_int (nomark _)) (pw_and1 (pt_cmpR op_eq (pe_ix ix_list (pe_fld (pv 0) rfl) (pe_fld (pv 0) rfl) (fun _ _ => rfl)) pe_str (nomark _)))).pt)).pt
        (pss_cons (ps_expr (pe_meth (E := E) (pv 0) (cls_PathReader T) (m_PathReader_expect T) GX (hr.mono (by omega)) bX .nil (passes_call (takes_of rfl rfl rfl rfl) (fun _ _ _ _ h => h)) (pa_cons pe_str pa_nil))) pss_no) pss_nil)
      (pss_cons (ps_set (i := 4) nd rfl (.inl rfl) (pe_lst (pa_cons (pe_or (pe_meth0 (E := E0) (pv 0) (cls_PathReader T) (m_PathReader_read_expression T) GE (hr.mono (by omega)) bE .nil pass0) (pe_meth0 (E := E) (pv 0) (cls_PathReader T) (m_PathReader_read_expression T) GF (hr.mono (by omega)) bF .nil (passes_call (takes_of rfl rfl rfl rfl) (fun _ _ _ _ h => h)))) pa_nil)))
      (pss_cons (ps_while (passes_of rfl) (pw_or (pt_cmpR op_lt (pe_callB call_len (by rfl) (n_len T) PySem.boot_len (pa_cons (pv 4) pa_nil)) (pv 2) (nomark _))
          (pw_or1 (pw_and (pt_cmpR op_eq (pe_ix ix_list (pe_fld (pv 0) rfl) (pe_fld (pv 0) rfl) (fun _ _ => rfl)) pe_str (nomark _))
            (pw_and1 (pw_or (pt_cmpR op_isN (pv 3) pe_non (nomark _)) (pw_or1 (pt_cmpR op_lt (pe_callB call_len (by rfl) (n_len T) PySem.boot_len (pa_cons (pv 4) pa_nil)) (pv 3) (nomark _)))).pt)).pt)).pt
        (pss_cons (ps_expr (pe_or (pe_meth (E := E0) (pv 0) (cls_PathReader T) (m_PathReader_expect_behind_operand T) GY (hr.mono (by omega)) bY .nil pass0 (pa_cons pe_str pa_nil)) (pe_meth (E := E) (pv 0) (cls_PathReader T) (m_PathReader_expect_behind_operand T) GZ (hr.mono (by omega)) bZ .nil (passes_call (takes_of rfl rfl rfl rfl) (fun _ _ _ _ h => h)) (pa_cons pe_str pa_nil))))
        (pss_one (ps_expr (pe_bm PySem.F.plainAttrs_list PySem.F.slot_list_append PySem.F.type_list_append mt_append (pv 4) (pa_cons (pe_meth0 (E := E0) (pv 0) (cls_PathReader T) (m_PathReader_read_expression T) GE (hr.mono (by omega)) bE .nil pass0) pa_nil))))))
      (pss_cons (ps_expr (pe_meth (E := E) (pv 0) (cls_PathReader T) (m_PathReader_expect_behind_operand T) GZ (hr.mono (by omega)) bZ .nil (passes_call (takes_of rfl rfl rfl rfl) (fun _ _ _ _ h => h)) (pa_cons pe_str pa_nil))) pss_no)))))))
      , ?_⟩
    match l, hp, hB with
    | [], _, hB => exact hB.elim
    | [t], _, hB => exact hB.elim
    | [t, t2], _, hB => exact hB.elim
    | t :: t2 :: u :: m, hp, hB =>
      obtain ⟨x, hf, hB⟩ := hB
      obtain ⟨uu, e1, e2⟩ := fn_in T hf
      obtain ⟨es, nn, D⟩ := He.dicW_ok T.tab_FUNCTIONS
      have sq := tup_of e2 (by show 2 ≤ sizeLine; decide)
      obtain ⟨j, h2⟩ := hp.rm
      refine ⟨_, rfl, d.r, d.dx, _, rfl, h2, pr_no (by decide +kernel), d, t, t2 :: u :: m, rfl, hp, fun H1 a ha m1 => ⟨a, _, 1, _, rfl, rfl, SqT.of ha, atI1 _ _ _, ?_⟩⟩
      have hp1 := m1.2
      obtain ⟨j1, g1, hj1, h21, h31, h51, h41⟩ := hp1
      refine ⟨_, rfl, d.r, CP K, d.dx, _, _, rfl, h21, cls_PathReader T, na_PathReader_at T, pr_at, _, _, rfl, rfl, d.dx, _, h21, (by show 5 < 1000; decide), ?_⟩
      rw [pr_put (i := j1 + 1) (by show ((j1 : Nat) : Int) + 1 = ((j1 + 1 : Nat) : Int); omega)]
      have mv2 := PR.go m1.2 (drop_one hj1)
      generalize upd H1 _ _ = H2 at mv2 ⊢
      have m2 := m1.trans mv2
      refine ⟨_, rfl, He.ga K "FUNCTIONS", mkS t.2.1, .ref uu, rfl, rfl, ⟨es, nn, .ref uu, D.at_, D.lit, e1, rfl⟩, uu, _, rfl, sq _, rfl, _, _, rfl, _, _, rfl, rfl, ?_⟩
      refine ⟨fun σ H3 => σ = [some (.ref d.r), some (.str (mkS t.2.1)), some (.int x.1), some (optV x.2), none] ∧ MvR K H H3 d (u :: m) ∧ (EB d.z (u :: m) n ∨ ∃ v0 l0, ex d.z (u :: m) = some (v0, l0) ∧ argX (ex d.z) x (l0.length + 1) 1 l0 = some n), ?_, ?_⟩
      · have hsc : scal ((optD x.2).v K) (.int 0) = true := by cases x.2 <;> rfl
        have hdc : decide ((optD x.2).v K = V.int 0) = decide (x.2 = some 0) := by
          cases x.2 with
          | none => rfl
          | some i =>
            show decide (V.int i = V.int 0) = decide (some i = some 0)
            by_cases h : i = 0
            · rw [h]
              rfl
            · rw [decide_eq_false (fun q => h (V.int.inj q)), decide_eq_false (fun q => h (Option.some.inj q))]
        have hdl : decide (V.int x.1 = V.int 0) = decide (x.1 = 0) := by
          by_cases h : x.1 = 0
          · rw [h]
            rfl
          · rw [decide_eq_false (fun q => h (V.int.inj q)), decide_eq_false h]
        have hp2 := m2.2
        obtain ⟨j2, g2, hj2, h22, h32, h52, h42⟩ := hp2
        refine ⟨_, rfl, hsc, _, rfl, ?_⟩
        show if decide ((optD x.2).v K = V.int 0) = true then _ else _
        rw [hdc]
        rcases hB with ⟨z1, z2, rfl⟩ | ⟨z1, z2⟩
        · rw [decide_eq_true z1]
          refine iteT (iteT ?_)
          exact ⟨_, rfl, d.r, d.dx, _, rfl, h22, pr_no (by decide +kernel), d, u, m, _, rfl, m2.2, z2, fun H4 e f => k H4 e (m2.fl hp f)⟩
        · cases c1 : decide (x.2 = some 0) with
          | true =>
            rw [c1] at z1
            cases z1
          | false =>
            rw [c1, Bool.false_or] at z1
            refine iteF ?_
            refine ⟨_, rfl, rfl, _, rfl, ?_⟩
            show if decide (V.int x.1 = V.int 0) = true then _ else _
            rw [hdl]
            cases c2 : decide (x.1 = 0) with
            | false =>
              refine iteF (iteF ?_)
              exact ⟨by rw [← optV_eq K]; rfl, m2, z2⟩
            | true =>
              rw [c2, Bool.true_and] at z1
              refine iteT ?_
              refine ⟨_, rfl, d.r, CP K, d.dx, _, _, rfl, h22, cls_PathReader T, na_PathReader_kinds T, pr_kinds, _, rfl, d.r, CP K, d.dx, _, _, rfl, h22, cls_PathReader T, na_PathReader_at T, pr_at, d.M, _, (j2 : Int), _, rfl, rfl, SqL.of h52, atI_nat (kd_at hj2), rfl, _, rfl, ?_⟩
              show if decide (V.str (kdS u) = V.str (Str.ofString ")")) = true then _ else _
              rw [kd_lit u [41], z1]
              refine iteF ?_
              exact ⟨by rw [← optV_eq K]; rfl, m2, z2⟩
      · rintro σ H3 ⟨rfl, m3, hz⟩
        obtain ⟨j3, h23⟩ := m3.2.rm
        rcases hz with hb | ⟨v0, l0, hx0, hx1⟩
        · exact .inr ⟨_, rfl, d.r, d.dx, _, rfl, h23, pr_no (by decide +kernel), d, u :: m, n, rfl, m3.2, hb, fun H4 e f => k H4 e (m3.fl hp f)⟩
        refine .inl ⟨_, rfl, d.r, d.dx, _, rfl, h23, pr_no (by decide +kernel), d, u :: m, rfl, m3.2, ?_⟩
        rw [hx0]
        intro H5 y mv5 hy
        have m5 := m3.trans mv5
        refine ⟨(by show 1 ≤ sizeLine; decide), fun L hL => ?_⟩
        have hL0 : H L = none := m5.fresh hp hL
        have m6 : MvR K H (upd H5 L (.lst [y])) d l0 := m5.updN hp hL0
        have h6 : upd H5 L (.lst [y]) L = some (.lst [y]) := upd_same
        generalize upd H5 L (.lst [y]) = H6 at m6 h6 ⊢
        have hLr := ne_new hp hL0
        have hl6 := m6.2.len
        dsimp only [tSeq]
        refine while_x (fun mm σ H7 => σ = [some (.ref d.r), some (.str (mkS t.2.1)), some (.int x.1), some (optV x.2), some (.ref L)] ∧ ∃ (l : List Tk) (xs : List V), MvR K H H7 d l ∧ H7 L = some (.lst xs) ∧ xs.length + mm ≤ 500000 ∧ argX (ex d.z) x mm xs.length l = some n)
          (fun σ H7 => σ = [some (.ref d.r), some (.str (mkS t.2.1)), some (.int x.1), some (optV x.2), some (.ref L)] ∧ ∃ (t7 : Tk) (r7 : List Tk), MvR K H H7 d (t7 :: r7) ∧ (kdL t7 == [41]) = false ∧ opOk t7 = true ∧ n = t7.2.2)
          ⟨_, rfl, l0, [y], m6, h6, (by show 1 + (l0.length + 1) ≤ _; omega), hx1⟩ ?_ ?_
        · rintro σ H7 ⟨rfl, t7, r7, m7, z1, z2, rfl⟩
          obtain ⟨j7, h27⟩ := m7.2.rm
          obtain ⟨z3, z4⟩ := opOk_of z2
          exact ⟨_, rfl, d.r, d.dx, _, rfl, h27, pr_no (by decide +kernel), d, t7, r7, _, rfl, m7.2, z1, z3, z4, fun H8 e f => k H8 e (m7.fl hp f)⟩
        · rintro - mm σ H7 R ⟨rfl, l, xs, m7, h7, hn7, hx7⟩ hfin hbody
          cases l with
          | nil => cases mm <;> cases hx7
          | cons u7 r7 =>
            cases mm with
            | zero => cases hx7
            | succ f =>
              have hp7 := m7.2
              obtain ⟨j7, g7, hj7, h27, h37, h57, h47⟩ := hp7
              have ea : argX (ex d.z) x (f + 1) xs.length (u7 :: r7) = if moreN x xs.length u7 then (if (kdL u7 == [44]) = true then
                  match ex d.z r7 with
                  | some (_, l) => argX (ex d.z) x f (xs.length + 1) l
                  | none => none
                else if opOk u7 then some u7.2.2 else none) else if kdL u7 == [41] then none else if opOk u7 then some u7.2.2 else none := rfl
              rw [ea] at hx7
              have em : moreN x xs.length u7 = (decide (((xs.length : Nat) : Int) < x.1) || (kdL u7 == [44] && (match x.2 with | none => true | some m => decide (((xs.length : Nat) : Int) < m)))) := rfl
              rw [em] at hx7
              have stop : (if kdL u7 == [41] then none else if opOk u7 then some u7.2.2 else none) = some n → ∃ (t7 : Tk) (r7 : List Tk), MvR K H H7 d (t7 :: r7) ∧ (kdL t7 == [41]) = false ∧ opOk t7 = true ∧ n = t7.2.2 := by
                intro h
                cases c : kdL u7 == [41] with
                | true => rw [c, if_pos rfl] at h; cases h
                | false =>
                  rw [c, if_neg Bool.false_ne_true] at h
                  cases c2 : opOk u7 with
                  | false => rw [c2, if_neg Bool.false_ne_true] at h; cases h
                  | true =>
                    rw [c2, if_pos rfl] at h
                    cases h
                    exact ⟨u7, r7, m7, c, c2, rfl⟩
              have goT : (if (kdL u7 == [44]) = true then
                  match ex d.z r7 with
                  | some (_, l) => argX (ex d.z) x f (xs.length + 1) l
                  | none => none
                else if opOk u7 then some u7.2.2 else none) = some n → R true H7 := by
                intro h
                refine hbody _ ?_
                cases c : kdL u7 == [44] with
                | false =>
                  rw [c, if_neg Bool.false_ne_true] at h
                  cases c2 : opOk u7 with
                  | false => rw [c2, if_neg Bool.false_ne_true] at h; cases h
                  | true =>
                    rw [c2, if_pos rfl] at h
                    cases h
                    obtain ⟨z3, z4⟩ := opOk_of c2
                    exact .inr ⟨_, rfl, d.r, d.dx, _, rfl, h27, pr_no (by decide +kernel), d, u7, r7, _, rfl, m7.2, c, z3, z4, fun H8 e f => k H8 e (m7.fl hp f)⟩
                | true =>
                  rw [c, if_pos rfl] at h
                  cases c2 : ex d.z r7 with
                  | none => rw [c2] at h; cases h
                  | some q =>
                    obtain ⟨v, l⟩ := q
                    rw [c2] at h
                    refine .inl ⟨_, rfl, d.r, d.dx, _, rfl, h27, pr_no (by decide +kernel), d, u7, r7, _, rfl, m7.2, eq_of_beq c, fun H8 mv8 => ?_⟩
                    have m8 := m7.trans mv8
                    have h8 := mv8.1 _ _ hLr h7
                    obtain ⟨j8, h28⟩ := m8.2.rm
                    refine ⟨_, rfl, .inl ⟨rfl, _, SqL.of h8⟩, _, rfl, d.r, d.dx, _, rfl, h28, pr_no (by decide +kernel), d, r7, rfl, m8.2, ?_⟩
                    rw [c2]
                    intro H9 y9 mv9 hy9
                    have m9 := m8.trans mv9
                    have h9 := mv9.1 _ _ hLr h8
                    refine ⟨L, xs, y9, rfl, rfl, h9, by rw [sizeLine_eq]; omega, ?_⟩
                    refine ⟨f, by omega, rfl, l, xs ++ [y9], m9.updN hp hL0, upd_same, by rw [List.length_append]; show _ + 1 + f ≤ _; omega, ?_⟩
                    rw [List.length_append]
                    exact h
              refine ⟨_, rfl, _, _, rfl, .inl ⟨xs, SqL.of h7, rfl⟩, _, rfl, _, _, rfl, rfl, _, rfl, ?_⟩
              show if decide (((xs.length : Nat) : Int) < x.1) = true then _ else _
              cases c1 : decide (((xs.length : Nat) : Int) < x.1) with
              | true =>
                rw [c1, Bool.true_or, if_pos rfl] at hx7
                exact iteT (goT hx7)
              | false =>
                rw [c1, Bool.false_or] at hx7
                refine iteF ?_
                refine ⟨_, rfl, d.r, CP K, d.dx, _, _, rfl, h27, cls_PathReader T, na_PathReader_kinds T, pr_kinds, _, rfl, d.r, CP K, d.dx, _, _, rfl, h27, cls_PathReader T, na_PathReader_at T, pr_at, d.M, _, (j7 : Int), _, rfl, rfl, SqL.of h57, atI_nat (kd_at hj7), rfl, _, rfl, ?_⟩
                show if decide (V.str (kdS u7) = V.str (Str.ofString ",")) = true then _ else _
                rw [kd_lit u7 [44]]
                cases c2 : kdL u7 == [44] with
                | false =>
                  rw [c2, Bool.false_and, if_neg Bool.false_ne_true] at hx7
                  refine iteF ?_
                  exact hfin _ ⟨rfl, stop hx7⟩
                | true =>
                  rw [c2, Bool.true_and] at hx7
                  rw [c2] at goT
                  refine iteT ?_
                  refine ⟨_, rfl, rfl, _, rfl, ?_⟩
                  show if decide (optV x.2 = V.non) = true then _ else _
                  cases c3 : x.2 with
                  | none =>
                    rw [c3] at hx7
                    dsimp only at hx7
                    rw [if_pos rfl] at hx7
                    exact iteT (goT hx7)
                  | some mx =>
                    rw [c3] at hx7
                    change (if decide (((xs.length : Nat) : Int) < mx) = true then _ else _) = _ at hx7
                    refine iteF ?_
                    refine ⟨_, rfl, _, _, rfl, .inl ⟨xs, SqL.of h7, rfl⟩, _, rfl, _, _, rfl, rfl, _, rfl, ?_⟩
                    show R (decide (((xs.length : Nat) : Int) < mx)) _
                    cases c4 : decide (((xs.length : Nat) : Int) < mx) with
                    | false =>
                      rw [c4, if_neg Bool.false_ne_true] at hx7
                      exact hfin _ ⟨rfl, stop hx7⟩
                    | true =>
                      rw [c4, if_pos rfl] at hx7
                      exact goT hx7
end
end PX
/-! PQc -/
namespace PX
open PySem PySem.Spec PyProof.Rows L2 TL
def opC (ex : Str → List Tk → Rz) (EB : Str → List Tk → Nat → Prop) : Str → List Tk → Nat → Prop := fun z l n => ∃ t u m, l = t :: u :: m ∧ (kdL t == cNam) = true ∧ (kdL u == [40]) = true ∧ (fnLook t.2.1).isSome = true ∧ callX (ex z) (EB z) l n
section
variable {P : Program} {w : World} {K : PySem.W.Frag} {mg : Str → Option Value} {base : Heap}
theorem ok_read_operandC (T : Tx w K mg) {e : Nat} (he : 4 ≤ e) {ex : Str → List Tk → Rz} (hE : OkX P w K mg base e ex) {EB : Str → List Tk → Nat → Prop} (hF : Ok P w K mg base (L2.CX P w) e (He.fAd K d_PathReader_read_expression.at_) p_PathReader_read_expression (spRpX K EB)) : Ok P w K mg base (L2.CX P w) (e + 6) (He.fAd K d_PathReader_read_operand.at_) p_PathReader_read_operand (spRpX K (opC ex EB)) := by
  obtain ⟨fd, F⟩ := f_PathReader_read_operand T
  obtain ⟨fB, GB, bB, kB⟩ := ok_read_behind T he hE
  obtain ⟨fC, GC, bC, kC⟩ := ok_read_callX T he hE hF
  obtain ⟨fF, GF, bF, kF⟩ := ok_is_function (P := P) (base := base) T
  refine ⟨fd, ?_, b_PathReader_read_operand F, F.kp⟩
  refine F.ok sc_PathReader_read_operand (fun vs H Q E h => ?_) (fun cdv A outer s H vs Q E hr h => ?_)
  · obtain ⟨d, l, n, rfl, _⟩ := h
    rfl
  · obtain ⟨d, l, n, rfl, hp, ⟨t, u, m, rfl, c1, c3, c4, hB⟩, k⟩ := h
    have nd := sc_PathReader_read_operand.nd
    have hp' := hp
    obtain ⟨j, g, hj, h2, h3, h5, h4⟩ := hp'
    obtain ⟨a, hv, ha⟩ := h4.at hj
    refine ⟨_, pss_cons (ps_set (i := 1) nd rfl (.inl rfl) (pe_ix ix_list (pe_fld (pv 0) rfl) (pe_fld (pv 0) rfl) (fun _ _ => rfl)))
      (pss_cons (ps_if (pt_cmpR op_eq (pv 1) pe_str (nomark _))
        (pss_cons (ps_set (i := 2) nd rfl (.inl rfl) (pe_ix ix_list (pe_fld (pv 0) rfl) (pe_op op_add (pe_fld (pv 0) rfl) pe_int) (fun _ _ => rfl)))
        (pss_cons (ps_if (pt_cmpR op_notIn_seq (pv 2) (pe_glob (v := .ref (He.ga K "BEHIND_LONGER_PATHS")) (by rfl) (g_BEHIND_LONGER_PATHS T) rfl) (by rfl)) pss_no pss_nil)
        (pss_one (ps_if (pw_and (pt_cmpR op_eq (pv 2) pe_str (nomark _)) (pw_and1 (pt_val (pe_meth (E := E0) (pv 0) (cls_PathReader T) (m_PathReader_is_function T) GF (hr.mono (by omega)) bF .nil pass0 (pa_cons (pe_ix ix_tup (pe_ix ix_list (pe_fld (pv 0) rfl) (pe_fld (pv 0) rfl) (fun _ _ => rfl)) pe_int (fun _ _ => rfl)) pa_nil))))).pt
          (pss_one (ps_ret (pe_meth (E := E0) (pv 0) (cls_PathReader T) (m_PathReader_read_behind T) GB (hr.mono (by omega)) bB .nil pass0 (pa_cons (pe_meth0 (E := E) (pv 0) (cls_PathReader T) (m_PathReader_read_call T) GC (hr.mono (by omega)) bC .nil (passes_call (takes_of rfl rfl rfl rfl) (fun _ _ _ _ h => h))) pa_nil)))) pss_nil)))) pss_no)
      pss_no), ?_⟩
    refine ⟨_, rfl, d.r, CP K, d.dx, _, _, rfl, h2, cls_PathReader T, na_PathReader_kinds T, pr_kinds, _, rfl, d.r, CP K, d.dx, _, _, rfl, h2, cls_PathReader T, na_PathReader_at T, pr_at, d.M, _, (j : Int), _, rfl, rfl, SqL.of h5, atI_nat (kd_at hj), ?_⟩
    refine ⟨_, rfl, rfl, _, rfl, ?_⟩
    show if decide (V.str (kdS t) = V.str (Str.ofString "name")) = true then _ else _
    rw [kd_lit t cNam, c1]
    refine iteT ?_
    refine ⟨_, rfl, d.r, CP K, d.dx, _, _, rfl, h2, cls_PathReader T, na_PathReader_kinds T, pr_kinds, _, rfl, d.r, CP K, d.dx, _, _, rfl, h2, cls_PathReader T, na_PathReader_at T, pr_at, _, _, rfl, rfl, d.M, _, (j : Int) + 1, _, rfl, rfl, SqL.of h5, (by rw [show ((j : Int) + 1) = ((j + 1 : Nat) : Int) by omega]; exact atI_nat (kd_at (drop_one hj))), ?_⟩
    refine ⟨_, rfl, He.ga K "BEHIND_LONGER_PATHS", _, rfl, .inr (strs_of (x_t_BEHIND_LONGER_PATHS T) (by decide) _), rfl, flat_strs _, ?_⟩
    rw [if_pos rfl]
    refine ⟨_, rfl, ?_⟩
    show if (!inV (.str (kdS u)) (tup_BEHIND_LONGER_PATHS.map V.str)) = true then _ else _
    rw [kd_in, eq_of_beq c3]
    refine iteF ?_ (by decide +kernel)
    refine ⟨_, rfl, rfl, _, rfl, ?_⟩
    show if decide (V.str (kdS u) = V.str (Str.ofString "(")) = true then _ else _
    rw [kd_lit u [40], c3]
    refine iteT ?_
    refine ⟨_, rfl, d.r, d.dx, _, rfl, h2, pr_no (by decide +kernel), _, rfl, d.r, CP K, d.dx, _, _, rfl, h2, cls_PathReader T, na_PathReader_tokens T, pr_tokens, _, rfl, d.r, CP K, d.dx, _, _, rfl, h2, cls_PathReader T, na_PathReader_at T, pr_at, d.L, d.vs, (j : Int), _, rfl, rfl, SqL.of h3, atI_nat hv, ?_⟩
    refine ⟨a, _, 1, _, rfl, rfl, SqT.of ha, atI1 _ _ _, d, _, _, rfl, hp, _, rfl, ?_⟩
    rw [c4]
    refine iteT ?_
    exact ⟨_, rfl, d.r, d.dx, _, rfl, h2, pr_no (by decide +kernel), _, rfl, d.r, d.dx, _, rfl, h2, pr_no (by decide +kernel), d, _, n, rfl, hp, hB, fun H1 e f => k H1 e f⟩
end
end PX
/-! PQd -/
namespace PX
open PySem PySem.Spec PyProof.Rows L2 TL
/-! ### a call of an unknown word -/
def unkX : Str → List Tk → Nat → Prop := fun z l n => ∃ t u m, l = t :: u :: m ∧ t.1 = .nam ∧ ccN z t = false ∧ (kdL u == [40]) = true ∧ kindOf t.2.1 = none ∧ is1 t.2.1 (tup_AXES.map tl) = false ∧ (fnLook t.2.1).isSome = false ∧ n = u.2.2
theorem nam_kd {t : Tk} (h : t.1 = .nam) : kdL t = cNam := by
  unfold kdL
  rw [h]
  rfl
section
variable {P : Program} {w : World} {K : PySem.W.Frag} {mg : Str → Option Value} {base : Heap}
theorem ok_read_testU (T : Tx w K mg) : Ok P w K mg base (L2.CX P w) 4 (He.fAd K d_PathReader_read_test.at_) p_PathReader_read_test (spRpX K unkX) := by
  obtain ⟨fd, F⟩ := f_PathReader_read_test T
  obtain ⟨fP, GP, bP, kP⟩ := ok_peek (P := P) (base := base) T
  obtain ⟨fC, GC, bC, kC⟩ := ok_check_colon (P := P) (base := base) T
  obtain ⟨es, nn, D⟩ := He.dicW_ok T.tab_KINDS
  refine ⟨fd, ?_, b_PathReader_read_test F, F.kp⟩
  refine F.ok sc_PathReader_read_test (fun vs H Q E h => ?_) (fun cdv A outer s H vs Q E hr h => ?_)
  · obtain ⟨d, l, n, rfl, _⟩ := h
    rfl
  · obtain ⟨d, l, n, rfl, hp, ⟨t, u, m, rfl, hn, hco, hu, hk, hax, hfn, rfl⟩, k⟩ := h
    have nd := sc_PathReader_read_test.nd
    refine ⟨_, pss_cons (ps_set (i := 1) nd rfl (.inl rfl) (pe_meth0 (E := E0) (pv 0) (cls_PathReader T) (m_PathReader_peek T) GP (hr.mono (by decide)) bP .nil pass0))
      (pss_cons (ps_if (pt_cmpR op_eq (pe_ix ix_list (pe_fld (pv 0) rfl) (pe_fld (pv 0) rfl) (fun _ _ => rfl)) pe_str (nomark _)) pss_no pss_nil)
      (pss_cons (ps_if (pt_cmpR op_ne (pe_ix ix_tup (pv 1) pe_int (fun _ _ => rfl)) pe_str (nomark _)) pss_no pss_nil)
      (pss_cons (ps_fldaug (pv 0) pe_int ip_add)
      (pss_cons (ps_expr (pe_meth (E := E0) (pv 0) (cls_PathReader T) (m_PathReader_check_colon T) GC (hr.mono (by omega)) bC .nil pass0 (pa_cons (pv 1) pa_nil)))
      (pss_cons (ps_if (pt_cmpR op_ne (pe_ix ix_list (pe_fld (pv 0) rfl) (pe_fld (pv 0) rfl) (fun _ _ => rfl)) pe_str (nomark _)) pss_no pss_nil)
      (pss_cons (ps_if (pt_cmpR (op_notIn_kd D) (pe_ix ix_tup (pv 1) pe_int (fun _ _ => rfl)) (pe_glob (v := .ref (He.ga K "KINDS")) (by rfl) (g_KINDS T) rfl) (by rfl))
        (pss_one (ps_raise rfl (takes_of rfl rfl rfl rfl) (pmk_nd T (hr.mono (by decide)) (pa_cons (pe_ix ix_tup (pe_meth0 (E := E0) (pv 0) (cls_PathReader T) (m_PathReader_peek T) GP (hr.mono (by decide)) bP .nil pass0) pe_int (fun _ _ => rfl)) pa_nil)))) pss_nil)
      pss_no)))))), ?_⟩
    have hp' := hp
    obtain ⟨j, g, hj, h2, h3, h5, h4⟩ := hp'
    refine ⟨_, rfl, d.r, d.dx, _, rfl, h2, pr_no (by decide +kernel), d, t, u :: m, rfl, hp, fun a ha => ?_⟩
    have har := ne_ins h2 a _ ha (fun _ _ _ => by simp)
    refine ⟨_, rfl, d.r, CP K, d.dx, _, _, rfl, h2, cls_PathReader T, na_PathReader_kinds T, pr_kinds, _, rfl, d.r, CP K, d.dx, _, _, rfl, h2, cls_PathReader T, na_PathReader_at T, pr_at, d.M, _, (j : Int), _, rfl, rfl, SqL.of h5, atI_nat (kd_at hj), rfl, _, rfl, ?_⟩
    show if decide (V.str (kdS t) = V.str (Str.ofString "*")) = true then _ else _
    rw [kd_lit t [42], nam_kd hn]
    refine iteF ?_
    refine ⟨_, rfl, a, _, 0, _, rfl, rfl, SqT.of ha, atI0 _ _, rfl, _, rfl, ?_⟩
    show if (!decide (V.str (kiS t.1) = V.str (Str.ofString "name"))) = true then _ else _
    rw [kiS_lit t.1 .nam, decide_eq_true hn]
    refine iteF ?_
    have hpl := hp.place
    refine ⟨_, rfl, d.r, CP K, d.dx, _, _, rfl, h2, cls_PathReader T, na_PathReader_at T, pr_at, _, _, rfl, rfl, d.dx, _, h2, (by show 5 < 1000; decide), ?_⟩
    rw [pr_put (i := j + 1) (by show ((j : Nat) : Int) + 1 = ((j + 1 : Nat) : Int); omega)]
    have m1 := PR.go hp (drop_one hj)
    generalize upd H _ _ = H1 at m1 ⊢
    have ha1 := m1.1 _ _ har ha
    have hp1 := m1.2
    obtain ⟨j1, g1, hj1, h21, h31, h51, h41⟩ := hp1
    refine ⟨_, rfl, d.r, d.dx, _, rfl, h21, pr_no (by decide +kernel), _, rfl, d, u :: m, a, t, rfl, m1.2, ha1, by have := hpl.2.len; omega, hco, ?_⟩
    refine ⟨_, rfl, d.r, CP K, d.dx, _, _, rfl, h21, cls_PathReader T, na_PathReader_kinds T, pr_kinds, _, rfl, d.r, CP K, d.dx, _, _, rfl, h21, cls_PathReader T, na_PathReader_at T, pr_at, d.M, _, (j1 : Int), _, rfl, rfl, SqL.of h51, atI_nat (kd_at hj1), rfl, _, rfl, ?_⟩
    show if (!decide (V.str (kdS u) = V.str (Str.ofString "("))) = true then _ else _
    rw [kd_ne]
    refine iteF ?_ (by show (!(kdL u == [40])) = false; rw [hu]; rfl)
    refine ⟨_, rfl, a, _, 1, _, rfl, rfl, SqT.of ha1, atI1 _ _ _, ?_⟩
    have hno : PySem.W.nsIn K (He.ga K "KINDS") (mkS t.2.1) = some none := by
      unfold kindOf at hk
      cases q : kvs_KINDS.find? (fun q => tl q.1 == t.2.1) with
      | some y => rw [q] at hk; cases hk
      | none =>
        have := kv_no q
        rw [show kvs_KINDS.map (·.1) = keys_KINDS by decide +kernel] at this
        exact kd_no T.tab_KINDS this
    refine ⟨mkS t.2.1, none, rfl, rfl, hno, _, rfl, ?_⟩
    refine iteT ?_
    refine ⟨_, rfl, d.r, d.dx, _, rfl, h21, pr_no (by decide +kernel), d, u, m, rfl, m1.2, fun a2 ha2 => ⟨a2, _, 2, _, rfl, rfl, SqT.of ha2, atI_nat rfl, nd_ok (m1.2.logs (Nat.le_add_right _ _)) fun e y he => ?_⟩⟩
    exact k _ e (m1.raise hp he)
def spSwU (K : PySem.W.Frag) : Sp := fun vs H _ E => ∃ (d : Rd0) (l : List Tk) (n : Nat) (q : Addr), vs = [.ref d.r, .ref q] ∧ PR K H d l ∧ (∀ H', SqT K H' q (tup_AXES.map V.str)) ∧ unkX d.z l n ∧ ∀ H' e, Fl H H' d.r e n → E (.ref (CN K)) (some e) H'
theorem ok_read_step_withU (T : Tx w K mg) : Ok P w K mg base (L2.CX P w) 5 (He.fAd K d_PathReader_read_step_with.at_) p_PathReader_read_step_with (spSwU K) := by
  obtain ⟨fd, F⟩ := f_PathReader_read_step_with T
  obtain ⟨fA, GA, bA, kA⟩ := ok_read_axis (P := P) (base := base) T
  obtain ⟨fT, GT, bT, kT⟩ := ok_read_testU (P := P) (base := base) T
  refine ⟨fd, ?_, b_PathReader_read_step_with F, F.kp⟩
  refine F.ok sc_PathReader_read_step_with (fun vs H Q E h => ?_) (fun cdv A outer s H vs Q E hr h => ?_)
  · obtain ⟨d, l, n, q, rfl, _⟩ := h
    rfl
  · obtain ⟨d, l, n, q, rfl, hp, hq, hB, k⟩ := h
    have hB0 := hB
    obtain ⟨t, u, m, rfl, hn, hco, hu, hk, hax0, hfn, rfl⟩ := hB
    have nd := sc_PathReader_read_step_with.nd
    refine ⟨_, pss_cons (ps_set (i := 2) nd rfl (.inl rfl) pe_str)
      (pss_cons (ps_if (pw_and (pt_cmpR op_eq (pe_ix ix_list (pe_fld (pv 0) rfl) (pe_fld (pv 0) rfl) (fun _ _ => rfl)) pe_str (nomark _)) (pw_and1 (pt_cmpR op_notIn_seq (pe_ix ix_list (pe_fld (pv 0) rfl) (pe_op op_add (pe_fld (pv 0) rfl) pe_int) (fun _ _ => rfl)) (pe_glob (v := .ref (He.ga K "BEHIND_OTHER_NAMES")) (by rfl) (g_BEHIND_OTHER_NAMES T) rfl) (by rfl)))).pt pss_no
        (pss_cons (ps_set (i := 2) nd rfl (.inl rfl) (pe_meth (E := E0) (pv 0) (cls_PathReader T) (m_PathReader_read_axis T) GA (hr.mono (by omega)) bA .nil pass0 (pa_cons (pv 1) pa_nil)))
          (pss_one (ps_set (i := 3) nd rfl (.inl rfl) (pe_meth0 (E := E) (pv 0) (cls_PathReader T) (m_PathReader_read_test T) GT (hr.mono (by omega)) bT .nil (passes_call (takes_of rfl rfl rfl rfl) (fun _ _ _ _ h => h)))))))
      pss_no), ?_⟩
    have hp' := hp
    obtain ⟨j, g, hj, h2, h3, h5, h4⟩ := hp'
    refine ⟨_, rfl, d.r, CP K, d.dx, _, _, rfl, h2, cls_PathReader T, na_PathReader_kinds T, pr_kinds, _, rfl, d.r, CP K, d.dx, _, _, rfl, h2, cls_PathReader T, na_PathReader_at T, pr_at, d.M, _, (j : Int), _, rfl, rfl, SqL.of h5, atI_nat (kd_at hj), rfl, _, rfl, ?_⟩
    show if decide (V.str (kdS t) = V.str (Str.ofString "name")) = true then _ else _
    rw [kd_lit t cNam, nam_kd hn]
    refine iteT ?_
    refine ⟨_, rfl, d.r, CP K, d.dx, _, _, rfl, h2, cls_PathReader T, na_PathReader_kinds T, pr_kinds, _, rfl, d.r, CP K, d.dx, _, _, rfl, h2, cls_PathReader T, na_PathReader_at T, pr_at, _, _, rfl, rfl, d.M, _, (j : Int) + 1, _, rfl, rfl, SqL.of h5, (by rw [show ((j : Int) + 1) = ((j + 1 : Nat) : Int) by omega]; exact atI_nat (kd_at (drop_one hj))), ?_⟩
    refine ⟨He.ga K "BEHIND_OTHER_NAMES", _, rfl, .inr (strs_of (x_t_BEHIND_OTHER_NAMES T) (by decide) _), rfl, flat_strs _, ?_⟩
    rw [if_pos rfl]
    refine ⟨_, rfl, ?_⟩
    show if (!inV (.str (kdS u)) (tup_BEHIND_OTHER_NAMES.map V.str)) = true then _ else _
    rw [kd_in, eq_of_beq hu]
    refine iteF ?_ (by decide +kernel)
    have hax : axN (tup_AXES.map tl) (t :: u :: m) = some ([99, 104, 105, 108, 100], t :: u :: m) := by
      show (if kdL t == [64] then _ else if t.1 = .nam ∧ is1 t.2.1 (tup_AXES.map tl) = true then _ else _) = _
      rw [nam_kd hn, if_neg (by decide), if_neg (fun h => by rw [hax0] at h; exact absurd h.2 (by decide))]
    refine ⟨_, rfl, d.r, d.dx, _, rfl, h2, pr_no (by decide +kernel), _, rfl, d, _, q, tup_AXES, _, _, rfl, hp, hq, hax, fun H1 m1 => ?_⟩
    obtain ⟨j1, h21⟩ := m1.2.rm
    refine ⟨_, rfl, d.r, d.dx, _, rfl, h21, pr_no (by decide +kernel), d, t :: u :: m, _, rfl, m1.2, hB0, fun H2 e f => ?_⟩
    exact k H2 e (m1.fl hp f)
theorem ok_read_stepU (T : Tx w K mg) : Ok P w K mg base (L2.CX P w) 6 (He.fAd K d_PathReader_read_step.at_) p_PathReader_read_step (spRpX K unkX) := by
  obtain ⟨fd, F⟩ := f_PathReader_read_step T
  obtain ⟨fS, GS, bS, kS⟩ := ok_read_step_withU (P := P) (base := base) T
  refine ⟨fd, ?_, b_PathReader_read_step F, F.kp⟩
  refine F.ok sc_PathReader_read_step (fun vs H Q E h => ?_) (fun cdv A outer s H vs Q E hr h => ?_)
  · obtain ⟨d, l, n, rfl, _⟩ := h
    rfl
  · obtain ⟨d, l, n, rfl, hp, hB, k⟩ := h
    have hB0 := hB
    obtain ⟨t, u, m, rfl, hn, hco, hu, hk, hax0, hfn, rfl⟩ := hB
    have nd := sc_PathReader_read_step.nd
    have hp' := hp
    obtain ⟨j, g, hj, h2, h3, h5, h4⟩ := hp'
    refine ⟨_, pss_cons (ps_set (i := 1) nd rfl (.inl rfl) (pe_ix ix_list (pe_fld (pv 0) rfl) (pe_fld (pv 0) rfl) (fun _ _ => rfl)))
      (pss_cons (ps_if (pt_cmpR op_in_seq (pv 1) (pe_tup (pa_cons pe_str (pa_cons pe_str pa_nil))) (by rfl)) pss_no pss_nil)
      (pss_cons (ps_if (pw_and (pt_cmpR op_eq (pv 1) pe_str (nomark _)) (pw_and1 pt_nev)).pt pss_no pss_nil)
      (pss_one (ps_ret (pe_meth (E := E) (pv 0) (cls_PathReader T) (m_PathReader_read_step_with T) GS (hr.mono (by omega)) bS .nil (passes_call (takes_of rfl rfl rfl rfl) (fun _ _ _ _ h => h)) (pa_cons (pe_glob (v := .ref (He.ga K "AXES")) (by rfl) (g_AXES T) rfl) pa_nil)))))), ?_⟩
    refine ⟨_, rfl, d.r, CP K, d.dx, _, _, rfl, h2, cls_PathReader T, na_PathReader_kinds T, pr_kinds, _, rfl, d.r, CP K, d.dx, _, _, rfl, h2, cls_PathReader T, na_PathReader_at T, pr_at, d.M, _, (j : Int), _, rfl, rfl, SqL.of h5, atI_nat (kd_at hj), ?_⟩
    refine ⟨_, rfl, (by decide), fun p hpn => ⟨p, _, rfl, .inr (SqT.of upd_same), rfl, rfl, ?_⟩⟩
    rw [if_neg Bool.false_ne_true]
    refine ⟨_, rfl, ?_⟩
    show if inV (.str (kdS t)) ((["." , ".."] : List Str).map V.str) = true then _ else _
    rw [kd_in]
    have s1 := same_new hpn (o := .tup [V.str (Str.ofString "."), V.str (Str.ofString "..")])
    generalize upd H p (.tup [V.str (Str.ofString "."), V.str (Str.ofString "..")]) = H1 at s1 ⊢
    have hin : is1 (kdL t) ((["." , ".."] : List Str).map tl) = (kdL t == [46] || kdL t == [46, 46]) := by
      show ([46] == kdL t || ([46, 46] == kdL t || false)) = _
      rw [Bool.or_false, beq_comm' [46], beq_comm' [46, 46]]
    rw [hin, nam_kd hn]
    have hp1 := hp.same s1
    have h21 := s1 _ _ h2
    have m1 := MvR.same hp s1
    refine iteF ?_
    refine ⟨_, rfl, rfl, _, rfl, ?_⟩
    show if decide (V.str (kdS t) = V.str (Str.ofString "number")) = true then _ else _
    rw [kd_lit t (tl "number"), nam_kd hn]
    refine iteF (iteF ?_)
    refine ⟨_, rfl, d.r, d.dx, _, rfl, h21, pr_no (by decide +kernel), d, _, _, _, rfl, hp1, fun H' => strs_of (x_t_AXES T) (by decide) H', hB0, fun H2 e f => ?_⟩
    exact k H2 e (m1.fl hp f)
def spSsU (K : PySem.W.Frag) : Sp := fun vs H _ E => ∃ (d : Rd0) (l : List Tk) (n : Nat) (L : Addr) (ys : List V), vs = [.ref d.r, .ref L] ∧ PR K H d l ∧ H L = some (.lst ys) ∧ unkX d.z l n ∧ ∀ H' e, Fl H H' d.r e n → E (.ref (CN K)) (some e) H'
theorem ok_read_stepsU (T : Tx w K mg) : Ok P w K mg base (L2.CX P w) 7 (He.fAd K d_PathReader_read_steps.at_) p_PathReader_read_steps (spSsU K) := by
  obtain ⟨fd, F⟩ := f_PathReader_read_steps T
  obtain ⟨fS, GS, bS, kS⟩ := ok_read_stepU (P := P) (base := base) T
  refine ⟨fd, ?_, b_PathReader_read_steps F, F.kp⟩
  refine F.ok sc_PathReader_read_steps (fun vs H Q E h => ?_) (fun cdv A outer s H vs Q E hr h => ?_)
  · obtain ⟨d, l, n, L, ys, rfl, _⟩ := h
    rfl
  · obtain ⟨d, l, n, L, ys, rfl, hp, hL, hB, k⟩ := h
    have nd := sc_PathReader_read_steps.nd
    refine ⟨_, pss_one (ps_while (passes_of rfl) (pt_val pe_bl)
      (pss_cons (ps_expr (pe_bm PySem.F.plainAttrs_list PySem.F.slot_list_append PySem.F.type_list_append mt_append (pv 1) (pa_cons (pe_meth0 (E := E) (pv 0) (cls_PathReader T) (m_PathReader_read_step T) GS (hr.mono (by omega)) bS .nil (passes_call (takes_of rfl rfl rfl rfl) (fun _ _ _ _ h => h))) pa_nil))) pss_no)), ?_⟩
    refine while_x (fun mm σ H2 => σ = [some (.ref d.r), some (.ref L), none] ∧ H2 = H) (fun σ H2 => False) ⟨0, rfl, rfl⟩ (fun _ _ h => h.elim) ?_
    rintro - mm σ H2 R ⟨rfl, rfl⟩ hfin hbody
    refine ⟨_, rfl, ?_⟩
    refine hbody _ ?_
    obtain ⟨j2, h22⟩ := hp.rm
    exact ⟨_, rfl, .inl ⟨rfl, _, SqL.of hL⟩, _, rfl, d.r, d.dx, _, rfl, h22, pr_no (by decide +kernel), d, l, _, rfl, hp, hB, fun H3 e f => k H3 e f⟩
theorem ok_read_operandU (T : Tx w K mg) : Ok P w K mg base (L2.CX P w) 10 (He.fAd K d_PathReader_read_operand.at_) p_PathReader_read_operand (spRpX K unkX) := by
  obtain ⟨fd, F⟩ := f_PathReader_read_operand T
  obtain ⟨fS, GS, bS, kS⟩ := ok_read_stepsU (P := P) (base := base) T
  obtain ⟨fF, GF, bF, kF⟩ := ok_is_function (P := P) (base := base) T
  refine ⟨fd, ?_, b_PathReader_read_operand F, F.kp⟩
  refine F.ok sc_PathReader_read_operand (fun vs H Q E h => ?_) (fun cdv A outer s H vs Q E hr h => ?_)
  · obtain ⟨d, l, n, rfl, _⟩ := h
    rfl
  · obtain ⟨d, l, n, rfl, hp, hB, k⟩ := h
    have hB0 := hB
    obtain ⟨t, u, m, rfl, hn, hco, hu, hk, hax0, hfn, rfl⟩ := hB
    have nd := sc_PathReader_read_operand.nd
    have hp' := hp
    obtain ⟨j, g, hj, h2, h3, h5, h4⟩ := hp'
    obtain ⟨a, hv, ha⟩ := h4.at hj
    refine ⟨_, pss_cons (ps_set (i := 1) nd rfl (.inl rfl) (pe_ix ix_list (pe_fld (pv 0) rfl) (pe_fld (pv 0) rfl) (fun _ _ => rfl)))
      (pss_cons (ps_if (pt_cmpR op_eq (pv 1) pe_str (nomark _))
        (pss_cons (ps_set (i := 2) nd rfl (.inl rfl) (pe_ix ix_list (pe_fld (pv 0) rfl) (pe_op op_add (pe_fld (pv 0) rfl) pe_int) (fun _ _ => rfl)))
        (pss_cons (ps_if (pt_cmpR op_notIn_seq (pv 2) (pe_glob (v := .ref (He.ga K "BEHIND_LONGER_PATHS")) (by rfl) (g_BEHIND_LONGER_PATHS T) rfl) (by rfl)) pss_no pss_nil)
        (pss_one (ps_if (pw_and (pt_cmpR op_eq (pv 2) pe_str (nomark _)) (pw_and1 (pt_val (pe_meth (E := E0) (pv 0) (cls_PathReader T) (m_PathReader_is_function T) GF (hr.mono (by omega)) bF .nil pass0 (pa_cons (pe_ix ix_tup (pe_ix ix_list (pe_fld (pv 0) rfl) (pe_fld (pv 0) rfl) (fun _ _ => rfl)) pe_int (fun _ _ => rfl)) pa_nil))))).pt
          pss_no pss_nil)))) pss_no)
      (pss_one (ps_ret (pe_tup (pa_cons pe_str (pa_cons pe_non (pa_cons (pe_tupleOf (by rfl) (n_tuple T) (pe_meth (E := E) (pv 0) (cls_PathReader T) (m_PathReader_read_steps T) GS (hr.mono (by omega)) bS .nil (passes_call (takes_of rfl rfl rfl rfl) (fun _ _ _ _ h => h)) (pa_cons (pe_lst pa_nil) pa_nil))) pa_nil))))))), ?_⟩
    refine ⟨_, rfl, d.r, CP K, d.dx, _, _, rfl, h2, cls_PathReader T, na_PathReader_kinds T, pr_kinds, _, rfl, d.r, CP K, d.dx, _, _, rfl, h2, cls_PathReader T, na_PathReader_at T, pr_at, d.M, _, (j : Int), _, rfl, rfl, SqL.of h5, atI_nat (kd_at hj), ?_⟩
    refine ⟨_, rfl, rfl, _, rfl, ?_⟩
    show if decide (V.str (kdS t) = V.str (Str.ofString "name")) = true then _ else _
    rw [kd_lit t cNam, nam_kd hn]
    refine iteT ?_
    refine ⟨_, rfl, d.r, CP K, d.dx, _, _, rfl, h2, cls_PathReader T, na_PathReader_kinds T, pr_kinds, _, rfl, d.r, CP K, d.dx, _, _, rfl, h2, cls_PathReader T, na_PathReader_at T, pr_at, _, _, rfl, rfl, d.M, _, (j : Int) + 1, _, rfl, rfl, SqL.of h5, (by rw [show ((j : Int) + 1) = ((j + 1 : Nat) : Int) by omega]; exact atI_nat (kd_at (drop_one hj))), ?_⟩
    refine ⟨_, rfl, He.ga K "BEHIND_LONGER_PATHS", _, rfl, .inr (strs_of (x_t_BEHIND_LONGER_PATHS T) (by decide) _), rfl, flat_strs _, ?_⟩
    rw [if_pos rfl]
    refine ⟨_, rfl, ?_⟩
    show if (!inV (.str (kdS u)) (tup_BEHIND_LONGER_PATHS.map V.str)) = true then _ else _
    rw [kd_in, eq_of_beq hu]
    refine iteF ?_ (by decide +kernel)
    refine ⟨_, rfl, rfl, _, rfl, ?_⟩
    show if decide (V.str (kdS u) = V.str (Str.ofString "(")) = true then _ else _
    rw [kd_lit u [40], hu]
    refine iteT ?_
    refine ⟨_, rfl, d.r, d.dx, _, rfl, h2, pr_no (by decide +kernel), _, rfl, d.r, CP K, d.dx, _, _, rfl, h2, cls_PathReader T, na_PathReader_tokens T, pr_tokens, _, rfl, d.r, CP K, d.dx, _, _, rfl, h2, cls_PathReader T, na_PathReader_at T, pr_at, d.L, d.vs, (j : Int), _, rfl, rfl, SqL.of h3, atI_nat hv, ?_⟩
    refine ⟨a, _, 1, _, rfl, rfl, SqT.of ha, atI1 _ _ _, d, _, _, rfl, hp, _, rfl, ?_⟩
    rw [hfn]
    refine iteF ?_
    refine ⟨_, rfl, d.r, d.dx, _, rfl, h2, pr_no (by decide +kernel), (by decide), fun L hL => ?_⟩
    have m2 := (MvR.refl hp).more (same_new hL (o := .lst []))
    exact ⟨d, _, _, L, [], rfl, m2.2, upd_same, hB0, fun H3 e f => k H3 e (m2.fl hp f)⟩
end
end PX
/-! PQe -/
namespace PX
open PySem PySem.Spec PyProof.Rows L2 TL
section
variable {P : Program} {w : World} {K : PySem.W.Frag} {mg : Str → Option Value} {base : Heap}
theorem unk_45 : ∀ z l n, unkX z l n → ∃ t r, l = t :: r ∧ (kdL t == [45]) = false := by
  rintro z l n ⟨t, u, m, rfl, hn, _⟩
  refine ⟨t, _, rfl, ?_⟩
  rw [nam_kd hn]
  rfl
theorem opC_45 {ex : Str → List Tk → Rz} {EB : Str → List Tk → Nat → Prop} : ∀ z l n, opC ex EB z l n → ∃ t r, l = t :: r ∧ (kdL t == [45]) = false := by
  rintro z l n ⟨t, u, m, rfl, h, _⟩
  refine ⟨t, _, rfl, ?_⟩
  rw [eq_of_beq h]
  rfl
/-- a call of an unknown word -/
theorem ok_tree_ofU (T : Tx w K mg) : Ok P w K mg base (L2.CX P w) 16 (He.fAd K d_tree_of.at_) p_tree_of (spTrX K unkX) :=
  ok_tree_ofX T (by decide) (ok_read_pathE T (by decide) (ok_expressionX T (by decide) unk_45 (ok_read_operandU T)))
/-- a call with too many arguments, or too few -/
theorem ok_tree_ofC (T : Tx w K mg) (n : Nat) (hn : 1 ≤ n) : Ok P w K mg base (L2.CX P w) (4 + 7 * n + 6 + 1 + 1 + 4) (He.fAd K d_tree_of.at_) p_tree_of (spTrX K (opC (fun z => xpD n z) noO)) := by
  have hF : Ok P w K mg base (L2.CX P w) (4 + 7 * n) (He.fAd K d_PathReader_read_expression.at_) p_PathReader_read_expression (spRpX K noO) := by
    obtain ⟨fd, G, b, kp⟩ := ok_expressionX (P := P) (base := base) T (show 3 ≤ 10 by decide) noO_45 (ok_read_operandX T)
    exact ⟨fd, G.mono (by omega), b, kp⟩
  exact ok_tree_ofX T (by omega) (ok_read_pathE T (by omega) (ok_expressionX T (by omega) opC_45 (ok_read_operandC T (by omega) (ok_expr T n) hF)))
end
end PX
/-! PQf -/
namespace PX
open PySem PySem.Spec PyProof.Rows L2 TL
/-! ### an own exception with fields, held as a value -/
def ExD (cls : Value) (d : Option Addr) (a : Addr) : HO := .ext fun h => ∃ (oe : Obj) (vs : Array Value), h.get? a = some oe ∧ Zc cls d oe ∧ oe.data = .fields vs
theorem exD_ok {P : Program} {w : World} {H : Hp} {h : Heap} {a : Addr} {cls : Value} {d : Option Addr} {oe : Obj} {vs : Array Value} (e : h.get? a = some oe) (z : Zc cls d oe) (k : oe.data = .fields vs) : ObjOk P w H h a (ExD cls d a) :=
  ⟨⟨oe, vs, e, z, k⟩, ⟨oe, e⟩, fun _ _ ⟨o, v, q, r⟩ k => ⟨o, v, k o q, r⟩⟩
/-- what makes an exception, as a value -/
theorem pe_mk {X : Cx} {e : Expr} {t : L2.St → Hp → XK → Prop} (h : PMk X e t) : PE X e (fun σ H Q => t σ H fun cls d H1 => ∀ a, H1 a = none → Q (.ref a) (upd H1 a (ExD cls d a))) := by
  refine ⟨fun pins s σ H Q I hq => ?_⟩
  refine wpAny_mono (h pins s σ H _ I hq) (fun u s1 hu => ?_) fun _ _ x => x
  obtain ⟨a, oe, vs, sI, H', cls, d, rfl, J, k, hne, ha, hz, hd, h1, na, os, ag, r, q⟩ := hu
  refine ⟨.ref a, upd H' a (ExD cls d a), ?_, rfl, q a na⟩
  have I' := Inv.laidN (h' := s1.heap) (t' := s1.toks) J k hne na (exD_ok ha hz hd)
  exact ⟨I'.ok, by rw [os]; exact J.os, ag, I'.base, I'.loc, I'.cell, I'.free, I'.freeC, I'.pin, I'.hok, I'.len⟩
/-- a value's type, of such ones too -/
def TyY (K : PySem.W.Frag) (H : Hp) (x : V) (t : Value) : Prop := TyX K H x t ∨ ∃ (e D dd : Addr) (fs : List (Str × V)), x = .ref e ∧ t = .ref D ∧ H e = some (ExD (.ref D) (some dd) e) ∧ ExcC K D ∧ H dd = some (.xd fs)
def rIsy (K : PySem.W.Frag) : List V → Hp → VK → Prop := fun xs H Q => ∃ (x c : V) (t u : Value) (b : Bool), xs = [x, c] ∧ ClsV c u ∧ TyY K H x t ∧ PySem.W.kitOne K t u = some b ∧ Q (.bl b) H
theorem call_isy {X : Cx} : CallR X (.builtin "isinstance") (rIsy X.K) := by
  intro pins s σ H xs us Q I r h
  obtain ⟨x, c, t, u, b, rfl, k, ty, e, q⟩ := h
  rcases ty with ty | ⟨ea, D, dd, fs, rfl, rfl, he, C, hdd⟩
  · exact call_isi pins s σ H _ us Q I r ⟨x, c, t, u, b, rfl, k, ty, e, q⟩
  · cases r with
    | cons rx rr =>
      cases rr with
      | cons rt rr =>
        cases rr
        cases rx
        have e2 := k.eq rt
        subst e2
        obtain ⟨⟨oe, vs, hget, hz, hv⟩, _, _⟩ := I.hok ea _ he
        have hx : ObjOk X.prog X.w H s.heap dd (.xd fs) := I.hok dd _ hdd
        obtain ⟨mA, hns, hr⟩ := hx
        obtain ⟨od, ho, hl⟩ := lookIn_ns hns
        have J : PySem.W.InstAt s.heap ea oe D (some od) := ⟨hget, hz.1, by unfold PySem.W.notCls; rw [hv] <;> rfl, by rw [hz.2]; exact ho⟩
        have hcl : (PySem.W.clsIn X.K D).isSome = true := by
          obtain ⟨cd, hc, _⟩ := PySem.W.any_some C.hd
          rw [hc]
          rfl
        exact PySem.W.kia_one (PySem.W.kitx_exc hcl C.hg C.hk C.hs C.ha C.hn C.ht C.hm) I.kIn J e (fun z => nomatch z) fun tk => ⟨.bl b, H, I.kept (t' := tk) fun _ _ z => z, rfl, q⟩
/-! ### what is no text -/
section
variable {P : Program} {w : World} {K : PySem.W.Frag} {mg : Str → Option Value} {base : Heap}
theorem ok_path_text_never (T : Tx w K mg) : Ok P w K mg base CX0 1 (He.fAd K d_path_text.at_) p_path_text (fun _ _ _ _ => False) := by
  obtain ⟨fd, F⟩ := f_path_text T
  refine ⟨fd, ?_, b_path_text F, F.kp⟩
  exact F.ok sc_path_text (fun vs H Q E h => h.elim) (fun cdv A outer s H vs Q E hr h => h.elim)
theorem ok_read_path_never (T : Tx w K mg) : Ok P w K mg base CX0 1 (He.fAd K d_PathReader_read_path.at_) p_PathReader_read_path (fun _ _ _ _ => False) := by
  obtain ⟨fd, F⟩ := f_PathReader_read_path T
  refine ⟨fd, ?_, b_PathReader_read_path F, F.kp⟩
  exact F.ok sc_PathReader_read_path (fun vs H Q E h => h.elim) (fun cdv A outer s H vs Q E hr h => h.elim)
def spOdd (K : PySem.W.Frag) : Sp := fun vs H Q E => ∃ (x : V) (t : Value), vs = [x] ∧ TyY K H x t ∧ PySem.W.kitOne K t (.type "str") = some false ∧ ∀ d y, H d = none → E (.ref (CB K)) (some d) (upd H d (.xd [("why", y)]))
theorem ok_reader_of_odd (T : Tx w K mg) : Ok P w K mg base (L2.CX P w) 5 (He.fAd K d_reader_of.at_) p_reader_of (spOdd K) := by
  obtain ⟨fd, F⟩ := f_reader_of T
  refine ⟨fd, ?_, b_reader_of F, F.kp⟩
  refine F.ok sc_reader_of (fun vs H Q E h => ?_) (fun cdv A outer s H vs Q E hr h => ?_)
  · obtain ⟨x, t, rfl, _⟩ := h
    rfl
  · obtain ⟨x, t, rfl, h1, h2, h3⟩ := h
    refine ⟨_, pss_cons (ps_if (pt_not (pt_val (pe_callB call_isy (by rfl) (n_isinstance T) boot_isinstance (pa_cons (pv 0) (pa_cons (pe_bltn (v := .ty "str") (by rfl) (n_str T) boot_str rfl) pa_nil))))) (pss_one (ps_raise rfl (takes_of rfl rfl rfl rfl) (pmk_bv T (hr.mono (by decide)) (pa_cons pe_str pa_nil)))) pss_nil) pss_no, ?_⟩
    refine ⟨_, rfl, _, _, _, _, false, rfl, .ty "str", h1, h2, _, rfl, ?_⟩
    refine iteT ?_
    exact bv_ok fun d hd => h3 d _ hd
theorem ok_tree_of_odd (T : Tx w K mg) : Ok P w K mg base (L2.CX P w) 8 (He.fAd K d_tree_of.at_) p_tree_of (spOdd K) := by
  obtain ⟨fd, F⟩ := f_tree_of T
  obtain ⟨fR, GR, bR, kR⟩ := ok_reader_of_odd (P := P) (base := base) T
  obtain ⟨fD, GD, bD, kD⟩ := ok_read_path_never (P := P) (base := base) T
  refine ⟨fd, ?_, b_tree_of F, F.kp⟩
  refine F.ok sc_tree_of (fun vs H Q E h => ?_) (fun cdv A outer s H vs Q E hr h => ?_)
  · obtain ⟨x, t, rfl, _⟩ := h
    rfl
  · obtain ⟨x, t, rfl, h1, h2, h3⟩ := h
    refine ⟨_, pss_one (ps_ret (pe_meth0 (E := E0) (pe_call (E := E) GR (hr.mono (by decide)) (by rfl) (g_reader_of T) kR bR .nil (passes_call (takes_of rfl rfl rfl rfl) (fun _ _ _ _ h => h)) (pa_cons (pv 0) pa_nil)) (cls_PathReader T) (m_PathReader_read_path T) GD (hr.mono (by decide)) bD .nil pass0)), ?_⟩
    exact ⟨_, rfl, x, t, rfl, h1, h2, h3⟩
theorem ok_tokens_odd (T : Tx w K mg) : Ok P w K mg base (L2.CX P w) 11 (He.fAd K d_tokens.at_) p_tokens (spOdd K) := by
  obtain ⟨fd, F⟩ := f_tokens T
  obtain ⟨fR, GR, bR, kR⟩ := ok_reader_of_odd (P := P) (base := base) T
  refine ⟨fd, ?_, b_tokens F, F.kp⟩
  refine F.ok sc_tokens (fun vs H Q E h => ?_) (fun cdv A outer s H vs Q E hr h => ?_)
  · obtain ⟨x, t, rfl, _⟩ := h
    rfl
  · obtain ⟨x, t, rfl, h1, h2, h3⟩ := h
    have nd := sc_tokens.nd
    refine ⟨_, pss_cons (ps_set (i := 1) nd rfl (.inl rfl) (pe_call (E := E) GR (hr.mono (by decide)) (by rfl) (g_reader_of T) kR bR .nil (passes_call (takes_of rfl rfl rfl rfl) (fun _ _ _ _ h => h)) (pa_cons (pv 0) pa_nil))) pss_no, ?_⟩
    exact ⟨_, rfl, x, t, rfl, h1, h2, h3⟩
theorem ok_canonical_odd (T : Tx w K mg) : Ok P w K mg base (L2.CX P w) 11 (He.fAd K d_canonical.at_) p_canonical (spOdd K) := by
  obtain ⟨fd, F⟩ := f_canonical T
  obtain ⟨fT, GT, bT, kT⟩ := ok_tree_of_odd (P := P) (base := base) T
  obtain ⟨fP, GP, bP, kP⟩ := ok_path_text_never (P := P) (base := base) T
  refine ⟨fd, ?_, b_canonical F, F.kp⟩
  refine F.ok sc_canonical (fun vs H Q E h => ?_) (fun cdv A outer s H vs Q E hr h => ?_)
  · obtain ⟨x, t, rfl, _⟩ := h
    rfl
  · obtain ⟨x, t, rfl, h1, h2, h3⟩ := h
    refine ⟨_, pss_one (ps_ret (pe_call (E := E0) GP (hr.mono (by decide)) rfl (g_path_text T) kP bP .nil pass0
      (pa_cons (pe_call (E := E) GT (hr.mono (by decide)) rfl (g_tree_of T) kT bT .nil (passes_call (takes_of rfl rfl rfl rfl) (fun _ _ _ _ h => h)) (pa_cons (pv 0) pa_nil)) (pa_cons pe_bl pa_nil)))), ?_⟩
    exact ⟨_, rfl, x, t, rfl, h1, h2, h3⟩
theorem ok_abbreviated_odd (T : Tx w K mg) : Ok P w K mg base (L2.CX P w) 11 (He.fAd K d_abbreviated.at_) p_abbreviated (spOdd K) := by
  obtain ⟨fd, F⟩ := f_abbreviated T
  obtain ⟨fT, GT, bT, kT⟩ := ok_tree_of_odd (P := P) (base := base) T
  obtain ⟨fP, GP, bP, kP⟩ := ok_path_text_never (P := P) (base := base) T
  refine ⟨fd, ?_, b_abbreviated F, F.kp⟩
  refine F.ok sc_abbreviated (fun vs H Q E h => ?_) (fun cdv A outer s H vs Q E hr h => ?_)
  · obtain ⟨x, t, rfl, _⟩ := h
    rfl
  · obtain ⟨x, t, rfl, h1, h2, h3⟩ := h
    refine ⟨_, pss_one (ps_ret (pe_call (E := E0) GP (hr.mono (by decide)) rfl (g_path_text T) kP bP .nil pass0
      (pa_cons (pe_call (E := E) GT (hr.mono (by decide)) rfl (g_tree_of T) kT bT .nil (passes_call (takes_of rfl rfl rfl rfl) (fun _ _ _ _ h => h)) (pa_cons (pv 0) pa_nil)) (pa_cons pe_bl pa_nil)))), ?_⟩
    exact ⟨_, rfl, x, t, rfl, h1, h2, h3⟩
end
end PX
/-! PXGa -/
namespace PX
open PySem PySem.Spec PyProof.Rows L2 TL
/-! Rows of words that mean a tree, and that the plain reader finds it. Plain Lean. -/
abbrev Wd := List Nat
def wK (w : Wd) : Ki := (tkN w).1
def tk (p : Wd × Nat) : Tk := (wK p.1, p.1, p.2)
def tks (T : List (Wd × Nat)) : List Tk := T.map tk
/-- what a word is told by -/
def kdW (w : Wd) : Wd := kdL (wK w, w, 0)
theorem kdL_tk (p : Wd × Nat) : kdL (tk p) = kdW p.1 := rfl
/-- what must be so between tokens -/
def CC (z : Str) : List Tk → Prop
  | [] => True
  | [_] => True
  | t :: u :: r => (t.1 = .nam → ccN z t = false ∨ kdL u = [58, 58]) ∧ (t.2.1 = [36] → u.2.2 = t.2.2 + 1) ∧ CC z (u :: r)
theorem CC.tail {z : Str} : ∀ {t : Tk} {r : List Tk}, CC z (t :: r) → CC z r
  | _, [], _ => trivial
  | _, _ :: _, h => h.2.2
theorem CC.drop {z : Str} : ∀ {a b : List Tk}, CC z (a ++ b) → CC z b
  | [], _, h => h
  | _ :: _, _, h => CC.drop (CC.tail h)
theorem CC.cc {z : Str} {t u : Tk} {r : List Tk} (h : CC z (t :: u :: r)) (hn : t.1 = .nam) (hu : kdL u ≠ [58, 58]) : ccN z t = false := (h.1 hn).resolve_right hu
theorem tks_cons (p : Wd × Nat) (T : List (Wd × Nat)) : tks (p :: T) = tk p :: tks T := rfl
theorem tks_app (T S : List (Wd × Nat)) : tks (T ++ S) = tks T ++ tks S := List.map_append
theorem fst_cons {T : List (Wd × Nat)} {w : Wd} {R : List Wd} (h : T.map Prod.fst = w :: R) : ∃ i S, T = (w, i) :: S ∧ S.map Prod.fst = R := by
  cases T with
  | nil => cases h
  | cons p S =>
    obtain ⟨a, i⟩ := p
    simp only [List.map_cons, List.cons.injEq] at h
    obtain ⟨rfl, h⟩ := h
    exact ⟨i, S, rfl, h⟩
theorem fst_nil {T : List (Wd × Nat)} (h : T.map Prod.fst = []) : T = [] := List.map_eq_nil_iff.mp h
theorem fst_app {T : List (Wd × Nat)} {A B : List Wd} (h : T.map Prod.fst = A ++ B) : ∃ S U, T = S ++ U ∧ S.map Prod.fst = A ∧ U.map Prod.fst = B := List.map_eq_append_iff.mp h
/-- what may stand behind an expression -/
def stL : List Wd := [[61], [33, 61], [60], [60, 61], [62], [62, 61], [43], [45], [42], [124], [41], [93], [44], cEnd]
def stN : List Wd := cNam :: stL
def stp (u : Tk) : Bool := is1 (kdL u) stL || (kdL u == cNam && is1 u.2.1 opWords)
def foP : List Wd := [91] :: [47] :: [47, 47] :: stN
def foS : List Wd := [47] :: [47, 47] :: stN
theorem is1_iff {l : Wd} {ws : List Wd} : is1 l ws = true ↔ l ∈ ws := by
  unfold is1
  rw [List.any_eq_true]
  exact ⟨fun ⟨x, h, e⟩ => by rw [← eq_of_beq e]; exact h, fun h => ⟨l, h, by simp⟩⟩
theorem stp_mem {u : Tk} (h : stp u = true) : kdL u ∈ stN := by
  unfold stp at h
  rw [Bool.or_eq_true, Bool.and_eq_true] at h
  rcases h with h | ⟨h, _⟩
  · exact List.mem_cons_of_mem _ (is1_iff.mp h)
  · rw [eq_of_beq h]
    exact List.mem_cons_self
theorem st_P {w : Wd} (h : w ∈ stN) : w ∈ foP := by
  unfold foP
  simp [h]
theorem st_S {w : Wd} (h : w ∈ stN) : w ∈ foS := by
  unfold foS
  simp [h]
theorem S_P {w : Wd} (h : w ∈ foS) : w ∈ foP := List.mem_cons_of_mem _ h
/-- a fact of all words of a list -/
theorem fact {p : Wd → Bool} {L : List Wd} (h : L.all p = true) {w : Wd} (hw : w ∈ L) : p w = true := List.all_eq_true.mp h w hw
theorem factF {p : Wd → Bool} {L : List Wd} (h : L.all (fun x => !p x) = true) {w : Wd} (hw : w ∈ L) : p w = false := by
  have := List.all_eq_true.mp h w hw
  simpa using this
/-- rd reads the row R as d, whatever place its words have, if what stands behind is of fo -/
def Rds {α : Type} (z : Str) (rd : List Tk → Option (α × List Tk)) (fo : Tk → Prop) (R : List Wd) (d : α) : Prop :=
  ∀ T u l, T.map Prod.fst = R → CC z (tks T ++ u :: l) → fo u → rd (tks T ++ u :: l) = some (d, u :: l)
def cIns : Wd := [105, 110, 115, 116, 114, 117, 99, 116, 105, 111, 110]
def cPi : Wd := [112, 114, 111, 99, 101, 115, 115, 105, 110, 103, 45] ++ cIns
inductive TestRow : PyData → List Wd → Prop
  | name {nm : Wd} (h : wK nm = .nam) : TestRow (.tuple [dT "name", dW nm]) [nm]
  | any : TestRow (.tuple [dT "any"]) [[42]]
  | kind {w k : Wd} (h : wK w = .nam) (hk : kindOf w = some k) : TestRow (.tuple [dT "kind", dW k, .none]) [w, [40], [41]]
  | pi {w q : Wd} (hw : wK w = .nam) (hk : kindOf w = some cIns) (h : wK q = .txt) : TestRow (.tuple [dT "kind", dW cIns, dW (inText q)]) [w, [40], q, [41]]
theorem kdW_nam {w : Wd} (h : wK w = .nam) : kdW w = cNam := by
  unfold kdW kdL
  rw [h]
  rfl
theorem kdW_num {w : Wd} (h : wK w = .num) : kdW w = cNum := by
  unfold kdW kdL
  rw [h]
  rfl
theorem kdW_txt {w : Wd} (h : wK w = .txt) : kdW w = cTxt := by
  unfold kdW kdL
  rw [h]
  rfl
section
variable {z : Str}
theorem exN_ok {s : Wd} {t : Tk} {r : List Tk} (h : kdL t = s) : exN s (t :: r) = some r := by
  show (if (kdL t == s) = true then some r else none) = _
  rw [h, if_pos (by simp)]
theorem tk1 (w : Wd) (i : Nat) : (tk (w, i)).1 = wK w := rfl
theorem tk2 (w : Wd) (i : Nat) : (tk (w, i)).2.1 = w := rfl
theorem test_rd {d : PyData} {R : List Wd} (h : TestRow d R) : Rds z (testN z) (fun u => kdL u ∈ foP) R d := by
  intro T u l hT hc hu
  have hno : (kdL u == [40]) = false := factF (p := fun x => x == [40]) (by decide) hu
  have hcc : kdL u ≠ [58, 58] := fun e => by rw [e] at hu; exact absurd hu (by decide)
  cases h with
  | name h =>
    rename_i nm
    obtain ⟨i, S, rfl, hS⟩ := fst_cons hT
    obtain rfl := fst_nil hS
    have c : ccN z (tk (nm, i)) = false := CC.cc hc h hcc
    show (if (kdL (tk (nm, i)) == [42]) = true then _ else if (tk (nm, i)).1 = .nam ∧ ccN z (tk (nm, i)) = false then
      (if (kdL u == [40]) = true then _ else some (PyData.tuple [dT "name", dW nm], u :: l)) else none) = _
    rw [kdL_tk, kdW_nam h, if_neg (by decide), if_pos ⟨h, c⟩, hno, if_neg Bool.false_ne_true]
  | any =>
    obtain ⟨i, S, rfl, hS⟩ := fst_cons hT
    obtain rfl := fst_nil hS
    rfl
  | kind h hk =>
    rename_i w k
    obtain ⟨i, S, rfl, hS⟩ := fst_cons hT
    obtain ⟨i2, S2, rfl, hS2⟩ := fst_cons hS
    obtain ⟨i3, S3, rfl, hS3⟩ := fst_cons hS2
    obtain rfl := fst_nil hS3
    have c : ccN z (tk (w, i)) = false := CC.cc hc h (by show kdW [40] ≠ [58, 58]; decide)
    show (if (kdL (tk (w, i)) == [42]) = true then _ else if (tk (w, i)).1 = .nam ∧ ccN z (tk (w, i)) = false then
      (match kindOf w with | some k => kdTest k (tk ([40], i2) :: tk ([41], i3) :: u :: l) | none => none) else none) = _
    rw [kdL_tk, kdW_nam h, if_neg (by decide), if_pos ⟨h, c⟩, hk]
    show (if (k == [105, 110, 115, 116, 114, 117, 99, 116, 105, 111, 110] && !(kdW [41] == [41])) = true then _ else (exN [41] (tk ([41], i3) :: u :: l)).map fun l => (PyData.tuple [dT "kind", dW k, .none], l)) = _
    rw [show (!(kdW [41] == [41])) = false from by decide, Bool.and_false, if_neg Bool.false_ne_true, exN_ok (by show kdW [41] = [41]; decide)]
    rfl
  | pi hpi hk h =>
    rename_i w q
    obtain ⟨i, S, rfl, hS⟩ := fst_cons hT
    obtain ⟨i2, S2, rfl, hS2⟩ := fst_cons hS
    obtain ⟨i3, S3, rfl, hS3⟩ := fst_cons hS2
    obtain ⟨i4, S4, rfl, hS4⟩ := fst_cons hS3
    obtain rfl := fst_nil hS4
    have c : ccN z (tk (w, i)) = false := CC.cc hc hpi (by show kdW [40] ≠ [58, 58]; decide)
    show (if (kdL (tk (w, i)) == [42]) = true then _ else if (tk (w, i)).1 = .nam ∧ ccN z (tk (w, i)) = false then
      (match kindOf w with | some k => kdTest k (tk ([40], i2) :: tk (q, i3) :: tk ([41], i4) :: u :: l) | none => none) else none) = _
    rw [kdL_tk, kdW_nam hpi, if_neg (by decide), if_pos ⟨hpi, c⟩, hk]
    show (if (cIns == [105, 110, 115, 116, 114, 117, 99, 116, 105, 111, 110] && !(kdW q == [41])) = true then (match wK q with | .txt => (exN [41] (tk ([41], i4) :: u :: l)).map fun l => (PyData.tuple [dT "kind", dW cIns, dW (inText q)], l) | _ => none) else _) = _
    rw [kdW_txt h, if_pos (by decide), h, exN_ok (by show kdW [41] = [41]; decide)]
    rfl
end
end PX
/-! PXGb -/
namespace PX
open PySem PySem.Spec PyProof.Rows L2 TL
abbrev Inn := PyData → List Wd → Prop
/-- what may stand behind an inner expression -/
def clo : List Wd := [[93], [41], [44], cEnd]
theorem clo_st {w : Wd} (h : w ∈ clo) : w ∈ stN := by
  have := fact (p := fun x => decide (x ∈ stN)) (by decide) h
  exact of_decide_eq_true this
/-- the words at the head of an expression -/
def hdL : List Wd := [cNum, cTxt, [36], cNam, [40], [46], [46, 46], [64], [42], [47], [47, 47], [45]]
def HdOk (R : List Wd) : Prop := ∃ w R2, R = w :: R2 ∧ kdW w ∈ hdL
/-- ex reads what is inner -/
structure InnOk (z : Str) (ex : List Tk → Rz) (inn : Inn) : Prop where
  rd : ∀ d R, inn d R → Rds z ex (fun u => kdL u ∈ clo) R d
  hd : ∀ d R, inn d R → HdOk R
inductive PredsRow (inn : Inn) : List PyData → List Wd → Prop
  | nil : PredsRow inn [] []
  | cons {d : PyData} {R : List Wd} {ps : List PyData} {Rp : List Wd} (h : inn d R) (hp : PredsRow inn ps Rp) : PredsRow inn (d :: ps) ([91] :: (R ++ [93] :: Rp))
inductive StepRow (inn : Inn) : PyData → List Wd → Prop
  | dot : StepRow inn dHere [[46]]
  | dots : StepRow inn dAbove [[46, 46]]
  | full {ax : Wd} {t : PyData} {Rt : List Wd} {ps : List PyData} {Rp : List Wd} (h : wK ax = .nam) (ha : is1 ax axesL = true) (ht : TestRow t Rt) (hp : PredsRow inn ps Rp) : StepRow inn (.tuple [dW ax, t, .tuple ps]) (ax :: [58, 58] :: (Rt ++ Rp))
  | att {t : PyData} {Rt : List Wd} {ps : List PyData} {Rp : List Wd} (ht : TestRow t Rt) (hp : PredsRow inn ps Rp) : StepRow inn (.tuple [dW cAtt, t, .tuple ps]) ([64] :: (Rt ++ Rp))
  | chi {t : PyData} {Rt : List Wd} {ps : List PyData} {Rp : List Wd} (ht : TestRow t Rt) (hp : PredsRow inn ps Rp) : StepRow inn (.tuple [dW cChi, t, .tuple ps]) (Rt ++ Rp)
inductive SsRow (inn : Inn) : List PyData → List Wd → Prop
  | one {s : PyData} {R : List Wd} (h : StepRow inn s R) : SsRow inn [s] R
  | sl {s : PyData} {R : List Wd} {ss : List PyData} {Rs : List Wd} (h : StepRow inn s R) (hs : SsRow inn ss Rs) : SsRow inn (s :: ss) (R ++ [47] :: Rs)
  | sl2 {s : PyData} {R : List Wd} {ss : List PyData} {Rs : List Wd} (h : StepRow inn s R) (hs : SsRow inn ss Rs) : SsRow inn (s :: dAny :: ss) (R ++ [47, 47] :: Rs)
section
variable {z : Str} {ex : List Tk → Rz} {inn : Inn}
theorem preds_rd (hE : InnOk z ex inn) {ps : List PyData} {R : List Wd} (h : PredsRow inn ps R) : ∀ (T : List (Wd × Nat)) (u : Tk) (l : List Tk) (f : Nat) (acc : List PyData), T.map Prod.fst = R → CC z (tks T ++ u :: l) → kdL u ≠ [91] → ps.length < f → prdN ex f acc (tks T ++ u :: l) = some (acc ++ ps, u :: l) := by
  induction h with
  | nil =>
    intro T u l f acc hT hc hu hf
    obtain rfl := fst_nil hT
    obtain ⟨f, rfl⟩ : ∃ g, f = g + 1 := ⟨f - 1, by simp at hf; omega⟩
    show (if (kdL u == [91]) = true then _ else some (acc, u :: l)) = _
    rw [beq_eq_false_iff_ne.mpr hu, if_neg Bool.false_ne_true, List.append_nil]
  | cons h hp ih =>
    rename_i d R ps Rp
    intro T u l f acc hT hc hu hf
    obtain ⟨f, rfl⟩ : ∃ g, f = g + 1 := ⟨f - 1, by simp at hf; omega⟩
    obtain ⟨i, S, rfl, hS⟩ := fst_cons hT
    obtain ⟨A, B, rfl, hA, hB⟩ := fst_app hS
    obtain ⟨i2, B2, rfl, hB2⟩ := fst_cons hB
    rw [tks_cons, tks_app, tks_cons] at hc ⊢
    have hc1 : CC z ((tks A ++ tk ([93], i2) :: tks B2) ++ u :: l) := CC.tail hc
    rw [List.append_assoc] at hc1
    have e1 := hE.rd d R h A (tk ([93], i2)) (tks B2 ++ u :: l) hA hc1 (by show kdW [93] ∈ clo; decide)
    have e2 := ih B2 u l f (acc ++ [d]) hB2 (CC.tail (CC.drop hc1)) hu (by simp at hf; omega)
    rw [List.cons_append, List.append_assoc, List.cons_append]
    unfold prdN
    rw [if_pos (by show (kdW [91] == [91]) = true; decide), e1]
    dsimp only
    rw [exN_ok (by show kdW [93] = [93]; decide)]
    dsimp only
    rw [e2, List.append_assoc]
    rfl
theorem predsN_rd (hE : InnOk z ex inn) {ps : List PyData} {R : List Wd} (h : PredsRow inn ps R) : Rds z (predsN ex) (fun u => kdL u ≠ [91]) R ps := by
  intro T u l hT hc hu
  cases h with
  | nil =>
    obtain rfl := fst_nil hT
    show (if (kdL u == [91]) = true then _ else some ([], u :: l)) = _
    rw [beq_eq_false_iff_ne.mpr hu, if_neg Bool.false_ne_true]
  | cons h hp =>
    rename_i d R ps Rp
    have hlen : (d :: ps).length < T.length + l.length + 2 := by
      have h1 : ∀ {ps : List PyData} {R : List Wd}, PredsRow inn ps R → ps.length ≤ R.length := by
        intro ps R h
        induction h with
        | nil => exact Nat.le_refl _
        | cons _ _ ih => simp; omega
      have h2 := h1 (PredsRow.cons h hp)
      rw [← hT, List.length_map] at h2
      omega
    have e := preds_rd hE (PredsRow.cons h hp) T u l (T.length + l.length + 2) [] hT hc hu hlen
    obtain ⟨i, S, rfl, hS⟩ := fst_cons hT
    have e4 : predsN ex (tk ([91], i) :: (tks S ++ u :: l)) = prdN ex ((tks S ++ u :: l).length + 2) [] (tk ([91], i) :: (tks S ++ u :: l)) := by
      unfold predsN
      dsimp only
      rw [if_pos (by show (kdW [91] == [91]) = true; decide)]
    show predsN ex (tk ([91], i) :: (tks S ++ u :: l)) = _
    rw [e4]
    have e3 : (tks S ++ u :: l).length + 2 = (([91], i) :: S).length + l.length + 2 := by
      unfold tks
      simp
      omega
    rw [e3]
    exact e
theorem kind_no {w k : Wd} (hk : kindOf w = some k) : is1 w axesL = false ∧ fnLook w = none := by
  unfold kindOf at hk
  cases q : kvs_KINDS.find? (fun q => tl q.1 == w) with
  | none => rw [q] at hk; cases hk
  | some y =>
    have h1 := List.mem_of_find?_eq_some q
    have h2 := List.find?_some q
    have h3 : kvs_KINDS.all (fun y => !is1 (tl y.1) axesL && (fnLook (tl y.1)).isNone) = true := by decide +kernel
    have h4 := List.all_eq_true.mp h3 y h1
    rw [eq_of_beq h2] at h4
    rw [Bool.and_eq_true, Bool.not_eq_true', Option.isNone_iff_eq_none] at h4
    exact h4
/-- the head of a test -/
theorem test_hd {t : PyData} {Rt : List Wd} (h : TestRow t Rt) : (∃ nm, wK nm = .nam ∧ t = .tuple [dT "name", dW nm] ∧ Rt = [nm]) ∨ Rt = [[42]] ∨ (∃ w R, wK w = .nam ∧ Rt = w :: [40] :: R ∧ is1 w axesL = false ∧ fnLook w = none) := by
  cases h with
  | name h => exact .inl ⟨_, h, rfl, rfl⟩
  | any => exact .inr (.inl rfl)
  | kind h hk =>
    rename_i w k
    exact .inr (.inr ⟨w, _, h, rfl, kind_no hk⟩)
  | pi hw hk h =>
    rename_i w q
    exact .inr (.inr ⟨w, _, hw, rfl, kind_no hk⟩)
/-- what stands first in predicates, or behind them -/
theorem preds_fo {ps : List PyData} {Rp : List Wd} (h : PredsRow inn ps Rp) {S : List (Wd × Nat)} (hS : S.map Prod.fst = Rp) {u : Tk} {l : List Tk} (hu : kdL u ∈ foS) : ∃ v m, tks S ++ u :: l = v :: m ∧ kdL v ∈ foP := by
  cases h with
  | nil =>
    obtain rfl := fst_nil hS
    exact ⟨u, l, rfl, S_P hu⟩
  | cons h hp =>
    obtain ⟨i, S2, rfl, hS2⟩ := fst_cons hS
    exact ⟨tk ([91], i), tks S2 ++ u :: l, rfl, by show kdW [91] ∈ foP; decide⟩
/-- test and predicates -/
theorem tp_rd (hE : InnOk z ex inn) {t : PyData} {Rt : List Wd} {ps : List PyData} {Rp : List Wd} (ht : TestRow t Rt) (hp : PredsRow inn ps Rp) {A B : List (Wd × Nat)} {u : Tk} {l : List Tk} (hA : A.map Prod.fst = Rt) (hB : B.map Prod.fst = Rp) (hc : CC z (tks A ++ (tks B ++ u :: l))) (hu : kdL u ∈ foS) :
    testN z (tks A ++ (tks B ++ u :: l)) = some (t, tks B ++ u :: l) ∧ predsN ex (tks B ++ u :: l) = some (ps, u :: l) := by
  obtain ⟨v, m, e, hv⟩ := preds_fo hp hB (l := l) hu
  refine ⟨?_, predsN_rd hE hp B u l hB (CC.drop hc) (fun q => by rw [q] at hu; exact absurd hu (by decide))⟩
  rw [e] at hc ⊢
  exact test_rd ht A v m hA hc hv
theorem stw_of {axs : List Wd} {l m n : List Tk} {ax : Wd} {ts : PyData} {ps : List PyData} (h : headN axs z l = some (ax, ts, m)) (hp : predsN ex m = some (ps, n)) : stwN axs ex z l = some (.tuple [dW ax, ts, .tuple ps], n) := by
  unfold stwN
  rw [h]
  dsimp only
  rw [hp]
  rfl
theorem head_ax {axs : List Wd} {t u : Tk} {r l m : List Tk} {ax : Wd} {ts : PyData} (h1 : (kdL t == cNam && !is1 (kdL u) behOther) = false) (h2 : axN axs (t :: u :: r) = some (ax, l)) (h3 : testN z l = some (ts, m)) : headN axs z (t :: u :: r) = some (ax, ts, m) := by
  unfold headN
  dsimp only
  rw [h1, if_neg Bool.false_ne_true, h2]
  dsimp only
  rw [h3]
  rfl
theorem step_rd (hE : InnOk z ex inn) {d : PyData} {R : List Wd} (h : StepRow inn d R) : Rds z (stepN ex z) (fun u => kdL u ∈ foS) R d := by
  intro T u l hT hc hu
  -- the head tells it
  have key : ∀ {t v : Tk} {m : List Tk}, (kdL t == [46]) = false → (kdL t == [46, 46]) = false → (kdL t == cNum) = false → stepN ex z (t :: v :: m) = stwN axesL ex z (t :: v :: m) := by
    intro t v m h1 h2 h3
    show (if (kdL t == [46]) = true then _ else if (kdL t == [46, 46]) = true then _ else if (kdL t == cNum) = true then _ else _) = _
    rw [h1, h2, h3, if_neg Bool.false_ne_true, if_neg Bool.false_ne_true, if_neg Bool.false_ne_true]
  cases h with
  | dot =>
    obtain ⟨i, S, rfl, hS⟩ := fst_cons hT
    obtain rfl := fst_nil hS
    rfl
  | dots =>
    obtain ⟨i, S, rfl, hS⟩ := fst_cons hT
    obtain rfl := fst_nil hS
    rfl
  | full hk ha ht hp =>
    rename_i ax t Rt ps Rp
    obtain ⟨i, S, rfl, hS⟩ := fst_cons hT
    obtain ⟨i2, S2, rfl, hS2⟩ := fst_cons hS
    obtain ⟨A, B, rfl, hA, hB⟩ := fst_app hS2
    rw [tks_cons, tks_cons, tks_app, List.cons_append, List.cons_append, List.append_assoc] at hc ⊢
    obtain ⟨e1, e2⟩ := tp_rd hE ht hp hA hB (CC.tail (CC.tail hc)) hu
    rw [key (by rw [kdL_tk, kdW_nam hk]; decide) (by rw [kdL_tk, kdW_nam hk]; decide) (by rw [kdL_tk, kdW_nam hk]; decide)]
    have hh : headN axesL z (tk (ax, i) :: tk ([58, 58], i2) :: (tks A ++ (tks B ++ u :: l))) = some (ax, t, tks B ++ u :: l) := by
      have hax : axN axesL (tk (ax, i) :: tk ([58, 58], i2) :: (tks A ++ (tks B ++ u :: l))) = some (ax, tks A ++ (tks B ++ u :: l)) := by
        show (if (kdL (tk (ax, i)) == [64]) = true then _ else if wK ax = .nam ∧ is1 ax axesL = true then (if ([58, 58] : Wd) == [58, 58] then some (ax, tks A ++ (tks B ++ u :: l)) else _) else _) = _
        rw [kdL_tk, kdW_nam hk, if_neg (by decide), if_pos ⟨hk, ha⟩, if_pos (by decide)]
      exact head_ax (by rw [kdL_tk, kdL_tk, kdW_nam hk]; show (cNam == cNam && !is1 (kdW [58, 58]) behOther) = false; decide) hax e1
    exact stw_of hh e2
  | att ht hp =>
    rename_i t Rt ps Rp
    obtain ⟨i, S, rfl, hS⟩ := fst_cons hT
    obtain ⟨A, B, rfl, hA, hB⟩ := fst_app hS
    rw [tks_cons, tks_app, List.cons_append, List.append_assoc] at hc ⊢
    obtain ⟨e1, e2⟩ := tp_rd hE ht hp hA hB (CC.tail hc) hu
    have hne : ∃ v m, tks A ++ (tks B ++ u :: l) = v :: m := by
      rcases test_hd ht with ⟨nm, _, _, rfl⟩ | rfl | ⟨w, R, _, rfl, _⟩ <;>
      · obtain ⟨i3, A2, rfl, _⟩ := fst_cons hA
        exact ⟨_, _, rfl⟩
    obtain ⟨v, m, e⟩ := hne
    rw [e] at e1 ⊢
    rw [key (by show (kdW [64] == [46]) = false; decide) (by show (kdW [64] == [46, 46]) = false; decide) (by show (kdW [64] == cNum) = false; decide)]
    have hh : headN axesL z (tk ([64], i) :: v :: m) = some (cAtt, t, tks B ++ u :: l) := by
      have hax : axN axesL (tk ([64], i) :: v :: m) = some (cAtt, v :: m) := rfl
      exact head_ax (by rw [kdL_tk, show (kdW [64] == cNam) = false from by decide, Bool.false_and]) hax e1
    exact stw_of hh e2
  | chi ht hp =>
    rename_i t Rt ps Rp
    obtain ⟨A, B, rfl, hA, hB⟩ := fst_app hT
    rw [tks_app, List.append_assoc] at hc ⊢
    obtain ⟨e1, e2⟩ := tp_rd hE ht hp hA hB hc hu
    obtain ⟨v, m, e, hv⟩ := preds_fo hp hB (l := l) hu
    suffices hh : ∃ t1 t2 m1, tks A ++ (tks B ++ u :: l) = t1 :: t2 :: m1 ∧ (kdL t1 == [46]) = false ∧ (kdL t1 == [46, 46]) = false ∧ (kdL t1 == cNum) = false ∧ headN axesL z (t1 :: t2 :: m1) = some (cChi, t, tks B ++ u :: l) by
      obtain ⟨t1, t2, m1, e0, h1, h2, h3, hh⟩ := hh
      rw [e0, key h1 h2 h3]
      exact stw_of hh e2
    have hvo : is1 (kdL v) behOther = false := factF (p := fun x => is1 x behOther) (by decide) hv
    rcases test_hd ht with ⟨nm, hn, rfl, rfl⟩ | rfl | ⟨w, R, hw, rfl, hx, _⟩
    · obtain ⟨i, A2, rfl, hA2⟩ := fst_cons hA
      obtain rfl := fst_nil hA2
      have hk : kdL (tk (nm, i)) = cNam := kdW_nam hn
      refine ⟨tk (nm, i), v, m, (by rw [e]; rfl), (by rw [hk]; decide), (by rw [hk]; decide), (by rw [hk]; decide), ?_⟩
      show (if (kdL (tk (nm, i)) == cNam && !is1 (kdL v) behOther) = true then some (cChi, PyData.tuple [dT "name", dW nm], v :: m) else _) = _
      rw [hk, hvo, if_pos (by decide), e]
    · obtain ⟨i, A2, rfl, hA2⟩ := fst_cons hA
      obtain rfl := fst_nil hA2
      refine ⟨tk ([42], i), v, m, (by rw [e]; rfl), (by show (kdW [42] == [46]) = false; decide), (by show (kdW [42] == [46, 46]) = false; decide), (by show (kdW [42] == cNum) = false; decide), ?_⟩
      have hax : axN axesL (tk ([42], i) :: v :: m) = some (cChi, tk ([42], i) :: v :: m) := rfl
      rw [e] at e1 ⊢
      exact head_ax (by rw [kdL_tk, show (kdW [42] == cNam) = false from by decide, Bool.false_and]) hax e1
    · obtain ⟨i, A2, rfl, hA2⟩ := fst_cons hA
      obtain ⟨i2, A3, rfl, hA3⟩ := fst_cons hA2
      have hk : kdL (tk (w, i)) = cNam := kdW_nam hw
      refine ⟨tk (w, i), tk ([40], i2), tks A3 ++ (tks B ++ u :: l), rfl, (by rw [hk]; decide), (by rw [hk]; decide), (by rw [hk]; decide), ?_⟩
      have hax : axN axesL (tk (w, i) :: tk ([40], i2) :: (tks A3 ++ (tks B ++ u :: l))) = some (cChi, tk (w, i) :: tk ([40], i2) :: (tks A3 ++ (tks B ++ u :: l))) := by
        show (if (kdL (tk (w, i)) == [64]) = true then _ else if wK w = .nam ∧ is1 w axesL = true then _ else some (cChi, _)) = _
        rw [hk, if_neg (by decide), if_neg (by rw [hx]; simp)]
      exact head_ax (by rw [kdL_tk, kdL_tk, kdW_nam hw]; show (cNam == cNam && !is1 (kdW [40]) behOther) = false; decide) hax e1
theorem ss_len {ss : List PyData} {R : List Wd} (h : SsRow inn ss R) : True := trivial
theorem steps_rd (hE : InnOk z ex inn) {ss : List PyData} {R : List Wd} (h : SsRow inn ss R) : ∀ (T : List (Wd × Nat)) (u : Tk) (l : List Tk) (f : Nat) (acc : List PyData), T.map Prod.fst = R → CC z (tks T ++ u :: l) → kdL u ∈ stN → T.length < f → stepsN ex z f acc (tks T ++ u :: l) = some (acc ++ ss, u :: l) := by
  have go : ∀ {s : PyData} {R1 : List Wd}, StepRow inn s R1 → ∀ {A : List (Wd × Nat)} {v : Tk} {m : List Tk} {f : Nat} {acc : List PyData}, A.map Prod.fst = R1 → CC z (tks A ++ v :: m) → kdL v ∈ foS → stepsN ex z (f + 1) acc (tks A ++ v :: m) =
      if kdL v == [47, 47] then stepsN ex z f (acc ++ [s] ++ [dAny]) m else if kdL v == [47] then stepsN ex z f (acc ++ [s]) m else some (acc ++ [s], v :: m) := by
    intro s R1 h A v m f acc hA hc hv
    have e := step_rd hE h A v m hA hc hv
    show (match stepN ex z (tks A ++ v :: m) with | some (s, t :: r) => _ | _ => none) = _
    rw [e]
  induction h with
  | one h =>
    intro T u l f acc hT hc hu hf
    obtain ⟨f, rfl⟩ : ∃ g, f = g + 1 := ⟨f - 1, by omega⟩
    rw [go h hT hc (st_S hu), factF (p := fun x => x == [47, 47]) (by decide) hu, factF (p := fun x => x == [47]) (by decide) hu, if_neg Bool.false_ne_true, if_neg Bool.false_ne_true]
  | sl h hs ih =>
    rename_i s R ss Rs
    intro T u l f acc hT hc hu hf
    obtain ⟨f, rfl⟩ : ∃ g, f = g + 1 := ⟨f - 1, by omega⟩
    obtain ⟨A, B, rfl, hA, hB⟩ := fst_app hT
    obtain ⟨i, B2, rfl, hB2⟩ := fst_cons hB
    rw [tks_app, tks_cons, List.append_assoc, List.cons_append] at hc ⊢
    rw [go h hA hc (by show kdW [47] ∈ foS; decide), kdL_tk, if_neg (by show ¬ (kdW [47] == [47, 47]) = true; decide), if_pos (by show (kdW [47] == [47]) = true; decide)]
    rw [ih B2 u l f (acc ++ [s]) hB2 (CC.tail (CC.drop hc)) hu (by simp at hf; omega), List.append_assoc]
    rfl
  | sl2 h hs ih =>
    rename_i s R ss Rs
    intro T u l f acc hT hc hu hf
    obtain ⟨f, rfl⟩ : ∃ g, f = g + 1 := ⟨f - 1, by omega⟩
    obtain ⟨A, B, rfl, hA, hB⟩ := fst_app hT
    obtain ⟨i, B2, rfl, hB2⟩ := fst_cons hB
    rw [tks_app, tks_cons, List.append_assoc, List.cons_append] at hc ⊢
    rw [go h hA hc (by show kdW [47, 47] ∈ foS; decide), kdL_tk, if_pos (by show (kdW [47, 47] == [47, 47]) = true; decide)]
    rw [ih B2 u l f (acc ++ [s] ++ [dAny]) hB2 (CC.tail (CC.drop hc)) hu (by simp at hf; omega), List.append_assoc, List.append_assoc]
    rfl
theorem sts_rd (hE : InnOk z ex inn) {ss : List PyData} {R : List Wd} (h : SsRow inn ss R) (start : PyData) (acc : List PyData) : Rds z (stsN ex z start acc) (fun u => kdL u ∈ stN) R (dPath start (acc ++ ss)) := by
  intro T u l hT hc hu
  show (stepsN ex z ((tks T ++ u :: l).length + 1) acc (tks T ++ u :: l)).map _ = _
  rw [steps_rd hE h T u l _ acc hT hc hu (by unfold tks; simp; omega)]
  rfl
end
end PX
/-! PXGc -/
namespace PX
open PySem PySem.Spec PyProof.Rows L2 TL
/-- as many arguments as a function takes -/
def argsOk (x : Int × Option Int) (n : Nat) : Bool := decide (x.1 ≤ n) && (match x.2 with | none => true | some m => decide ((n : Int) ≤ m))
inductive ArgsRow (inn : Inn) : List PyData → List Wd → Prop
  | nil : ArgsRow inn [] []
  | one {d : PyData} {R : List Wd} (h : inn d R) : ArgsRow inn [d] R
  | cons {d : PyData} {R : List Wd} {ds : List PyData} {Rs : List Wd} (h : inn d R) (hs : ArgsRow inn ds Rs) (hn : ds ≠ []) : ArgsRow inn (d :: ds) (R ++ [44] :: Rs)
inductive PRow (inn : Inn) : PyData → List Wd → Prop
  | num {w : Wd} (h : wK w = .num) : PRow inn (.tuple [dT "number", dW (shortN w)]) [w]
  | txt {w : Wd} (h : wK w = .txt) : PRow inn (.tuple [dT "text", dW (inText w)]) [w]
  | var {w : Wd} (h : wK w = .nam) : PRow inn (.tuple [dT "var", dW w]) [[36], w]
  | call {w : Wd} {x : Int × Option Int} {ds : List PyData} {R : List Wd} (h : wK w = .nam) (hx : fnLook w = some x) (hn : argsOk x ds.length = true) (ha : ArgsRow inn ds R) : PRow inn (.tuple [dT "call", dW w, .tuple ds]) (w :: [40] :: (R ++ [[41]]))
  | brk {d : PyData} {R : List Wd} (h : inn d R) : PRow inn d ([40] :: (R ++ [[41]]))
inductive HRow (inn : Inn) : PyData → List Wd → Prop
  | prim {d : PyData} {R : List Wd} (h : PRow inn d R) : HRow inn d R
  | filt {d : PyData} {R : List Wd} {p : PyData} {ps : List PyData} {Rp : List Wd} (h : PRow inn d R) (hp : PredsRow inn (p :: ps) Rp) : HRow inn (.tuple [dT "filter", d, .tuple (p :: ps)]) (R ++ Rp)
inductive OpRow (inn : Inn) : PyData → List Wd → Prop
  | head {d : PyData} {R : List Wd} (h : HRow inn d R) : OpRow inn d R
  | path {d : PyData} {R : List Wd} {ss : List PyData} {Rs : List Wd} (h : HRow inn d R) (hs : SsRow inn ss Rs) : OpRow inn (dPath d ss) (R ++ [47] :: Rs)
  | path2 {d : PyData} {R : List Wd} {ss : List PyData} {Rs : List Wd} (h : HRow inn d R) (hs : SsRow inn ss Rs) : OpRow inn (dPath d (dAny :: ss)) (R ++ [47, 47] :: Rs)
  | rel {ss : List PyData} {Rs : List Wd} (hs : SsRow inn ss Rs) : OpRow inn (dPath .none ss) Rs
  | root : OpRow inn (dPath (dT "root") []) [[47]]
  | rooted {ss : List PyData} {Rs : List Wd} (hs : SsRow inn ss Rs) : OpRow inn (dPath (dT "root") ss) ([47] :: Rs)
  | rooted2 {ss : List PyData} {Rs : List Wd} (hs : SsRow inn ss Rs) : OpRow inn (dPath (dT "root") (dAny :: ss)) ([47, 47] :: Rs)
/-- does what stands behind suit a row that may end with / -/
def begW (w : Wd) : Bool := begN (tk (w, 0))
def folX (R : List Wd) (u : Tk) : Prop := stp u = true ∧ (R.getLast? = some [47] → begN u = false)
section
variable {z : Str} {ex : List Tk → Rz} {inn : Inn}
theorem mem_fo {w : Wd} (L : List Wd) (h : w ∈ L) : w ∈ L := h
/-! ### arguments -/
theorem more_at {x : Int × Option Int} {n m : Nat} (h : argsOk x m = true) (hn : n < m) (t : Tk) (ht : kdL t = [44]) : moreN x n t = true := by
  unfold argsOk at h
  unfold moreN
  rw [Bool.and_eq_true, decide_eq_true_eq] at h
  rw [ht]
  by_cases h1 : (n : Int) < x.1
  · rw [decide_eq_true h1, Bool.true_or]
  · rw [Bool.or_eq_true]
    right
    rw [show ([44] == [44] : Bool) = true from by decide, Bool.true_and]
    cases q : x.2 with
    | none => rfl
    | some m2 =>
      have h2 := h.2
      rw [q] at h2
      have := of_decide_eq_true h2
      exact decide_eq_true (by omega)
theorem more_no {x : Int × Option Int} {m : Nat} (h : argsOk x m = true) (t : Tk) (ht : kdL t = [41]) : moreN x m t = false := by
  unfold argsOk at h
  unfold moreN
  rw [Bool.and_eq_true, decide_eq_true_eq] at h
  rw [ht, decide_eq_false (by omega), Bool.false_or, show ([41] == [44] : Bool) = false from by decide, Bool.false_and]
theorem args_len (hE : InnOk z ex inn) {ds : List PyData} {R : List Wd} (h : ArgsRow inn ds R) : ds.length ≤ R.length := by
  induction h with
  | nil => exact Nat.le_refl _
  | one h =>
    obtain ⟨w, R2, rfl, _⟩ := hE.hd _ _ h
    simp
  | cons h hs hn ih =>
    simp
    omega
theorem args_rd (hE : InnOk z ex inn) {x : Int × Option Int} {ds : List PyData} {R : List Wd} (h : ArgsRow inn ds R) : ds ≠ [] → ∀ (T : List (Wd × Nat)) (u : Tk) (l : List Tk), T.map Prod.fst = R → CC z (tks T ++ u :: l) → kdL u = [41] →
    ∃ v m, ex (tks T ++ u :: l) = some (v, m) ∧ ds.length ≤ m.length ∧ ∀ (f : Nat) (acc : List PyData), argsOk x (acc.length + ds.length) = true → ds.length ≤ f → argN ex x f (acc ++ [v]) m = some (acc ++ ds, l) := by
  induction h with
  | nil => exact fun h => absurd rfl h
  | one h =>
    rename_i d R
    intro _ T u l hT hc hu
    refine ⟨d, u :: l, hE.rd d R h T u l hT hc (by show kdL u ∈ clo; rw [hu]; decide), by simp, fun f acc hx hf => ?_⟩
    obtain ⟨f, rfl⟩ : ∃ g, f = g + 1 := ⟨f - 1, by simp at hf; omega⟩
    unfold argN
    rw [more_no (x := x) (by rw [List.length_append]; exact hx) u hu, if_neg Bool.false_ne_true, exN_ok hu]
    rfl
  | cons h hs hn ih =>
    rename_i d R ds Rs
    intro _ T u l hT hc hu
    obtain ⟨A, B, rfl, hA, hB⟩ := fst_app hT
    obtain ⟨i, B2, rfl, hB2⟩ := fst_cons hB
    rw [tks_app, tks_cons, List.append_assoc, List.cons_append] at hc ⊢
    have e1 := hE.rd d R h A (tk ([44], i)) (tks B2 ++ u :: l) hA hc (by show kdW [44] ∈ clo; decide)
    obtain ⟨v, m, e2, _, e3⟩ := ih hn B2 u l hB2 (CC.tail (CC.drop hc)) hu
    refine ⟨d, _, e1, ?_, fun f acc hx hf => ?_⟩
    · have h1 := args_len hE hs
      rw [← hB2, List.length_map] at h1
      unfold tks
      simp
      omega
    obtain ⟨f, rfl⟩ : ∃ g, f = g + 1 := ⟨f - 1, by simp at hf; omega⟩
    have e4 := e3 f (acc ++ [d]) (by
      rw [show (acc ++ [d]).length + ds.length = acc.length + (d :: ds).length by simp; omega]
      exact hx) (by simp at hf; omega)
    have h44 : kdL (tk ([44], i)) = [44] := by show kdW [44] = [44]; decide
    have hm : moreN x (acc ++ [d]).length (tk ([44], i)) = true := more_at hx (by
      have : 0 < ds.length := List.length_pos_iff.mpr hn
      simp
      omega) _ h44
    unfold argN
    rw [hm, if_pos rfl, h44, if_pos (by decide), e2]
    dsimp only
    rw [e4, List.append_assoc]
    rfl
theorem args_hd (hE : InnOk z ex inn) {ds : List PyData} {R : List Wd} (h : ArgsRow inn ds R) (hn : ds ≠ []) : HdOk R := by
  cases h with
  | nil => exact absurd rfl hn
  | one h => exact hE.hd _ _ h
  | cons h hs _ =>
    obtain ⟨w, R2, rfl, hw⟩ := hE.hd _ _ h
    exact ⟨w, _, rfl, hw⟩
theorem call_rd (hE : InnOk z ex inn) {w : Wd} {x : Int × Option Int} {ds : List PyData} {R : List Wd} (h : wK w = .nam) (hx : fnLook w = some x) (hn : argsOk x ds.length = true) (ha : ArgsRow inn ds R) : ∀ T (u : Tk) l, T.map Prod.fst = w :: [40] :: (R ++ [[41]]) → CC z (tks T ++ u :: l) → callN ex (tks T ++ u :: l) = some (.tuple [dT "call", dW w, .tuple ds], u :: l) := by
  intro T u l hT hc
  obtain ⟨i, S, rfl, hS⟩ := fst_cons hT
  obtain ⟨i2, S2, rfl, hS2⟩ := fst_cons hS
  obtain ⟨A, B, rfl, hA, hB⟩ := fst_app hS2
  obtain ⟨i3, B2, rfl, hB2⟩ := fst_cons hB
  obtain rfl := fst_nil hB2
  rw [tks_cons, tks_cons, tks_app, tks_cons, List.cons_append, List.cons_append, List.append_assoc] at hc ⊢
  have h41 : kdL (tk ([41], i3)) = [41] := by show kdW [41] = [41]; decide
  have hc2 := CC.tail (CC.tail hc)
  have hx2 : fnLook (tk (w, i)).2.1 = some x := hx
  cases hds : ds with
  | nil =>
    subst hds
    cases ha with
    | nil =>
      obtain rfl := fst_nil hA
      show callN ex (tk (w, i) :: tk ([40], i2) :: tk ([41], i3) :: u :: l) = _
      unfold callN
      dsimp only
      rw [hx2]
      dsimp only
      have hz : x.1 = 0 ∨ x.1 < 0 := by
        unfold argsOk at hn
        rw [Bool.and_eq_true, decide_eq_true_eq] at hn
        have := hn.1
        simp at this
        omega
      have hc0 : (decide (x.2 = some 0) || (decide (x.1 = 0) && kdL (tk ([41], i3)) == [41])) = true := by
        rw [h41]
        have hall : funKvs.all (fun q => decide (0 ≤ q.2.1)) = true := by decide +kernel
        have hge : 0 ≤ x.1 := by
          unfold fnLook at hx
          cases q : funKvs.find? (fun q => tl q.1 == w) with
          | none => rw [q] at hx; cases hx
          | some y =>
            rw [q] at hx
            have := of_decide_eq_true (List.all_eq_true.mp hall y (List.mem_of_find?_eq_some q))
            have hx : y.2 = x := Option.some.inj hx
            rw [← hx]
            exact this
        rw [decide_eq_true (show x.1 = 0 by omega)]
        simp
      rw [hc0, if_pos rfl, exN_ok h41]
      rfl
  | cons d ds2 =>
    subst hds
    obtain ⟨v, m, e2, hm, e3⟩ := args_rd hE (x := x) ha (by simp) A (tk ([41], i3)) (u :: l) hA hc2 h41
    obtain ⟨w1, R2, rfl, hw1⟩ := args_hd hE ha (by simp)
    obtain ⟨i4, A2, rfl, hA2⟩ := fst_cons hA
    have hne : (kdL (tk (w1, i4)) == [41]) = false := factF (p := fun x => x == [41]) (by decide) hw1
    have hx0 : decide (x.2 = some 0) = false := by
      refine decide_eq_false fun q => ?_
      unfold argsOk at hn
      rw [Bool.and_eq_true, q] at hn
      have := of_decide_eq_true hn.2
      simp at this
      omega
    rw [tks_cons, List.cons_append] at e2 ⊢
    unfold callN
    dsimp only
    rw [hx2]
    dsimp only
    rw [hx0, hne, Bool.and_false, Bool.or_self, if_neg Bool.false_ne_true]
    have e2' : ex (tk (w1, i4) :: (tks A2 ++ (tk ([41], i3) :: tks [] ++ u :: l))) = some (v, m) := e2
    rw [e2']
    dsimp only
    have e5 := e3 (m.length + 1) [] (by simpa using hn) (by omega)
    rw [List.nil_append] at e5
    rw [e5]
    rfl
end
end PX
/-! PXGd -/
namespace PX
open PySem PySem.Spec PyProof.Rows L2 TL
section
variable {z : Str} {ex : List Tk → Rz} {inn : Inn}
theorem beh2_rd (tree : PyData) {u : Tk} {l : List Tk} (hu : kdL u ∈ stN) : behN2 ex z tree (u :: l) = some (tree, u :: l) := by
  unfold behN2
  dsimp only
  rw [factF (p := fun x => x == [47]) (by decide) hu, factF (p := fun x => x == [47, 47]) (by decide) hu, Bool.or_self, if_neg Bool.false_ne_true]
theorem beh0_rd (tree : PyData) {u : Tk} {l : List Tk} (hu : kdL u ∈ stN) : behN ex z tree (u :: l) = some (tree, u :: l) := by
  unfold behN
  dsimp only
  rw [factF (p := fun x => x == [91]) (by decide) hu, if_neg Bool.false_ne_true]
  exact beh2_rd tree hu
/-- steps behind a head -/
theorem behS_rd (hE : InnOk z ex inn) (tree : PyData) {ss : List PyData} {Rs : List Wd} (hs : SsRow inn ss Rs) {T : List (Wd × Nat)} {u : Tk} {l : List Tk} (i : Nat) (hT : T.map Prod.fst = Rs) (hc : CC z (tks T ++ u :: l)) (hu : kdL u ∈ stN) :
    behN2 ex z tree (tk ([47], i) :: (tks T ++ u :: l)) = some (dPath tree ss, u :: l) ∧ behN2 ex z tree (tk ([47, 47], i) :: (tks T ++ u :: l)) = some (dPath tree (dAny :: ss), u :: l) := by
  constructor
  · unfold behN2
    dsimp only
    rw [if_pos (by show (kdW [47] == [47] || kdW [47] == [47, 47]) = true; decide)]
    exact sts_rd hE hs tree [] T u l hT hc hu
  · unfold behN2
    dsimp only
    rw [if_pos (by show (kdW [47, 47] == [47] || kdW [47, 47] == [47, 47]) = true; decide)]
    exact sts_rd hE hs tree [dAny] T u l hT hc hu
/-- what may stand behind a primary: predicates, then steps -/
inductive Tail (inn : Inn) (d : PyData) : PyData → List Wd → Prop
  | none : Tail inn d d []
  | filt {p : PyData} {ps : List PyData} {Rp : List Wd} (hp : PredsRow inn (p :: ps) Rp) : Tail inn d (.tuple [dT "filter", d, .tuple (p :: ps)]) Rp
  | sl {ss : List PyData} {Rs : List Wd} (hs : SsRow inn ss Rs) : Tail inn d (dPath d ss) ([47] :: Rs)
  | sl2 {ss : List PyData} {Rs : List Wd} (hs : SsRow inn ss Rs) : Tail inn d (dPath d (dAny :: ss)) ([47, 47] :: Rs)
  | fsl {p : PyData} {ps : List PyData} {Rp : List Wd} {ss : List PyData} {Rs : List Wd} (hp : PredsRow inn (p :: ps) Rp) (hs : SsRow inn ss Rs) : Tail inn d (dPath (.tuple [dT "filter", d, .tuple (p :: ps)]) ss) (Rp ++ [47] :: Rs)
  | fsl2 {p : PyData} {ps : List PyData} {Rp : List Wd} {ss : List PyData} {Rs : List Wd} (hp : PredsRow inn (p :: ps) Rp) (hs : SsRow inn ss Rs) : Tail inn d (dPath (.tuple [dT "filter", d, .tuple (p :: ps)]) (dAny :: ss)) (Rp ++ [47, 47] :: Rs)
theorem tail_fo {d t : PyData} {R : List Wd} (h : Tail inn d t R) {T : List (Wd × Nat)} {u : Tk} {l : List Tk} (hT : T.map Prod.fst = R) (hu : kdL u ∈ stN) : ∃ v m, tks T ++ u :: l = v :: m ∧ kdL v ∈ foP := by
  have pr : ∀ {p : PyData} {ps : List PyData} {Rp X : List Wd}, PredsRow inn (p :: ps) Rp → T.map Prod.fst = Rp ++ X → ∃ v m, tks T ++ u :: l = v :: m ∧ kdL v ∈ foP := by
    intro p ps Rp X hp hT
    cases hp with
    | cons h hp =>
      obtain ⟨i, S, rfl, _⟩ := fst_cons hT
      exact ⟨tk ([91], i), tks S ++ u :: l, rfl, by show kdW [91] ∈ foP; decide⟩
  cases h with
  | none =>
    obtain rfl := fst_nil hT
    exact ⟨u, l, rfl, st_P hu⟩
  | filt hp => exact pr (X := []) hp (by rw [List.append_nil]; exact hT)
  | sl hs =>
    obtain ⟨i, S, rfl, _⟩ := fst_cons hT
    exact ⟨tk ([47], i), tks S ++ u :: l, rfl, by show kdW [47] ∈ foP; decide⟩
  | sl2 hs =>
    obtain ⟨i, S, rfl, _⟩ := fst_cons hT
    exact ⟨tk ([47, 47], i), tks S ++ u :: l, rfl, by show kdW [47, 47] ∈ foP; decide⟩
  | fsl hp hs => exact pr hp hT
  | fsl2 hp hs => exact pr hp hT
theorem tail_rd (hE : InnOk z ex inn) {d t : PyData} {R : List Wd} (h : Tail inn d t R) : Rds z (behN ex z d) (fun u => kdL u ∈ stN) R t := by
  intro T u l hT hc hu
  have pr : ∀ {p : PyData} {ps : List PyData} {Rp : List Wd} {A : List (Wd × Nat)} {v : Tk} {m : List Tk}, PredsRow inn (p :: ps) Rp → A.map Prod.fst = Rp → CC z (tks A ++ v :: m) → kdL v ≠ [91] → behN ex z d (tks A ++ v :: m) = behN2 ex z (.tuple [dT "filter", d, .tuple (p :: ps)]) (v :: m) := by
    intro p ps Rp A v m hp hA hc hv
    have e := predsN_rd hE hp A v m hA hc hv
    cases hp with
    | cons h hp =>
      obtain ⟨i, S, rfl, _⟩ := fst_cons hA
      have h91 : (kdL (tk ([91], i)) == [91]) = true := by show (kdW [91] == [91]) = true; decide
      have e' : predsN ex (tk ([91], i) :: (tks S ++ v :: m)) = some (p :: ps, v :: m) := e
      unfold predsN at e'
      dsimp only at e'
      rw [if_pos h91] at e'
      show behN ex z d (tk ([91], i) :: (tks S ++ v :: m)) = _
      unfold behN
      dsimp only
      rw [if_pos h91, e']
  cases h with
  | none =>
    obtain rfl := fst_nil hT
    exact beh0_rd d hu
  | filt hp =>
    rw [pr hp hT hc (fun q => by rw [q] at hu; exact absurd hu (by decide))]
    exact beh2_rd _ hu
  | sl hs =>
    obtain ⟨i, S, rfl, hS⟩ := fst_cons hT
    have := (behS_rd hE d hs i hS (CC.tail hc) hu).1
    rw [tks_cons, List.cons_append]
    unfold behN
    dsimp only
    rw [if_neg (by show ¬ (kdW [47] == [91]) = true; decide)]
    exact this
  | sl2 hs =>
    obtain ⟨i, S, rfl, hS⟩ := fst_cons hT
    have := (behS_rd hE d hs i hS (CC.tail hc) hu).2
    rw [tks_cons, List.cons_append]
    unfold behN
    dsimp only
    rw [if_neg (by show ¬ (kdW [47, 47] == [91]) = true; decide)]
    exact this
  | fsl hp hs =>
    obtain ⟨A, B, rfl, hA, hB⟩ := fst_app hT
    obtain ⟨i, S, rfl, hS⟩ := fst_cons hB
    rw [tks_app, tks_cons, List.append_assoc, List.cons_append] at hc ⊢
    rw [pr hp hA hc (by show kdW [47] ≠ [91]; decide)]
    exact (behS_rd hE _ hs i hS (CC.tail (CC.drop hc)) hu).1
  | fsl2 hp hs =>
    obtain ⟨A, B, rfl, hA, hB⟩ := fst_app hT
    obtain ⟨i, S, rfl, hS⟩ := fst_cons hB
    rw [tks_app, tks_cons, List.append_assoc, List.cons_append] at hc ⊢
    rw [pr hp hA hc (by show kdW [47, 47] ≠ [91]; decide)]
    exact (behS_rd hE _ hs i hS (CC.tail (CC.drop hc)) hu).2
theorem head_tail {d t : PyData} {R Rs : List Wd} (h : HRow inn d R) : ∃ d0 R0 Rp, PRow inn d0 R0 ∧ R = R0 ++ Rp ∧ Tail inn d0 d Rp ∧ (∀ ss Rs, SsRow inn ss Rs → Tail inn d0 (dPath d ss) (Rp ++ [47] :: Rs) ∧ Tail inn d0 (dPath d (dAny :: ss)) (Rp ++ [47, 47] :: Rs)) := by
  cases h with
  | prim h => exact ⟨d, R, [], h, (List.append_nil _).symm, .none, fun ss Rs hs => ⟨.sl hs, .sl2 hs⟩⟩
  | filt h hp => exact ⟨_, _, _, h, rfl, .filt hp, fun ss Rs hs => ⟨.fsl hp hs, .fsl2 hp hs⟩⟩
/-- a primary and what stands behind it -/
theorem prim_rd (hE : InnOk z ex inn) {d t : PyData} {R Rt : List Wd} (h : PRow inn d R) (ht : Tail inn d t Rt) : Rds z (opnN ex z) (fun u => kdL u ∈ stN) (R ++ Rt) t := by
  intro T u l hT hc hu
  obtain ⟨A, B, rfl, hA, hB⟩ := fst_app hT
  rw [tks_app, List.append_assoc] at hc ⊢
  have hb := tail_rd hE ht B u l hB (CC.drop hc) hu
  obtain ⟨v, m, ev, hv⟩ := tail_fo ht (l := l) hB hu
  rw [ev] at hb hc ⊢
  cases h with
  | num h =>
    rename_i w
    obtain ⟨i, S, rfl, hS⟩ := fst_cons hA
    obtain rfl := fst_nil hS
    have hk : kdL (tk (w, i)) = cNum := kdW_num h
    show opnN ex z (tk (w, i) :: v :: m) = _
    have hl : litN (tk (w, i) :: v :: m) = some (.tuple [dT "number", dW (shortN w)], v :: m) := by
      show (match wK w with | .num => _ | .txt => _ | _ => none) = _
      rw [h]
      rfl
    unfold opnN
    dsimp only
    rw [hk, if_neg (by decide), if_pos (by decide), hl]
    exact hb
  | txt h =>
    rename_i w
    obtain ⟨i, S, rfl, hS⟩ := fst_cons hA
    obtain rfl := fst_nil hS
    have hk : kdL (tk (w, i)) = cTxt := kdW_txt h
    show opnN ex z (tk (w, i) :: v :: m) = _
    have hl : litN (tk (w, i) :: v :: m) = some (.tuple [dT "text", dW (inText w)], v :: m) := by
      show (match wK w with | .num => _ | .txt => _ | _ => none) = _
      rw [h]
      rfl
    unfold opnN
    dsimp only
    rw [hk, if_neg (by decide), if_pos (by decide), hl]
    exact hb
  | var h =>
    rename_i w
    obtain ⟨i, S, rfl, hS⟩ := fst_cons hA
    obtain ⟨i2, S2, rfl, hS2⟩ := fst_cons hS
    obtain rfl := fst_nil hS2
    have hc' : CC z (tk ([36], i) :: tk (w, i2) :: v :: m) := hc
    have hcc : kdL v ≠ [58, 58] := fun q => by rw [q] at hv; exact absurd hv (by decide)
    have hl : varN z (tk ([36], i) :: tk (w, i2) :: v :: m) = some (.tuple [dT "var", dW w], v :: m) := by
      unfold varN
      dsimp only
      rw [if_pos ⟨h, hc'.2.1 rfl, CC.cc hc'.2.2 h hcc⟩]
      rfl
    show opnN ex z (tk ([36], i) :: tk (w, i2) :: v :: m) = _
    unfold opnN
    dsimp only
    rw [show kdL (tk ([36], i)) = [36] from by show kdW [36] = [36]; decide, if_neg (by decide), if_neg (by decide), if_neg (by decide), if_neg (by decide), if_pos (by decide), hl]
    exact hb
  | call h hx hn ha =>
    rename_i w x ds R
    have hl := call_rd hE h hx hn ha A v m hA hc
    obtain ⟨i, S, rfl, hS⟩ := fst_cons hA
    obtain ⟨i2, S2, rfl, hS2⟩ := fst_cons hS
    have hl' : callN ex (tk (w, i) :: tk ([40], i2) :: (tks S2 ++ v :: m)) = some (.tuple [dT "call", dW w, .tuple ds], v :: m) := hl
    have hk : kdL (tk (w, i)) = cNam := kdW_nam h
    have h40 : kdL (tk ([40], i2)) = [40] := by show kdW [40] = [40]; decide
    have hx2 : (fnLook (tk (w, i)).2.1).isSome = true := by show (fnLook w).isSome = true; rw [hx]; rfl
    show opnN ex z (tk (w, i) :: tk ([40], i2) :: (tks S2 ++ v :: m)) = _
    unfold opnN
    dsimp only
    rw [hk, if_pos (by decide), h40, if_neg (by decide), if_pos (by rw [hx2]; decide), hl']
    exact hb
  | brk h =>
    rename_i R
    obtain ⟨i, S, rfl, hS⟩ := fst_cons hA
    obtain ⟨A2, B2, rfl, hA2, hB2⟩ := fst_app hS
    obtain ⟨i3, S3, rfl, hS3⟩ := fst_cons hB2
    obtain rfl := fst_nil hS3
    rw [tks_cons, tks_app, List.cons_append, List.append_assoc] at hc ⊢
    have e1 := hE.rd d R h A2 (tk ([41], i3)) (v :: m) hA2 (CC.tail hc) (by show kdW [41] ∈ clo; decide)
    have e1' : ex (tks A2 ++ (tks [([41], i3)] ++ v :: m)) = some (d, tk ([41], i3) :: v :: m) := e1
    unfold opnN
    dsimp only
    rw [show kdL (tk ([40], i)) = [40] from by show kdW [40] = [40]; decide, if_neg (by decide), if_neg (by decide), if_neg (by decide), if_pos (by decide), e1']
    dsimp only
    rw [exN_ok (by show kdW [41] = [41]; decide)]
    exact hb
/-- how a step begins -/
theorem step_hd {s : PyData} {R : List Wd} (h : StepRow inn s R) : (∃ nm, wK nm = .nam ∧ R = [nm] ∧ s = .tuple [dT "child", .tuple [dT "name", dW nm], .tuple []]) ∨
    (∃ nm w2 R2, wK nm = .nam ∧ R = nm :: w2 :: R2 ∧ (w2 = [58, 58] ∨ w2 = [91] ∨ (w2 = [40] ∧ fnLook nm = none))) ∨ (∃ w R2, R = w :: R2 ∧ w ∈ ([[46], [46, 46], [64], [42]] : List Wd)) := by
  cases h with
  | dot => exact .inr (.inr ⟨_, _, rfl, by decide⟩)
  | dots => exact .inr (.inr ⟨_, _, rfl, by decide⟩)
  | full hk ha ht hp => exact .inr (.inl ⟨_, _, _, hk, rfl, .inl rfl⟩)
  | att ht hp => exact .inr (.inr ⟨_, _, rfl, by decide⟩)
  | chi ht hp =>
    rcases test_hd ht with ⟨nm, hn, rfl, rfl⟩ | rfl | ⟨w, R, hw, rfl, _, hx⟩
    · cases hp with
      | nil => exact .inl ⟨nm, hn, rfl, rfl⟩
      | cons h hp => exact .inr (.inl ⟨nm, _, _, hn, rfl, .inr (.inl rfl)⟩)
    · exact .inr (.inr ⟨_, _, rfl, by decide⟩)
    · exact .inr (.inl ⟨w, _, _, hw, rfl, .inr (.inr ⟨rfl, hx⟩)⟩)
theorem ss_hd {ss : List PyData} {R : List Wd} (h : SsRow inn ss R) : ∃ s R1 X, StepRow inn s R1 ∧ R = R1 ++ X ∧ ((X = [] ∧ ss = [s]) ∨ ∃ w Y, X = w :: Y ∧ (w = [47] ∨ w = [47, 47])) := by
  cases h with
  | one h => exact ⟨_, _, [], h, (List.append_nil _).symm, .inl ⟨rfl, rfl⟩⟩
  | sl h hs => exact ⟨_, _, _, h, rfl, .inr ⟨_, _, rfl, .inl rfl⟩⟩
  | sl2 h hs => exact ⟨_, _, _, h, rfl, .inr ⟨_, _, rfl, .inr rfl⟩⟩
/-- a path from the context node -/
theorem rel_rd (hE : InnOk z ex inn) {ss : List PyData} {R : List Wd} (h : SsRow inn ss R) : Rds z (opnN ex z) (fun u => kdL u ∈ stN) R (dPath .none ss) := by
  intro T u l hT hc hu
  have es := sts_rd hE h .none [] T u l hT hc hu
  rw [List.nil_append] at es
  obtain ⟨s, R1, X, h1, rfl, hX⟩ := ss_hd h
  have nameCase : ∀ {nm : Wd} {i : Nat} {v : Tk} {m : List Tk}, wK nm = .nam → is1 (kdL v) behLong = true → (kdL v = [40] → fnLook nm = none) → opnN ex z (tk (nm, i) :: v :: m) = stsN ex z .none [] (tk (nm, i) :: v :: m) := by
    intro nm i v m hn hv hx
    have hk : kdL (tk (nm, i)) = cNam := kdW_nam hn
    unfold opnN
    dsimp only
    rw [hk, if_pos (by decide), hv]
    rw [if_neg (by decide)]
    have : (kdL v == [40] && (fnLook (tk (nm, i)).2.1).isSome) = false := by
      cases c : kdL v == [40] with
      | false => rfl
      | true =>
        have h2 : fnLook (tk (nm, i)).2.1 = none := hx (eq_of_beq c)
        rw [h2]
        rfl
    rw [this, if_neg Bool.false_ne_true]
  rcases step_hd h1 with ⟨nm, hn, rfl, rfl⟩ | ⟨nm, w2, R2, hn, rfl, hw⟩ | ⟨w, R2, rfl, hw⟩
  · rcases hX with ⟨rfl, rfl⟩ | ⟨w, Y, rfl, hw⟩
    · obtain ⟨i, S, rfl, hS⟩ := fst_cons hT
      obtain rfl := fst_nil hS
      have hk : kdL (tk (nm, i)) = cNam := kdW_nam hn
      show opnN ex z (tk (nm, i) :: u :: l) = _
      unfold opnN
      dsimp only
      rw [hk, if_pos (by decide), factF (p := fun x => is1 x behLong) (by decide) hu, if_pos (by decide)]
      rfl
    · obtain ⟨i, S, rfl, hS⟩ := fst_cons hT
      obtain ⟨i2, S2, rfl, hS2⟩ := fst_cons hS
      rw [tks_cons, tks_cons, List.cons_append, List.cons_append] at es ⊢
      rw [nameCase hn ?_ ?_]
      · exact es
      · rcases hw with rfl | rfl
        · show is1 (kdW [47]) behLong = true; decide
        · show is1 (kdW [47, 47]) behLong = true; decide
      · intro q
        rcases hw with rfl | rfl
        · exact absurd (show kdW [47] = [40] from q) (by decide)
        · exact absurd (show kdW [47, 47] = [40] from q) (by decide)
  · obtain ⟨i, S, rfl, hS⟩ := fst_cons hT
    obtain ⟨i2, S2, rfl, hS2⟩ := fst_cons hS
    rw [tks_cons, tks_cons, List.cons_append, List.cons_append] at es ⊢
    rw [nameCase hn ?_ ?_]
    · exact es
    · rcases hw with rfl | rfl | ⟨rfl, _⟩
      · show is1 (kdW [58, 58]) behLong = true; decide
      · show is1 (kdW [91]) behLong = true; decide
      · show is1 (kdW [40]) behLong = true; decide
    · intro q
      rcases hw with rfl | rfl | ⟨rfl, hx⟩
      · exact absurd (show kdW [58, 58] = [40] from q) (by decide)
      · exact absurd (show kdW [91] = [40] from q) (by decide)
      · exact hx
  · obtain ⟨i, S, rfl, hS⟩ := fst_cons hT
    have hk : kdL (tk (w, i)) = w := by
      simp only [List.mem_cons, List.not_mem_nil, or_false] at hw
      rcases hw with rfl | rfl | rfl | rfl
      · show kdW [46] = _; decide
      · show kdW [46, 46] = _; decide
      · show kdW [64] = _; decide
      · show kdW [42] = _; decide
    rw [tks_cons, List.cons_append] at es ⊢
    unfold opnN
    dsimp only
    rw [hk]
    simp only [List.mem_cons, List.not_mem_nil, or_false] at hw
    rcases hw with rfl | rfl | rfl | rfl
    all_goals
      rw [if_neg (by decide), if_neg (by decide), if_neg (by decide), if_neg (by decide), if_neg (by decide)]
      exact es
/-- the first sign of steps begins a step -/
theorem ss_beg {ss : List PyData} {R : List Wd} (h : SsRow inn ss R) : ∃ w Y, R = w :: Y ∧ (∀ i, begN (tk (w, i)) = true) := by
  obtain ⟨s, R1, X, h1, rfl, _⟩ := ss_hd h
  have nmb : ∀ {nm : Wd}, wK nm = .nam → ∀ i, begN (tk (nm, i)) = true := by
    intro nm hn i
    have hk : kdL (tk (nm, i)) = cNam := kdW_nam hn
    unfold begN
    rw [hk, if_neg (by decide)]
    decide
  rcases step_hd h1 with ⟨nm, hn, rfl, _⟩ | ⟨nm, w2, R2, hn, rfl, _⟩ | ⟨w, R2, rfl, hw⟩
  · exact ⟨nm, _, rfl, nmb hn⟩
  · exact ⟨nm, _, rfl, nmb hn⟩
  · refine ⟨w, _, rfl, fun i => ?_⟩
    simp only [List.mem_cons, List.not_mem_nil, or_false] at hw
    rcases hw with rfl | rfl | rfl | rfl
    · show begN (tk ([46], 0)) = true; decide
    · show begN (tk ([46, 46], 0)) = true; decide
    · show begN (tk ([64], 0)) = true; decide
    · show begN (tk ([42], 0)) = true; decide
theorem op_rd (hE : InnOk z ex inn) {d : PyData} {R : List Wd} (h : OpRow inn d R) : Rds z (opnN ex z) (fun u => folX R u) R d := by
  intro T u l hT hc hf
  have hu := stp_mem hf.1
  have rt : ∀ {w : Wd} {i : Nat} {m : List Tk}, w = [47] ∨ w = [47, 47] → opnN ex z (tk (w, i) :: m) = rootN ex z (tk (w, i) :: m) := by
    intro w i m hw
    unfold opnN
    dsimp only
    rcases hw with rfl | rfl
    · rw [show kdL (tk ([47], i)) = [47] from by show kdW [47] = [47]; decide, if_neg (by decide), if_neg (by decide), if_pos (by decide)]
    · rw [show kdL (tk ([47, 47], i)) = [47, 47] from by show kdW [47, 47] = [47, 47]; decide, if_neg (by decide), if_neg (by decide), if_pos (by decide)]
  cases h with
  | head h =>
    obtain ⟨d0, R0, Rp, h0, rfl, ht, _⟩ := head_tail (t := d) (Rs := []) h
    exact prim_rd hE h0 ht T u l hT hc hu
  | path h hs =>
    rename_i d R ss Rs
    obtain ⟨d0, R0, Rp, h0, rfl, _, ht⟩ := head_tail (t := d) (Rs := []) h
    rw [List.append_assoc] at hT
    exact prim_rd hE h0 (ht _ _ hs).1 T u l hT hc hu
  | path2 h hs =>
    rename_i d R ss Rs
    obtain ⟨d0, R0, Rp, h0, rfl, _, ht⟩ := head_tail (t := d) (Rs := []) h
    rw [List.append_assoc] at hT
    exact prim_rd hE h0 (ht _ _ hs).2 T u l hT hc hu
  | rel hs => exact rel_rd hE hs T u l hT hc hu
  | root =>
    obtain ⟨i, S, rfl, hS⟩ := fst_cons hT
    obtain rfl := fst_nil hS
    show opnN ex z (tk ([47], i) :: u :: l) = _
    rw [rt (.inl rfl)]
    unfold rootN
    dsimp only
    rw [hf.2 rfl, Bool.or_false, if_neg (by show ¬ (([47] : Wd) == [47, 47]) = true; decide)]
  | rooted hs =>
    rename_i ss Rs
    obtain ⟨i, S, rfl, hS⟩ := fst_cons hT
    have es := sts_rd hE hs (dT "root") [] S u l hS (CC.tail hc) hu
    rw [List.nil_append] at es
    obtain ⟨w, Y, rfl, hb⟩ := ss_beg hs
    obtain ⟨i2, S2, rfl, hS2⟩ := fst_cons hS
    rw [tks_cons, tks_cons, List.cons_append, List.cons_append] at *
    rw [rt (.inl rfl)]
    unfold rootN
    dsimp only
    rw [hb, Bool.or_true, if_pos rfl]
    exact es
  | rooted2 hs =>
    rename_i ss Rs
    obtain ⟨i, S, rfl, hS⟩ := fst_cons hT
    have es := sts_rd hE hs (dT "root") [dAny] S u l hS (CC.tail hc) hu
    obtain ⟨w, Y, rfl, hb⟩ := ss_beg hs
    obtain ⟨i2, S2, rfl, hS2⟩ := fst_cons hS
    rw [tks_cons, tks_cons, List.cons_append, List.cons_append] at *
    rw [rt (.inr rfl)]
    unfold rootN
    dsimp only
    rw [hb, Bool.or_true, if_pos rfl]
    exact es
end
end PX
/-! PXGe -/
namespace PX
open PySem PySem.Spec PyProof.Rows L2 TL
/-- rows of operators: k tells how close what stands there binds -/
inductive Row (inn : Inn) : Nat → PyData → List Wd → Prop
  | opd {d : PyData} {R : List Wd} (h : OpRow inn d R) : Row inn 9 d R
  | bin {ka kb : Nat} {a b : PyData} {Ra Rb : List Wd} {sw wd : Wd} (ha : Row inn ka a Ra) (hb : Row inn kb b Rb) (hw : wordN (tk (sw, 0)) = some wd) (hs : stp (tk (sw, 0)) = true) (h1 : rkN wd ≤ ka) (h2 : rkN wd < kb) (hn : wd ≠ cNeg) (h7 : rkN wd ≠ 7)
      (hq : Ra.getLast? = some [47] → begW sw = false) : Row inn (rkN wd) (.tuple [dW wd, a, b]) (Ra ++ sw :: Rb)
  | neg {ka : Nat} {a : PyData} {Ra : List Wd} (ha : Row inn ka a Ra) (h1 : 7 ≤ ka) : Row inn 7 (.tuple [dT "neg", a]) ([45] :: Ra)
/-- what the reader does behind an operand -/
def aft (ex : List Tk → Rz) (z : Str) (f : Nat) (ws : List Wd) (st : List PyData) : List Tk → Rz
  | [] => none
  | t :: r => match wordN t with
    | none => match fldN 0 ws st with
      | some ([], [x]) => some (x, t :: r)
      | _ => none
    | some wd => match fldN (rkN wd) ws st with
      | some (ws2, st2) => xpL ex z f (wd :: ws2) st2 r
      | none => none
def topOk (ws : List Wd) (k : Nat) : Prop := ∀ w, ws.head? = some w → if k = 7 then w ≠ cUni else rkN w < k
theorem wordN_tk (w : Wd) (i : Nat) : wordN (tk (w, i)) = wordN (tk (w, 0)) := rfl
theorem stp_tk (w : Wd) (i : Nat) : stp (tk (w, i)) = stp (tk (w, 0)) := rfl
theorem begN_tk (w : Wd) (i : Nat) : begN (tk (w, i)) = begW w := rfl
theorem rk_uni : rkN cUni = 8 := by decide +kernel
theorem rk_neg7 : rkN cNeg = 7 := by decide +kernel
theorem fld_cons (ρ : Nat) (wd : Wd) (ws : List Wd) (st : List PyData) : fldN ρ (wd :: ws) st = if ρ ≤ rkN wd then (match bndN wd st with | some st2 => fldN ρ ws st2 | none => none) else some (wd :: ws, st) := rfl
theorem fld_stop {ρ : Nat} {ws : List Wd} {st : List PyData} (h : ∀ w, ws.head? = some w → rkN w < ρ) : fldN ρ ws st = some (ws, st) := by
  cases ws with
  | nil => rfl
  | cons w ws =>
    unfold fldN
    rw [if_neg (by have := h w rfl; omega)]
theorem fld_bin {ρ : Nat} {wd : Wd} {ws : List Wd} {a b : PyData} {st : List PyData} (h : ρ ≤ rkN wd) (hn : wd ≠ cNeg) : fldN ρ (wd :: ws) (b :: a :: st) = fldN ρ ws (.tuple [dW wd, a, b] :: st) := by
  have e : bndN wd (b :: a :: st) = some (.tuple [dW wd, a, b] :: st) := by
    unfold bndN
    dsimp only
    rw [beq_eq_false_iff_ne.mpr hn, if_neg Bool.false_ne_true]
  rw [fld_cons, if_pos h, e]
theorem fld_neg {ρ : Nat} {ws : List Wd} {a : PyData} {st : List PyData} (h : ρ ≤ 7) : fldN ρ (cNeg :: ws) (a :: st) = fldN ρ ws (.tuple [dT "neg", a] :: st) := by
  have e : bndN cNeg (a :: st) = some (.tuple [dT "neg", a] :: st) := by
    unfold bndN
    dsimp only
    rw [if_pos (by decide)]
  rw [fld_cons, if_pos (by rw [rk_neg7]; exact h), e]
section
variable {z : Str} {ex : List Tk → Rz} {inn : Inn}
def hdM : List Wd := [cNum, cTxt, [36], cNam, [40], [46], [46, 46], [64], [42], [47], [47, 47]]
theorem prim_hd {d : PyData} {R : List Wd} (h : PRow inn d R) : ∃ w Y, R = w :: Y ∧ kdW w ∈ hdM := by
  cases h with
  | num h => exact ⟨_, _, rfl, by rw [kdW_num h]; decide⟩
  | txt h => exact ⟨_, _, rfl, by rw [kdW_txt h]; decide⟩
  | var h => exact ⟨_, _, rfl, by decide⟩
  | call h => exact ⟨_, _, rfl, by rw [kdW_nam h]; decide⟩
  | brk h => exact ⟨_, _, rfl, by decide⟩
theorem head_hd {d : PyData} {R : List Wd} (h : HRow inn d R) : ∃ w Y, R = w :: Y ∧ kdW w ∈ hdM := by
  cases h with
  | prim h => exact prim_hd h
  | filt h hp =>
    obtain ⟨w, Y, rfl, hw⟩ := prim_hd h
    exact ⟨w, _, rfl, hw⟩
theorem ss_hd2 {ss : List PyData} {R : List Wd} (h : SsRow inn ss R) : ∃ w Y, R = w :: Y ∧ kdW w ∈ hdM := by
  obtain ⟨s, R1, X, h1, rfl, _⟩ := ss_hd h
  rcases step_hd h1 with ⟨nm, hn, rfl, _⟩ | ⟨nm, w2, R2, hn, rfl, _⟩ | ⟨w, R2, rfl, hw⟩
  · exact ⟨nm, _, rfl, by rw [kdW_nam hn]; decide⟩
  · exact ⟨nm, _, rfl, by rw [kdW_nam hn]; decide⟩
  · refine ⟨w, _, rfl, ?_⟩
    have := fact (p := fun x => decide (kdW x ∈ hdM)) (by decide) hw
    exact of_decide_eq_true this
theorem op_hd {d : PyData} {R : List Wd} (h : OpRow inn d R) : ∃ w Y, R = w :: Y ∧ kdW w ∈ hdM := by
  cases h with
  | head h => exact head_hd h
  | path h hs =>
    obtain ⟨w, Y, rfl, hw⟩ := head_hd h
    exact ⟨w, _, rfl, hw⟩
  | path2 h hs =>
    obtain ⟨w, Y, rfl, hw⟩ := head_hd h
    exact ⟨w, _, rfl, hw⟩
  | rel hs => exact ss_hd2 hs
  | root => exact ⟨_, _, rfl, by decide⟩
  | rooted hs => exact ⟨_, _, rfl, by decide⟩
  | rooted2 hs => exact ⟨_, _, rfl, by decide⟩
theorem row_hd {k : Nat} {d : PyData} {R : List Wd} (h : Row inn k d R) : HdOk R := by
  have up : ∀ {w : Wd}, w ∈ hdM → w ∈ hdL := fun {w} h => of_decide_eq_true (fact (p := fun x => decide (x ∈ hdL)) (by decide) h)
  induction h with
  | opd h =>
    obtain ⟨w, Y, rfl, hw⟩ := op_hd h
    exact ⟨w, Y, rfl, up hw⟩
  | bin ha hb _ _ _ _ _ _ _ ih _ =>
    obtain ⟨w, Y, rfl, hw⟩ := ih
    exact ⟨w, _, rfl, hw⟩
  | neg _ _ _ => exact ⟨_, _, rfl, by decide⟩
theorem row_ne {k : Nat} {d : PyData} {R : List Wd} (h : Row inn k d R) : R ≠ [] := by
  obtain ⟨w, Y, rfl, _⟩ := row_hd h
  simp
theorem row_rd (hE : InnOk z ex inn) {k : Nat} {d : PyData} {R : List Wd} (h : Row inn k d R) : ∀ (T : List (Wd × Nat)) (u : Tk) (l : List Tk) (ws : List Wd) (st : List PyData) (f : Nat), T.map Prod.fst = R → CC z (tks T ++ u :: l) → folX R u → topOk ws k →
    ∃ ws2 st2 f2, f ≤ f2 ∧ xpL ex z (f + T.length) ws st (tks T ++ u :: l) = aft ex z f2 ws2 st2 (u :: l) ∧ ∀ ρ, ρ ≤ k → fldN ρ ws2 st2 = fldN ρ ws (d :: st) := by
  induction h with
  | opd h =>
    rename_i d R
    intro T u l ws st f hT hc hu _
    have e := op_rd hE h T u l hT hc hu
    obtain ⟨w, Y, rfl, hw⟩ := op_hd h
    obtain ⟨i, S, rfl, hS⟩ := fst_cons hT
    have hm : minN ws (tks ((w, i) :: S) ++ u :: l) = (ws, tks ((w, i) :: S) ++ u :: l) := by
      show minN ws (tk (w, i) :: (tks S ++ u :: l)) = _
      unfold minN
      rw [kdL_tk, factF (p := fun x => x == [45]) (by decide) hw, Bool.false_and, if_neg Bool.false_ne_true]
      rfl
    refine ⟨ws, d :: st, f + S.length, by omega, ?_, fun _ _ => rfl⟩
    show xpL ex z (f + S.length + 1) ws st _ = _
    unfold xpL
    rw [hm]
    dsimp only
    rw [e]
    dsimp only
    rw [if_pos (by unfold tks; simp; omega)]
    rfl
  | bin ha hb hw hs h1 h2 hn h7 hq iha ihb =>
    rename_i ka kb a b Ra Rb sw wd
    intro T u l ws st f hT hc hu ht
    obtain ⟨A, B, rfl, hA, hB⟩ := fst_app hT
    obtain ⟨i, B2, rfl, hB2⟩ := fst_cons hB
    rw [tks_app, tks_cons, List.append_assoc, List.cons_append] at hc ⊢
    have ht' : ∀ w, ws.head? = some w → rkN w < rkN wd := fun w hw => by
      have := ht w hw
      rw [if_neg h7] at this
      exact this
    obtain ⟨ws1, st1, f1, hf1, e1, q1⟩ := iha A (tk (sw, i)) (tks B2 ++ u :: l) ws st (f + B2.length + 1) hA hc ⟨by rw [stp_tk]; exact hs, fun q => by rw [begN_tk]; exact hq q⟩ (fun w hw => by
      have h3 := ht' w hw
      split
      · rename_i h4
        intro q
        subst q
        rw [rk_uni] at h3
        omega
      · omega)
    have e2 : fldN (rkN wd) ws1 st1 = some (ws, a :: st) := by
      rw [q1 _ h1]
      exact fld_stop ht'
    obtain ⟨f1, rfl⟩ : ∃ g, f1 = g + B2.length := ⟨f1 - B2.length, by omega⟩
    obtain ⟨ws2, st2, f2, hf2, e3, q2⟩ := ihb B2 u l (wd :: ws) (a :: st) f1 hB2 (CC.tail (CC.drop hc)) ⟨hu.1, fun q => hu.2 (by
      rw [List.getLast?_append, List.getLast?_cons]
      cases hr : Rb.getLast? with
      | none =>
        rw [hr] at q
        cases q
      | some x =>
        rw [hr] at q
        rw [q]
        rfl)⟩ (fun w hw => by
      cases hw
      split
      · rename_i h4
        intro q
        subst q
        rw [rk_uni] at h2
        omega
      · exact h2)
    refine ⟨ws2, st2, f2, by omega, ?_, fun ρ hρ => ?_⟩
    · have e4 : f + (A ++ (sw, i) :: B2).length = f + B2.length + 1 + A.length := by simp; omega
      rw [e4, e1, ← e3]
      show (match wordN (tk (sw, i)) with | none => _ | some wd => _) = _
      rw [wordN_tk, hw]
      dsimp only
      rw [e2]
    · rw [q2 ρ (by omega), fld_bin hρ hn]
  | neg ha h1 ih =>
    rename_i ka a Ra
    intro T u l ws st f hT hc hu ht
    obtain ⟨i, S, rfl, hS⟩ := fst_cons hT
    rw [tks_cons, List.cons_append] at hc ⊢
    have hne := row_ne ha
    obtain ⟨ws2, st2, f2, hf2, e3, q2⟩ := ih S u l (cNeg :: ws) st (f + 1) hS (CC.tail hc) ⟨hu.1, fun q => hu.2 (by
      rw [List.getLast?_cons, q]
      rfl)⟩ (fun w hw => by
      cases hw
      split
      · decide
      · rw [rk_neg7]
        omega)
    have hm : minN ws (tk ([45], i) :: (tks S ++ u :: l)) = minN (cNeg :: ws) (tks S ++ u :: l) := by
      have hc2 : (ws.head? == some cUni) = false := by
        cases hw : ws.head? with
        | none => rfl
        | some w =>
          have := ht w hw
          rw [if_pos rfl] at this
          exact beq_eq_false_iff_ne.mpr fun q => this (Option.some.inj q)
      have : minN ws (tk ([45], i) :: (tks S ++ u :: l)) = if (kdL (tk ([45], i)) == [45] && !(ws.head? == some cUni)) = true then minN (cNeg :: ws) (tks S ++ u :: l) else (ws, tk ([45], i) :: (tks S ++ u :: l)) := by
        cases ws <;> rfl
      rw [this, hc2, if_pos (by show (kdW [45] == [45] && !false) = true; decide)]
    refine ⟨ws2, st2, f2, by omega, ?_, fun ρ hρ => ?_⟩
    · rw [← e3]
      show xpL ex z (f + S.length + 1) ws st _ = xpL ex z (f + 1 + S.length) (cNeg :: ws) st _
      rw [show f + 1 + S.length = f + S.length + 1 by omega]
      unfold xpL
      rw [hm]
    · rw [q2 ρ (by omega), fld_neg hρ]
theorem x_rd (hE : InnOk z ex inn) {k : Nat} {d : PyData} {R : List Wd} (h : Row inn k d R) : Rds z (xpN ex z) (fun u => kdL u ∈ clo) R d := by
  intro T u l hT hc hu
  have hst : stp u = true := by
    unfold stp
    rw [Bool.or_eq_true]
    left
    exact is1_iff.mpr (of_decide_eq_true (fact (p := fun x => decide (x ∈ stL)) (by decide) hu))
  have hnb : begN u = false := by
    unfold begN
    rw [factF (p := fun x => x == cNum) (by decide) hu, if_neg Bool.false_ne_true]
    exact factF (p := fun x => is1 x [cNam, [46], [46, 46], [64], [42]]) (by decide) hu
  have hwn : wordN u = none := by
    unfold wordN
    rw [factF (p := fun x => x == cNam) (by decide) hu, if_neg Bool.false_ne_true]
    have := fact (p := fun x => (opSign x).isNone) (by decide +kernel) hu
    exact Option.isNone_iff_eq_none.mp this
  obtain ⟨ws2, st2, f2, hf, e, q⟩ := row_rd hE h T u l [] [] (l.length + 2) hT hc ⟨hst, fun _ => hnb⟩ (fun w hw => by cases hw)
  unfold xpN
  rw [show (tks T ++ u :: l).length + 1 = l.length + 2 + T.length by unfold tks; simp; omega, e]
  show (match wordN u with | none => _ | some wd => _) = _
  rw [hwn]
  dsimp only
  rw [q 0 (Nat.zero_le _)]
  rfl
end
/-- inner rows, n deep -/
def InnR : Nat → Inn
  | 0 => fun _ _ => False
  | n + 1 => fun d R => ∃ k, Row (InnR n) k d R
theorem inn_ok (z : Str) : ∀ n, InnOk z (xpD n z) (InnR n)
  | 0 => ⟨fun _ _ h => h.elim, fun _ _ h => h.elim⟩
  | n + 1 => ⟨fun d R ⟨k, h⟩ => x_rd (inn_ok z n) h, fun d R ⟨k, h⟩ => row_hd h⟩
/-! ### more depth does no harm -/
section
variable {inn inn2 : Inn}
theorem PredsRow.mono (hi : ∀ d R, inn d R → inn2 d R) {ps : List PyData} {R : List Wd} (h : PredsRow inn ps R) : PredsRow inn2 ps R := by
  induction h with
  | nil => exact .nil
  | cons h _ ih => exact .cons (hi _ _ h) ih
theorem StepRow.mono (hi : ∀ d R, inn d R → inn2 d R) {s : PyData} {R : List Wd} (h : StepRow inn s R) : StepRow inn2 s R := by
  cases h with
  | dot => exact .dot
  | dots => exact .dots
  | full h ha ht hp => exact .full h ha ht (hp.mono hi)
  | att ht hp => exact .att ht (hp.mono hi)
  | chi ht hp => exact .chi ht (hp.mono hi)
theorem SsRow.mono (hi : ∀ d R, inn d R → inn2 d R) {ss : List PyData} {R : List Wd} (h : SsRow inn ss R) : SsRow inn2 ss R := by
  induction h with
  | one h => exact .one (h.mono hi)
  | sl h _ ih => exact .sl (h.mono hi) ih
  | sl2 h _ ih => exact .sl2 (h.mono hi) ih
theorem ArgsRow.mono (hi : ∀ d R, inn d R → inn2 d R) {ds : List PyData} {R : List Wd} (h : ArgsRow inn ds R) : ArgsRow inn2 ds R := by
  induction h with
  | nil => exact .nil
  | one h => exact .one (hi _ _ h)
  | cons h _ hn ih => exact .cons (hi _ _ h) ih hn
theorem PRow.mono (hi : ∀ d R, inn d R → inn2 d R) {d : PyData} {R : List Wd} (h : PRow inn d R) : PRow inn2 d R := by
  cases h with
  | num h => exact .num h
  | txt h => exact .txt h
  | var h => exact .var h
  | call h hx hn ha => exact .call h hx hn (ha.mono hi)
  | brk h => exact .brk (hi _ _ h)
theorem HRow.mono (hi : ∀ d R, inn d R → inn2 d R) {d : PyData} {R : List Wd} (h : HRow inn d R) : HRow inn2 d R := by
  cases h with
  | prim h => exact .prim (h.mono hi)
  | filt h hp => exact .filt (h.mono hi) (hp.mono hi)
theorem OpRow.mono (hi : ∀ d R, inn d R → inn2 d R) {d : PyData} {R : List Wd} (h : OpRow inn d R) : OpRow inn2 d R := by
  cases h with
  | head h => exact .head (h.mono hi)
  | path h hs => exact .path (h.mono hi) (hs.mono hi)
  | path2 h hs => exact .path2 (h.mono hi) (hs.mono hi)
  | rel hs => exact .rel (hs.mono hi)
  | root => exact .root
  | rooted hs => exact .rooted (hs.mono hi)
  | rooted2 hs => exact .rooted2 (hs.mono hi)
theorem Row.mono (hi : ∀ d R, inn d R → inn2 d R) {k : Nat} {d : PyData} {R : List Wd} (h : Row inn k d R) : Row inn2 k d R := by
  induction h with
  | opd h => exact .opd (h.mono hi)
  | bin _ _ hw hs h1 h2 hn h7 hq iha ihb => exact .bin iha ihb hw hs h1 h2 hn h7 hq
  | neg _ h1 ih => exact .neg ih h1
end
theorem InnR.up1 : ∀ (n : Nat) (d : PyData) (R : List Wd), InnR n d R → InnR (n + 1) d R
  | 0, _, _, h => h.elim
  | n + 1, d, R, ⟨k, h⟩ => ⟨k, h.mono (InnR.up1 n)⟩
theorem InnR.up {n m : Nat} (h : n ≤ m) {d : PyData} {R : List Wd} (hr : InnR n d R) : InnR m d R := by
  induction h with
  | refl => exact hr
  | step _ ih => exact InnR.up1 _ _ _ ih
/-- a row that is the whole text -/
theorem whole_rd {z : Str} {n : Nat} {d : PyData} {R : List Wd} (h : InnR n d R) {T : List (Wd × Nat)} {i : Nat} (hT : T.map Prod.fst = R) (e : tokL z = tks T ++ [(.fin, [], i)]) (hc : CC z (tokL z)) : rpN n z = some d := by
  unfold rpN
  rw [e] at hc ⊢
  rw [(inn_ok z n).rd d R h T (.fin, [], i) [] hT hc (by show cEnd ∈ clo; decide)]
  dsimp only
  rw [if_pos (by show (cEnd == cEnd) = true; decide)]
end PX
/-! PXGf -/
namespace PX
open PySem PySem.Spec PyProof.Rows L2 TL
/-! ### texts of words with blanks between -/
theorem spN_all {p : Nat → Bool} : ∀ {a : List Nat}, a.all p = true → ∀ {r : List Nat}, hP p r = false → spN p (a ++ r) = a.length
  | [], _, [], _ => rfl
  | [], _, c :: r, h => by
    show (if p c = true then _ else 0) = 0
    rw [show p c = false from h, if_neg Bool.false_ne_true]
  | x :: a, h, r, hr => by
    rw [List.all_cons, Bool.and_eq_true] at h
    show (if p x = true then spN p (a ++ r) + 1 else 0) = a.length + 1
    rw [if_pos h.1, spN_all h.2 hr]
theorem spN_pre {p : Nat → Bool} : ∀ {a r : List Nat}, spN p a < a.length → spN p (a ++ r) = spN p a
  | [], r, h => by simp at h
  | x :: a, r, h => by
    show (if p x = true then spN p (a ++ r) + 1 else 0) = (if p x = true then spN p a + 1 else 0)
    by_cases c : p x = true
    · rw [if_pos c, if_pos c]
      have h' : spN p (x :: a) = spN p a + 1 := by
        show (if p x = true then spN p a + 1 else 0) = _
        rw [if_pos c]
      rw [h', List.length_cons] at h
      rw [spN_pre (by omega)]
    · rw [if_neg c, if_neg c]
theorem spN_full {p : Nat → Bool} : ∀ {a : List Nat}, spN p a = a.length → a.all p = true
  | [], _ => rfl
  | x :: a, h => by
    have h' : spN p (x :: a) = if p x = true then spN p a + 1 else 0 := rfl
    rw [h'] at h
    by_cases c : p x = true
    · rw [if_pos c, List.length_cons] at h
      rw [List.all_cons, c, spN_full (by omega)]
      rfl
    · rw [if_neg c] at h
      cases h
theorem spN_ap {p : Nat → Bool} {a r : List Nat} (hr : hP p r = false) : spN p (a ++ r) = spN p a := by
  have := spN_le p a
  by_cases c : spN p a < a.length
  · exact spN_pre c
  · rw [spN_all (spN_full (by omega)) hr]
    omega
theorem drop_app_le {a r : List Nat} {n : Nat} (h : n ≤ a.length) : (a ++ r).drop n = a.drop n ++ r := List.drop_append_of_le_length h
theorem hP_app {p : Nat → Bool} {a r : List Nat} (h : a ≠ []) : hP p (a ++ r) = hP p a := by
  cases a with
  | nil => exact absurd rfl h
  | cons x a => rfl
/-- a word that is one token -/
def good (w : Wd) : Bool := decide ((tkN w).2 = w.length) && !(wK w).ends
/-- does the word stand apart from what follows -/
def sepd (w : Wd) (r : List Nat) : Bool := match wK w with
  | .nam => !hP isWd r && (w.any (· == 58) || !(hP (· == 58) r && hP isLt (r.drop 1)))
  | .num => !hP (fun c => isDg c || c == 46) r
  | .txt => true
  | _ => w.length == 2 || !hP (fun c => sgL.any (· == w ++ [c]) || (w == [46] && isDg c)) r
theorem tkN_cons (c : Nat) (r : List Nat) : tkN (c :: r) = if isLt c = true then (.nam, nmN (c :: r)) else if (isDg c || (c == 46 && hP isDg r)) = true then (.num, nuN (c :: r)) else if (c == 39 || c == 34) = true then
          (if hP (· == c) (r.drop (spN (fun d => isSg d && d != c) r)) = true then (.txt, spN (fun d => isSg d && d != c) r + 2) else (.opn, spN (fun d => isSg d && d != c) r + 1))
        else match sgN (c :: r) with
          | some w => (.sgn, w.length)
          | none => (.brk, 1) := rfl
theorem nm_app {w r : List Nat} (h : nmN w = w.length) (h1 : hP isWd r = false) (h2 : (w.any (· == 58) || !(hP (· == 58) r && hP isLt (r.drop 1))) = true) : nmN (w ++ r) = w.length := by
  have hle := spN_le isWd w
  have e1 := spN_ap (p := isWd) (a := w) h1
  by_cases c : spN isWd w = w.length
  · -- no colon
    have hall := spN_full c
    have hno : w.any (· == 58) = false := by
      rw [Bool.eq_false_iff]
      intro q
      obtain ⟨x, hx, e⟩ := List.any_eq_true.mp q
      have := List.all_eq_true.mp hall x hx
      rw [eq_of_beq e] at this
      exact absurd this (by decide)
    rw [hno, Bool.false_or, Bool.not_eq_true'] at h2
    unfold nmN
    rw [e1, c]
    have e2 : (w ++ r).drop w.length = r := by simp
    have e3 : (w ++ r).drop (w.length + 1) = r.drop 1 := by
      rw [← List.drop_drop, e2]
    rw [e2, e3, h2, if_neg Bool.false_ne_true]
  · have hlt : spN isWd w < w.length := by omega
    unfold nmN at h ⊢
    rw [e1]
    have e2 : (w ++ r).drop (spN isWd w) = w.drop (spN isWd w) ++ r := drop_app_le hle
    have e3 : (w ++ r).drop (spN isWd w + 1) = w.drop (spN isWd w + 1) ++ r := drop_app_le (by omega)
    have ne1 : w.drop (spN isWd w) ≠ [] := fun q => by
      have := congrArg List.length q
      rw [List.length_drop] at this
      simp at this
      omega
    rw [e2, e3, hP_app ne1]
    by_cases c2 : (hP (· == 58) (w.drop (spN isWd w)) && hP isLt (w.drop (spN isWd w + 1))) = true
    · rw [if_pos c2] at h
      have ne2 : w.drop (spN isWd w + 1) ≠ [] := fun q => by
        rw [q, Bool.and_eq_true] at c2
        exact absurd c2.2 (by decide)
      rw [hP_app ne2, if_pos c2, spN_ap h1, h]
    · rw [if_neg c2] at h
      omega
theorem nu_app {w r : List Nat} (h : nuN w = w.length) (h1 : hP (fun c => isDg c || c == 46) r = false) : nuN (w ++ r) = w.length := by
  have hd : hP isDg r = false := by
    cases r with
    | nil => rfl
    | cons c r =>
      have : (isDg c || c == 46) = false := h1
      rw [Bool.or_eq_false_iff] at this
      exact this.1
  have hp : hP (· == 46) r = false := by
    cases r with
    | nil => rfl
    | cons c r =>
      have : (isDg c || c == 46) = false := h1
      rw [Bool.or_eq_false_iff] at this
      exact this.2
  have hle := spN_le isDg w
  have e1 := spN_ap (p := isDg) (a := w) hd
  unfold nuN at h ⊢
  rw [e1]
  by_cases c : spN isDg w = w.length
  · have e2 : (w ++ r).drop (spN isDg w) = r := by rw [c]; simp
    rw [e2, hp, if_neg Bool.false_ne_true]
    exact c
  · have hlt : spN isDg w < w.length := by omega
    have e2 : (w ++ r).drop (spN isDg w) = w.drop (spN isDg w) ++ r := drop_app_le hle
    have e3 : (w ++ r).drop (spN isDg w + 1) = w.drop (spN isDg w + 1) ++ r := drop_app_le (by omega)
    have ne1 : w.drop (spN isDg w) ≠ [] := fun q => by
      have := congrArg List.length q
      rw [List.length_drop] at this
      simp at this
      omega
    rw [e2, e3, hP_app ne1]
    by_cases c2 : hP (· == 46) (w.drop (spN isDg w)) = true
    · rw [if_pos c2] at h ⊢
      rw [spN_ap hd, h]
    · rw [if_neg c2] at h
      omega
theorem sg_mem {l w : List Nat} (h : sgN l = some w) : w ∈ sgL ∧ l.take w.length = w := ⟨List.mem_of_find?_eq_some h, eq_of_beq (List.find?_some (p := fun w => l.take w.length == w) h)⟩
theorem good_nil {w : Wd} (h : good w = true) : w ≠ [] := fun q => by
  subst q
  exact absurd h (by decide)
theorem find_congr {α : Type} {p q : α → Bool} : ∀ {L : List α}, (∀ w ∈ L, p w = q w) → L.find? p = L.find? q
  | [], _ => rfl
  | a :: L, h => by
    rw [List.find?_cons, List.find?_cons, h a List.mem_cons_self, find_congr fun w hw => h w (List.mem_cons_of_mem _ hw)]
theorem sg_len12 : sgL.all (fun w => w.length == 1 || w.length == 2) = true := by decide
/-- a good word is found ahead of what stands apart -/
theorem tk_app {w : Wd} {r : List Nat} (hg : good w = true) (hs : sepd w r = true) : tkN (w ++ r) = (wK w, w.length) := by
  have hne := good_nil hg
  unfold good at hg
  rw [Bool.and_eq_true, decide_eq_true_eq, Bool.not_eq_true'] at hg
  obtain ⟨hl, he⟩ := hg
  cases w with
  | nil => exact absurd rfl hne
  | cons c w =>
  have et := tkN_cons c w
  show tkN (c :: (w ++ r)) = _
  rw [tkN_cons]
  by_cases c1 : isLt c = true
  · rw [if_pos c1] at et ⊢
    have hk : wK (c :: w) = .nam := by unfold wK; rw [et]
    unfold sepd at hs
    rw [hk] at hs ⊢
    rw [et] at hl
    dsimp only at hl hs
    rw [Bool.and_eq_true, Bool.not_eq_true'] at hs
    have := nm_app (w := c :: w) hl hs.1 hs.2
    show (Ki.nam, nmN ((c :: w) ++ r)) = _
    rw [this]
  · rw [if_neg c1] at et ⊢
    by_cases c2 : (isDg c || (c == 46 && hP isDg w)) = true
    · rw [if_pos c2] at et
      have hk : wK (c :: w) = .num := by unfold wK; rw [et]
      unfold sepd at hs
      rw [hk] at hs ⊢
      rw [et] at hl
      dsimp only at hl hs
      have c2' : (isDg c || (c == 46 && hP isDg (w ++ r))) = true := by
        rw [Bool.or_eq_true, Bool.and_eq_true] at c2 ⊢
        rcases c2 with h | ⟨h1, h2⟩
        · exact .inl h
        · refine .inr ⟨h1, ?_⟩
          cases w with
          | nil => exact absurd h2 (by decide)
          | cons x w => exact h2
      rw [if_pos c2']
      rw [Bool.not_eq_true'] at hs
      have := nu_app (w := c :: w) hl hs
      show (Ki.num, nuN ((c :: w) ++ r)) = _
      rw [this]
    · rw [if_neg c2] at et
      by_cases c3 : (c == 39 || c == 34) = true
      · rw [if_pos c3] at et
        have hc46 : c ≠ 46 := fun q => by
          subst q
          exact absurd c3 (by decide)
        have c2' : ¬ (isDg c || (c == 46 && hP isDg (w ++ r))) = true := by
          rw [Bool.or_eq_true, Bool.and_eq_true]
          rintro (h | ⟨h, _⟩)
          · exact c2 (by rw [h, Bool.true_or])
          · exact hc46 (eq_of_beq h)
        rw [if_neg c2', if_pos c3]
        by_cases c4 : hP (· == c) (w.drop (spN (fun d => isSg d && d != c) w)) = true
        · rw [if_pos c4] at et
          have hk : wK (c :: w) = .txt := by unfold wK; rw [et]
          rw [hk]
          rw [et] at hl
          dsimp only at hl
          have hlt : spN (fun d => isSg d && d != c) w < w.length := by
            by_cases q : spN (fun d => isSg d && d != c) w < w.length
            · exact q
            · have e : w.drop (spN (fun d => isSg d && d != c) w) = [] := List.drop_eq_nil_of_le (by omega)
              rw [e] at c4
              exact absurd c4 (by simp [hP])
          rw [spN_pre hlt, drop_app_le (by omega)]
          have ne1 : w.drop (spN (fun d => isSg d && d != c) w) ≠ [] := fun q => by
            rw [q] at c4
            exact absurd c4 (by simp [hP])
          rw [hP_app ne1, if_pos c4, hl]
        · rw [if_neg c4] at et
          have hk : wK (c :: w) = .opn := by unfold wK; rw [et]
          rw [hk] at he
          exact absurd he (by decide)
      · rw [if_neg c3] at et
        rw [if_neg c3]
        cases q : sgN (c :: w) with
        | none =>
          rw [q] at et
          have hk : wK (c :: w) = .brk := by unfold wK; rw [et]
          rw [hk] at he
          exact absurd he (by decide)
        | some s =>
          rw [q] at et
          dsimp only at et
          have hk : wK (c :: w) = .sgn := by unfold wK; rw [et]
          rw [hk]
          rw [et] at hl
          dsimp only at hl
          obtain ⟨hm, ht⟩ := sg_mem q
          have es : s = c :: w := by
            rw [← ht, hl]
            simp
          subst es
          unfold sepd at hs
          rw [hk] at hs
          dsimp only at hs
          have h12 := List.all_eq_true.mp sg_len12 _ hm
          by_cases h2 : (c :: w).length = 2
          · obtain ⟨y, rfl⟩ : ∃ y, w = [y] := by
              match w, h2 with
              | [y], _ => exact ⟨y, rfl⟩
            have c2' : ¬ (isDg c || (c == 46 && hP isDg ([y] ++ r))) = true := c2
            rw [if_neg c2']
            have e : sgN (c :: ([y] ++ r)) = sgN [c, y] := by
              refine find_congr fun v hv => ?_
              have hv12 := List.all_eq_true.mp sg_len12 _ hv
              rw [Bool.or_eq_true, beq_iff_eq, beq_iff_eq] at hv12
              rcases hv12 with h | h <;> rw [h] <;> rfl
            rw [e, q]
          · have h1 : (c :: w).length = 1 := by
              rw [Bool.or_eq_true, beq_iff_eq, beq_iff_eq] at h12
              omega
            obtain rfl : w = [] := by
              match w, h1 with
              | [], _ => rfl
            cases r with
            | nil =>
              have c2' : ¬ (isDg c || (c == 46 && hP isDg ([] ++ []))) = true := c2
              rw [if_neg c2']
              show (match sgN [c] with | some w => (Ki.sgn, w.length) | none => (.brk, 1)) = _
              rw [q]
            | cons y r =>
              have hs' : (sgL.any (· == [c, y]) || ([c] == [46] && isDg y)) = false := by
                have : (false || !(sgL.any (· == [c, y]) || ([c] == [46] && isDg y))) = true := hs
                rw [Bool.false_or, Bool.not_eq_true'] at this
                exact this
              rw [Bool.or_eq_false_iff] at hs'
              have c2' : ¬ (isDg c || (c == 46 && hP isDg ([] ++ y :: r))) = true := by
                rw [Bool.or_eq_true, Bool.and_eq_true]
                rintro (h | ⟨h, h3⟩)
                · exact c2 (by rw [h, Bool.true_or])
                · have hd : isDg y = true := h3
                  have := hs'.2
                  rw [hd, eq_of_beq h] at this
                  exact absurd this (by decide)
              rw [if_neg c2']
              have e : sgN (c :: ([] ++ y :: r)) = sgN [c] := by
                refine find_congr fun v hv => ?_
                have hv12 := List.all_eq_true.mp sg_len12 _ hv
                rw [Bool.or_eq_true, beq_iff_eq, beq_iff_eq] at hv12
                rcases hv12 with h | h
                · rw [h]
                  rfl
                · rw [h]
                  show ([c, y] == v) = ([c] == v)
                  have e1 : (v == [c, y]) = false := by
                    rw [Bool.eq_false_iff]
                    intro q2
                    exact absurd (List.any_eq_true.mpr ⟨v, hv, q2⟩) (by rw [hs'.1]; decide)
                  have e2 : ([c, y] == v) = false := beq_eq_false_iff_ne.mpr fun q2 => absurd q2.symm (beq_eq_false_iff_ne.mp e1)
                  have e3 : ([c] == v) = false := beq_eq_false_iff_ne.mpr fun q2 => by rw [← q2] at h; cases h
                  rw [e2, e3]
              rw [e, q]
/-- the text: each word with the blanks ahead, then blanks -/
def txtL (L : List (List Nat × Wd)) (e : List Nat) : List Nat := match L with
  | [] => e
  | p :: r => p.1 ++ (p.2 ++ txtL r e)
def plc : Nat → List (List Nat × Wd) → List (Wd × Nat)
  | _, [] => []
  | i, p :: r => (p.2, i + p.1.length) :: plc (i + p.1.length + p.2.length) r
end PX
/-! PXGg -/
namespace PX
open PySem PySem.Spec PyProof.Rows L2 TL
/-- the words stand apart, so that each is one token -/
def Sp2 : List (List Nat × Wd) → List Nat → Prop
  | [], e => e.all isBl = true
  | p :: r, e => p.1.all isBl = true ∧ good p.2 = true ∧ sepd p.2 (txtL r e) = true ∧ (p.2 = [36] → ∃ n r', r = ([], n) :: r') ∧ Sp2 r e
theorem sg_head {c : Nat} {r s : List Nat} (h : sgN (c :: r) = some s) : sgL.any (fun v => v.head? == some c) = true := by
  obtain ⟨hm, ht⟩ := sg_mem h
  refine List.any_eq_true.mpr ⟨s, hm, ?_⟩
  cases s with
  | nil => exact absurd hm (by decide)
  | cons x s =>
    rw [List.length_cons, List.take_succ_cons] at ht
    injection ht with h1 h2
    rw [h1]
    simp
theorem good_bl {w : Wd} (h : good w = true) : hP isBl w = false := by
  cases w with
  | nil => rfl
  | cons c w =>
    show isBl c = false
    rw [Bool.eq_false_iff]
    intro q
    have et := tkN_cons c w
    unfold good wK at h
    rw [Bool.and_eq_true, Bool.not_eq_true'] at h
    have hc : c = 32 ∨ c = 9 ∨ c = 10 := by
      unfold isBl at q
      simp only [Bool.or_eq_true, beq_iff_eq] at q
      omega
    have h1 : ¬ isLt c = true := by rcases hc with rfl | rfl | rfl <;> decide
    have h2 : ¬ (isDg c || (c == 46 && hP isDg w)) = true := by
      rcases hc with rfl | rfl | rfl <;> simp [isDg]
    have h3 : ¬ (c == 39 || c == 34) = true := by rcases hc with rfl | rfl | rfl <;> decide
    rw [if_neg h1, if_neg h2, if_neg h3] at et
    cases q2 : sgN (c :: w) with
    | none =>
      rw [q2] at et
      rw [et] at h
      exact absurd h.2 (by decide)
    | some s =>
      have := sg_head q2
      rcases hc with rfl | rfl | rfl <;> exact absurd this (by decide)
theorem good_col {w : Wd} (h : good w = true) (hc : hP (· == 58) w = true) : w = [58, 58] := by
  cases w with
  | nil => cases hc
  | cons c w =>
    have hc' : c = 58 := eq_of_beq hc
    subst hc'
    have et := tkN_cons 58 w
    unfold good wK at h
    rw [Bool.and_eq_true, Bool.not_eq_true', decide_eq_true_eq] at h
    rw [if_neg (by decide), if_neg (by simp [isDg]), if_neg (by decide)] at et
    cases q2 : sgN (58 :: w) with
    | none =>
      rw [q2] at et
      rw [et] at h
      exact absurd h.2 (by decide)
    | some s =>
      rw [q2] at et
      dsimp only at et
      rw [et] at h
      obtain ⟨hm, ht⟩ := sg_mem q2
      have es : s = 58 :: w := by
        have h1 : s.length = (58 :: w).length := h.1
        rw [← ht, h1]
        simp
      subst es
      have h4 : sgL.all (fun v => !(v.head? == some 58) || v == [58, 58]) = true := by decide
      have := List.all_eq_true.mp h4 _ hm
      simp only [List.head?_cons, Bool.or_eq_true, Bool.not_eq_true', beq_iff_eq] at this
      rcases this with h | h
      · exact absurd h (by simp)
      · exact h
theorem hP_bl {b r : List Nat} (h : b.all isBl = true) (hr : hP isBl r = false) : spN isBl (b ++ r) = b.length := spN_all h hr
theorem tks_text : ∀ (L : List (List Nat × Wd)) (e : List Nat) (f i : Nat), Sp2 L e → (txtL L e).length < f → tksN f i (txtL L e) = tks (plc i L) ++ [(.fin, [], i + (txtL L e).length)]
  | [], e, f, i, h, hf => by
    obtain ⟨f, rfl⟩ : ∃ g, f = g + 1 := ⟨f - 1, by omega⟩
    have h1 : spN isBl e = e.length := by
      have := spN_all (r := []) (show e.all isBl = true from h) rfl
      rw [List.append_nil] at this
      exact this
    show (let b := spN isBl e; let t := tkN (e.drop b); let wd := (e.drop b).take t.2; (t.1, wd, i + b) :: if t.1.ends = true then [] else tksN f (i + b + wd.length) (e.drop (b + wd.length))) = _
    dsimp only
    rw [h1, List.drop_length]
    rfl
  | p :: r, e, f, i, h, hf => by
    obtain ⟨f, rfl⟩ : ∃ g, f = g + 1 := ⟨f - 1, by omega⟩
    obtain ⟨hb, hg, hs, _, hr⟩ := h
    have hne := good_nil hg
    have hw : hP isBl (p.2 ++ txtL r e) = false := by
      rw [hP_app hne]
      exact good_bl hg
    have h1 : spN isBl (p.1 ++ (p.2 ++ txtL r e)) = p.1.length := spN_all hb hw
    have h2 := tk_app hg hs
    have hends : (wK p.2).ends = false := by
      unfold good at hg
      rw [Bool.and_eq_true, Bool.not_eq_true'] at hg
      exact hg.2
    have hlen : (txtL (p :: r) e).length = p.1.length + (p.2.length + (txtL r e).length) := by
      show (p.1 ++ (p.2 ++ txtL r e)).length = _
      rw [List.length_append, List.length_append]
    have hpos : 0 < p.2.length := List.length_pos_iff.mpr hne
    have ih := tks_text r e f (i + p.1.length + p.2.length) hr (by omega)
    show (let b := spN isBl (p.1 ++ (p.2 ++ txtL r e)); let t := tkN ((p.1 ++ (p.2 ++ txtL r e)).drop b); let wd := ((p.1 ++ (p.2 ++ txtL r e)).drop b).take t.2; (t.1, wd, i + b) :: if t.1.ends = true then [] else tksN f (i + b + wd.length) ((p.1 ++ (p.2 ++ txtL r e)).drop (b + wd.length))) = _
    dsimp only
    rw [h1, List.drop_left, h2]
    dsimp only
    rw [hends, if_neg Bool.false_ne_true, List.take_left]
    have e3 : (p.1 ++ (p.2 ++ txtL r e)).drop (p.1.length + p.2.length) = txtL r e := by
      rw [← List.drop_drop, List.drop_left, List.drop_left]
    rw [e3, ih, hlen]
    show tk (p.2, i + p.1.length) :: _ = tk (p.2, i + p.1.length) :: _
    congr 2
    rw [show i + (p.1.length + (p.2.length + (txtL r e).length)) = i + p.1.length + p.2.length + (txtL r e).length by omega]
theorem cc_text {z : Str} : ∀ (L : List (List Nat × Wd)) (e : List Nat) (pre : List Nat) (n : Nat), tl z = pre ++ txtL L e → Sp2 L e → CC z (tks (plc pre.length L) ++ [(.fin, [], n)])
  | [], e, pre, n, hz, h => trivial
  | p :: r, e, pre, n, hz, h => by
    obtain ⟨hb, hg, hs, hd, hr⟩ := h
    have hz2 : tl z = (pre ++ p.1 ++ p.2) ++ txtL r e := by
      rw [hz]
      show pre ++ (p.1 ++ (p.2 ++ txtL r e)) = _
      simp
    have ih := cc_text r e (pre ++ p.1 ++ p.2) n hz2 hr
    have hpl : (pre ++ p.1 ++ p.2).length = pre.length + p.1.length + p.2.length := by simp; omega
    rw [hpl] at ih
    have hcc : ccN z (tk (p.2, pre.length + p.1.length)) = (hP (· == 58) (txtL r e) && !(p.2.any (· == 58))) := by
      show (hP (· == 58) ((tl z).drop (pre.length + p.1.length + p.2.length)) && _) = _
      rw [hz2, ← hpl, List.drop_left]
      rfl
    cases r with
    | nil =>
      refine ⟨fun _ => .inl ?_, fun q => ?_, trivial⟩
      · rw [hcc]
        have : hP (· == 58) e = false := by
          cases e with
          | nil => rfl
          | cons c e =>
            have hc : isBl c = true := by
              have h2 : (c :: e).all isBl = true := hr
              rw [List.all_cons, Bool.and_eq_true] at h2
              exact h2.1
            show (c == 58) = false
            rw [Bool.eq_false_iff]
            intro q
            rw [eq_of_beq q] at hc
            exact absurd hc (by decide)
        show (hP (· == 58) e && _) = false
        rw [this]
        rfl
      · obtain ⟨_, _, h⟩ := hd q
        cases h
    | cons p2 r =>
      obtain ⟨hb2, hg2, _⟩ := hr
      refine ⟨fun _ => ?_, fun q => ?_, ih⟩
      · rw [hcc]
        cases c : hP (· == 58) (txtL (p2 :: r) e) with
        | false => exact .inl rfl
        | true =>
          right
          obtain ⟨b2, w2⟩ := p2
          cases b2 with
          | cons x b2 =>
            exfalso
            have hc : isBl x = true := by
              have h2 : (x :: b2).all isBl = true := hb2
              rw [List.all_cons, Bool.and_eq_true] at h2
              exact h2.1
            have c' : (x == 58) = true := c
            rw [eq_of_beq c'] at hc
            exact absurd hc (by decide)
          | nil =>
            have c' : hP (· == 58) (w2 ++ txtL r e) = true := c
            rw [hP_app (good_nil hg2)] at c'
            have := good_col hg2 c'
            subst this
            show kdW [58, 58] = [58, 58]
            decide
      · obtain ⟨m, r', h⟩ := hd q
        cases h
        show pre.length + p.1.length + p.2.length + 0 = pre.length + p.1.length + 1
        have q' : p.2 = [36] := q
        rw [q']
        rfl
theorem plc_fst : ∀ (L : List (List Nat × Wd)) (i : Nat), (plc i L).map Prod.fst = L.map Prod.snd
  | [], _ => rfl
  | p :: r, i => by
    show p.2 :: (plc _ r).map Prod.fst = p.2 :: r.map Prod.snd
    rw [plc_fst r]
/-- the tokens of a text of words -/
theorem tok_text {L : List (List Nat × Wd)} {e : List Nat} (h : Sp2 L e) : tokL (mkS (txtL L e)) = tks (plc 0 L) ++ [(.fin, [], (txtL L e).length)] := by
  unfold tokL
  rw [tl_mkS, mkS_len]
  have := tks_text L e ((txtL L e).length + 1) 0 h (Nat.lt_succ_self _)
  rw [Nat.zero_add] at this
  exact this
/-- a text of a row of words is read as the row's tree -/
theorem text_rd {n : Nat} {d : PyData} {L : List (List Nat × Wd)} {e : List Nat} (hr : InnR n d (L.map Prod.snd)) (h : Sp2 L e) : rpN n (mkS (txtL L e)) = some d := by
  have e1 := tok_text h
  refine whole_rd hr (T := plc 0 L) (plc_fst L 0) e1 ?_
  rw [e1]
  exact cc_text L e [] _ (by rw [tl_mkS]; rfl) h
end PX
/-! PQg -/
namespace PX
open PySem PySem.Spec PyProof.Rows L2 TL
/-! ### the arguments that the law draws -/
def b2 : List (List Nat) := [[], [32]]
/-- texts and their words -/
def a9w : List (List Nat × List Wd) := [([97], [[97]]), ([39, 98, 44, 32, 99, 39], [[39, 98, 44, 32, 99, 39]]), ([49], [[49]]), ([36, 100], [[36], [100]]), ([47], [[47]]), ([101, 91, 49, 93], [[101], [91], [49], [93]]), ([110, 97, 109, 101, 40, 41], [[110, 97, 109, 101], [40], [41]]), ([45, 50], [[45], [50]]), ([42], [[42]])]
def a9 : List (List Nat) := a9w.map (·.1)
def wdsP (b : List Nat) : List Wd → List (List Nat × Wd)
  | [] => []
  | w :: W => (b, w) :: W.map fun x => ([], x)
theorem wds_snd (b : List Nat) (W : List Wd) : (wdsP b W).map Prod.snd = W := by
  cases W with
  | nil => rfl
  | cons w W =>
    show w :: (W.map fun x => (([] : List Nat), x)).map Prod.snd = _
    rw [List.map_map]
    congr 1
    exact List.map_id W
theorem a9_txt {t : List Nat} {W : List Wd} (h : (t, W) ∈ a9w) (b : List Nat) (L : List (List Nat × Wd)) (e : List Nat) : txtL (wdsP b W ++ L) e = b ++ (t ++ txtL L e) := by
  simp only [a9w, List.mem_cons, List.mem_nil_iff, or_false, Prod.mk.injEq] at h
  rcases h with ⟨rfl, rfl⟩ | ⟨rfl, rfl⟩ | ⟨rfl, rfl⟩ | ⟨rfl, rfl⟩ | ⟨rfl, rfl⟩ | ⟨rfl, rfl⟩ | ⟨rfl, rfl⟩ | ⟨rfl, rfl⟩ | ⟨rfl, rfl⟩ <;> rfl
theorem a9_sp {t : List Nat} {W : List Wd} (h : (t, W) ∈ a9w) {b post : List Nat} (hb : b ∈ b2) (hp : post ∈ b2) {c : Nat} (hc : c = 44 ∨ c = 41) {L : List (List Nat × Wd)} {e : List Nat} (hs : Sp2 ((post, [c]) :: L) e) : Sp2 (wdsP b W ++ ((post, [c]) :: L)) e := by
  have hbl : b.all isBl = true := by
    simp only [b2, List.mem_cons, List.mem_nil_iff, or_false] at hb
    rcases hb with rfl | rfl <;> rfl
  have n36 : ∀ {w : Wd} {X : Prop}, w ≠ [36] → (w = [36] → X) := fun h e => absurd e h
  simp only [b2, List.mem_cons, List.mem_nil_iff, or_false] at hp
  simp only [a9w, List.mem_cons, List.mem_nil_iff, or_false, Prod.mk.injEq] at h
  rcases hp with rfl | rfl <;> rcases hc with rfl | rfl <;> rcases h with ⟨rfl, rfl⟩ | ⟨rfl, rfl⟩ | ⟨rfl, rfl⟩ | ⟨rfl, rfl⟩ | ⟨rfl, rfl⟩ | ⟨rfl, rfl⟩ | ⟨rfl, rfl⟩ | ⟨rfl, rfl⟩ | ⟨rfl, rfl⟩ <;>
    first
    | exact ⟨hbl, by rfl, by rfl, (fun e => absurd e (by simp)), hs⟩
    | exact ⟨hbl, by rfl, by rfl, fun _ => ⟨_, _, rfl⟩, rfl, by rfl, by rfl, (fun e => absurd e (by simp)), hs⟩
    | exact ⟨hbl, by rfl, by rfl, (fun e => absurd e (by simp)), rfl, by rfl, by rfl, (fun e => absurd e (by simp)), hs⟩
    | exact ⟨hbl, by rfl, by rfl, (fun e => absurd e (by simp)), rfl, by rfl, by rfl, (fun e => absurd e (by simp)), rfl, by rfl, by rfl, (fun e => absurd e (by simp)), hs⟩
    | exact ⟨hbl, by rfl, by rfl, (fun e => absurd e (by simp)), rfl, by rfl, by rfl, (fun e => absurd e (by simp)), rfl, by rfl, by rfl, (fun e => absurd e (by simp)), rfl, by rfl, by rfl, (fun e => absurd e (by simp)), hs⟩
theorem a9_row {t : List Nat} {W : List Wd} (h : (t, W) ∈ a9w) : ∃ d, InnR 2 d W := by
  have num : ∀ {inn : Inn} {w : Wd}, wK w = .num → Row inn 9 (.tuple [dT "number", dW (shortN w)]) [w] := fun h => .opd (.head (.prim (.num h)))
  simp only [a9w, List.mem_cons, List.mem_nil_iff, or_false, Prod.mk.injEq] at h
  rcases h with ⟨rfl, rfl⟩ | ⟨rfl, rfl⟩ | ⟨rfl, rfl⟩ | ⟨rfl, rfl⟩ | ⟨rfl, rfl⟩ | ⟨rfl, rfl⟩ | ⟨rfl, rfl⟩ | ⟨rfl, rfl⟩ | ⟨rfl, rfl⟩
  · exact ⟨_, 9, .opd (.rel (.one (.chi (.name (by decide)) .nil)))⟩
  · exact ⟨_, 9, .opd (.head (.prim (.txt (by decide))))⟩
  · exact ⟨_, 9, num (by decide)⟩
  · exact ⟨_, 9, .opd (.head (.prim (.var (by decide))))⟩
  · exact ⟨_, 9, .opd .root⟩
  · exact ⟨_, 9, .opd (.rel (.one (.chi (Rt := [[101]]) (.name (by decide)) (.cons (R := [[49]]) ⟨9, num (by decide)⟩ .nil))))⟩
  · exact ⟨_, 9, .opd (.head (.prim (.call (R := []) (ds := []) (by decide) (show fnLook [110, 97, 109, 101] = some (0, some 1) by decide +kernel) (by rfl) .nil)))⟩
  · exact ⟨_, 7, .neg (num (by decide)) (by decide)⟩
  · exact ⟨_, 9, .opd (.rel (.one (.chi .any .nil)))⟩
end PX
/-! PQh -/
namespace PX
open PySem PySem.Spec PyProof.Rows L2 TL
/-! ### what the reader makes of the arguments -/
abbrev Ar : Type := List Nat × List Nat × List Nat
def Ar.cs (x : Ar) : List Nat := x.1 ++ (x.2.1 ++ x.2.2)
def Ar.Gd (x : Ar) : Prop := x.1 ∈ b2 ∧ x.2.1 ∈ a9 ∧ x.2.2 ∈ b2
def wOf (t : List Nat) : List Wd := ((a9w.find? fun q => q.1 == t).map (·.2)).getD []
theorem wOf_in {t : List Nat} (h : t ∈ a9) : (t, wOf t) ∈ a9w := (by decide : ∀ t ∈ a9, (t, wOf t) ∈ a9w) t h
def txA (b : Bool) : List Ar → List Nat
  | [] => []
  | x :: xs => (if b then [44] else []) ++ (x.cs ++ txA true xs)
def tailL : List Nat → List Ar → List (List Nat × Wd)
  | post, [] => [(post, [41])]
  | post, a :: as => (post, [44]) :: (wdsP a.1 (wOf a.2.1) ++ tailL a.2.2 as)
theorem tail_cons (post : List Nat) (as : List Ar) : ∃ c L, (c = 44 ∨ c = 41) ∧ tailL post as = (post, [c]) :: L := by
  cases as with
  | nil => exact ⟨41, _, .inr rfl, rfl⟩
  | cons a as => exact ⟨44, _, .inl rfl, rfl⟩
theorem sep_sgn {w : Wd} (hk : wK w = .sgn) (h : ∀ c, (sgL.any (· == w ++ [c]) || (w == [46] && isDg c)) = false) (r : List Nat) : sepd w r = true := by
  unfold sepd
  rw [hk]
  show (w.length == 2 || !hP (fun c => sgL.any (· == w ++ [c]) || (w == [46] && isDg c)) r) = true
  have e : hP (fun c => sgL.any (· == w ++ [c]) || (w == [46] && isDg c)) r = false := by
    cases r with
    | nil => rfl
    | cons c r => exact h c
  rw [e]
  simp
theorem sep40 (r : List Nat) : sepd [40] r = true := sep_sgn (by decide) (fun c => by simp [sgL]) r
theorem sep41 (r : List Nat) : sepd [41] r = true := sep_sgn (by decide) (fun c => by simp [sgL]) r
theorem sep44 (r : List Nat) : sepd [44] r = true := sep_sgn (by decide) (fun c => by simp [sgL]) r
theorem b2_bl {b : List Nat} (hb : b ∈ b2) : b.all isBl = true := by
  simp only [b2, List.mem_cons, List.mem_nil_iff, or_false] at hb
  rcases hb with rfl | rfl <;> rfl
theorem tail_sp : ∀ (as : List Ar) (post : List Nat), post ∈ b2 → (∀ a ∈ as, a.Gd) → Sp2 (tailL post as) []
  | [], post, hp, _ => ⟨b2_bl hp, by rfl, sep41 _, fun e => absurd e (by simp), rfl⟩
  | a :: as, post, hp, hg => by
    have ha := hg a List.mem_cons_self
    have ih := tail_sp as a.2.2 ha.2.2 fun b hb => hg b (List.mem_cons_of_mem _ hb)
    refine ⟨b2_bl hp, by rfl, sep44 _, fun e => absurd e (by simp), ?_⟩
    obtain ⟨c, L, hc, e⟩ := tail_cons a.2.2 as
    rw [e] at ih ⊢
    exact a9_sp (wOf_in ha.2.1) ha.1 ha.2.2 hc ih
theorem tail_txt : ∀ (as : List Ar) (post : List Nat), (∀ a ∈ as, a.Gd) → txtL (tailL post as) [] = post ++ (txA true as ++ [41])
  | [], post, _ => rfl
  | a :: as, post, hg => by
    have ha := hg a List.mem_cons_self
    have ih := tail_txt as a.2.2 fun b hb => hg b (List.mem_cons_of_mem _ hb)
    show post ++ ([44] ++ txtL (wdsP a.1 (wOf a.2.1) ++ tailL a.2.2 as) []) = _
    rw [a9_txt (wOf_in ha.2.1), ih]
    show _ = post ++ (([44] ++ (a.cs ++ txA true as)) ++ [41])
    unfold Ar.cs
    simp
theorem plc_app : ∀ (A B : List (List Nat × Wd)) (i : Nat), plc i (A ++ B) = plc i A ++ plc (i + (txtL A []).length) B
  | [], B, i => rfl
  | p :: A, B, i => by
    show (p.2, i + p.1.length) :: plc (i + p.1.length + p.2.length) (A ++ B) = _
    rw [plc_app A B]
    show _ = (p.2, i + p.1.length) :: (plc (i + p.1.length + p.2.length) A ++ plc (i + (p.1 ++ (p.2 ++ txtL A [])).length) B)
    rw [List.length_append, List.length_append]
    congr 3
    omega
theorem wds_len {t : List Nat} (ht : t ∈ a9) (b : List Nat) : (txtL (wdsP b (wOf t)) []).length = b.length + t.length := by
  have e := a9_txt (wOf_in ht) b [] []
  rw [List.append_nil] at e
  rw [e, List.length_append, List.length_append]
  rfl
def mayN (x : Int × Option Int) (n : Nat) : Bool := decide ((n : Int) < x.1) || (match x.2 with | none => true | some m => decide ((n : Int) < m))
/-- behind k arguments, the next sign at q: the place that is refused -/
def dueX (x : Int × Option Int) : Nat → Nat → List Ar → Option Nat
  | k, q, [] => if (k : Int) < x.1 then some q else none
  | k, q, a :: as => if mayN x k then dueX x (k + 1) (q + 1 + a.cs.length) as else some q
theorem clo_c {c q : Nat} (hc : c = 44 ∨ c = 41) : kdL (tk ([c], q)) ∈ clo := by
  rcases hc with rfl | rfl
  · exact (by decide : kdW [44] ∈ clo)
  · exact (by decide : kdW [41] ∈ clo)
/-- an argument is read -/
theorem arg_rd {z : Str} {a : Ar} (ha : a.Gd) (as : List Ar) {i e : Nat} (hc : CC z (tks (plc i (wdsP a.1 (wOf a.2.1) ++ tailL a.2.2 as)) ++ [(.fin, [], e)])) : ∃ d, xpD 2 z (tks (plc i (wdsP a.1 (wOf a.2.1) ++ tailL a.2.2 as)) ++ [(.fin, [], e)]) = some (d, tks (plc (i + (a.1.length + a.2.1.length)) (tailL a.2.2 as)) ++ [(.fin, [], e)]) := by
  obtain ⟨d, h⟩ := a9_row (wOf_in ha.2.1)
  obtain ⟨c, L, hcc, et⟩ := tail_cons a.2.2 as
  refine ⟨d, ?_⟩
  have hT : (plc i (wdsP a.1 (wOf a.2.1))).map Prod.fst = wOf a.2.1 := by
    rw [plc_fst, wds_snd]
  rw [plc_app, tks_app, List.append_assoc, wds_len ha.2.1] at hc ⊢
  rw [et] at hc ⊢
  exact (inn_ok z 2).rd d _ h _ _ _ hT hc (clo_c hcc)
theorem arg_all {z : Str} {x : Int × Option Int} {e : Nat} : ∀ (as : List Ar) (f k i : Nat) (post : List Nat), (∀ a ∈ as, a.Gd) → as.length < f → CC z (tks (plc i (tailL post as)) ++ [(.fin, [], e)]) → argX (xpD 2 z) x f k (tks (plc i (tailL post as)) ++ [(.fin, [], e)]) = dueX x k (i + post.length) as
  | [], f, k, i, post, _, hf, _ => by
    obtain ⟨f, rfl⟩ : ∃ g, f = g + 1 := ⟨f - 1, by omega⟩
    show (if moreN x k (tk ([41], i + post.length)) = true then _ else _) = if (k : Int) < x.1 then some (i + post.length) else none
    have em : moreN x k (tk ([41], i + post.length)) = decide ((k : Int) < x.1) := by
      show (decide _ || (false && _)) = _
      rw [Bool.false_and, Bool.or_false]
    rw [em]
    by_cases h : (k : Int) < x.1
    · rw [decide_eq_true h, if_pos rfl, if_pos h]
      rfl
    · rw [decide_eq_false h, if_neg Bool.false_ne_true, if_neg h]
      rfl
  | a :: as, f, k, i, post, hg, hf, hc => by
    obtain ⟨f, rfl⟩ : ∃ g, f = g + 1 := ⟨f - 1, by omega⟩
    have ha := hg a List.mem_cons_self
    show (if moreN x k (tk ([44], i + post.length)) = true then (match xpD 2 z (tks (plc (i + post.length + 1) (wdsP a.1 (wOf a.2.1) ++ tailL a.2.2 as)) ++ [(.fin, [], e)]) with
      | some (_, l) => argX (xpD 2 z) x f (k + 1) l
      | none => none) else some (i + post.length)) = if mayN x k = true then dueX x (k + 1) (i + post.length + 1 + a.cs.length) as else some (i + post.length)
    have em : moreN x k (tk ([44], i + post.length)) = mayN x k := by
      show (decide _ || (true && _)) = _
      rw [Bool.true_and]
      rfl
    rw [em]
    cases mayN x k with
    | false => rfl
    | true =>
      rw [if_pos rfl, if_pos rfl]
      have hc2 : CC z (tks (plc (i + post.length + 1) (wdsP a.1 (wOf a.2.1) ++ tailL a.2.2 as)) ++ [(.fin, [], e)]) := CC.tail hc
      obtain ⟨d, hd⟩ := arg_rd ha as hc2
      rw [hd]
      dsimp only
      have hc3 : CC z (tks (plc (i + post.length + 1 + (a.1.length + a.2.1.length)) (tailL a.2.2 as)) ++ [(.fin, [], e)]) := by
        rw [plc_app, tks_app, List.append_assoc, wds_len ha.2.1] at hc2
        exact CC.drop hc2
      rw [arg_all as f (k + 1) _ a.2.2 (fun b hb => hg b (List.mem_cons_of_mem _ hb)) (by rw [List.length_cons] at hf; omega) hc3]
      congr 1
      unfold Ar.cs
      rw [List.length_append, List.length_append]
      omega
end PX
/-! PQi -/
namespace PX
open PySem PySem.Spec PyProof.Rows L2 TL
/-! ### what the reader makes of a call -/
def xOf (lo hi : Nat) : Int × Option Int := ((lo : Int), if hi = 9 then none else some (hi : Int))
def loHi : List (Nat × Nat) := [(0, 0), (2, 2), (0, 1), (1, 1), (2, 9), (2, 3), (3, 3)]
def wdOk (wd : List Nat) : Bool := decide (wK wd = .nam) && (good wd && (!(wd.any (· == 58)) && wd.all isSg))
def wdIs (lo hi : Nat) (wd : List Nat) : Bool := wdOk wd && (decide ((fnLook wd) = some (xOf lo hi)) && decide ((lo, hi) ∈ loHi) ||
  (decide (lo = 9) && ((fnLook wd).isNone && (!(is1 wd (tup_AXES.map tl)) && (kindOf wd).isNone))))
def calL (a0 wd a1 : List Nat) (as : List Ar) : List Nat := a0 ++ (wd ++ (a1 ++ 40 :: (txA false as ++ [41])))
def spA : Nat → List Ar → List Nat
  | i, [] => [i]
  | i, a :: as => i :: (i + 1 + a.1.length) :: spA (i + 1 + a.cs.length) as
def spO (p : Nat) : List Ar → List Nat
  | [] => [p, p + 1]
  | a :: as => p :: (p + 1 + a.1.length) :: spA (p + 1 + a.cs.length) as
def wantN (lo hi many : Nat) (sp : List Nat) : Option Nat :=
  if lo ≤ many ∧ many ≤ hi then none else if lo = 9 then sp[0]? else if many < lo then sp.getLast? else sp[if hi = 0 then 1 else 2 * hi]?
def bodyL : List Ar → List (List Nat × Wd)
  | [] => [([], [41])]
  | a :: as => wdsP a.1 (wOf a.2.1) ++ tailL a.2.2 as
theorem body_sp {as : List Ar} (hg : ∀ a ∈ as, a.Gd) : Sp2 (bodyL as) [] := by
  cases as with
  | nil => exact ⟨rfl, by rfl, sep41 _, fun e => absurd e (by simp), rfl⟩
  | cons a as =>
    have ha := hg a List.mem_cons_self
    have ts := tail_sp as a.2.2 ha.2.2 fun b hb => hg b (List.mem_cons_of_mem _ hb)
    obtain ⟨c, L, hc, e⟩ := tail_cons a.2.2 as
    show Sp2 (wdsP a.1 (wOf a.2.1) ++ tailL a.2.2 as) []
    rw [e] at ts ⊢
    exact a9_sp (wOf_in ha.2.1) ha.1 ha.2.2 hc ts
theorem body_txt {as : List Ar} (hg : ∀ a ∈ as, a.Gd) : txtL (bodyL as) [] = txA false as ++ [41] := by
  cases as with
  | nil => rfl
  | cons a as =>
    have ha := hg a List.mem_cons_self
    show txtL (wdsP a.1 (wOf a.2.1) ++ tailL a.2.2 as) [] = _
    rw [a9_txt (wOf_in ha.2.1), tail_txt as _ fun b hb => hg b (List.mem_cons_of_mem _ hb)]
    show _ = ([] ++ (a.cs ++ txA true as)) ++ [41]
    unfold Ar.cs
    simp
theorem wd_sep {wd : Wd} (hw : wdOk wd = true) {c : Nat} (hc : c = 32 ∨ c = 40) (r : List Nat) : sepd wd (c :: r) = true := by
  unfold wdOk at hw
  simp only [Bool.and_eq_true, decide_eq_true_eq, Bool.not_eq_true'] at hw
  unfold sepd
  rw [hw.1]
  show (!isWd c && (wd.any (· == 58) || !(c == 58 && hP isLt r))) = true
  rw [hw.2.2.1]
  rcases hc with rfl | rfl <;> rfl
theorem call_sp {a0 wd a1 : List Nat} {as : List Ar} (h0 : a0 ∈ b2) (hw : wdOk wd = true) (h1 : a1 ∈ b2) (hg : ∀ a ∈ as, a.Gd) : Sp2 ((a0, wd) :: (a1, [40]) :: bodyL as) [] := by
  have hk : wK wd = .nam ∧ good wd = true := by
    unfold wdOk at hw
    simp only [Bool.and_eq_true, decide_eq_true_eq] at hw
    exact ⟨hw.1, hw.2.1⟩
  refine ⟨b2_bl h0, hk.2, ?_, fun e => ?_, b2_bl h1, by rfl, sep40 _, fun e => absurd e (by simp), body_sp hg⟩
  · show sepd wd (a1 ++ ([40] ++ txtL (bodyL as) [])) = true
    simp only [b2, List.mem_cons, List.mem_nil_iff, or_false] at h1
    rcases h1 with rfl | rfl
    · exact wd_sep hw (.inr rfl) _
    · exact wd_sep hw (.inl rfl) _
  · have e : wd = [36] := e
    rw [e] at hk
    exact absurd hk.1 (by decide)
/-- what tree_of does with the text -/
def ResT (z : Str) : Option Nat → Prop
  | none => ∃ d, rpN 3 z = some d
  | some q => opC (fun z => xpD 2 z) noO z (tokL z) q ∨ unkX z (tokL z) q
theorem tail_snd (post : List Nat) : ∀ (as : List Ar), (tailL post as).map Prod.snd = if as = [] then [[41]] else [44] :: (bodyL as).map Prod.snd
  | [] => rfl
  | a :: as => by
    rw [if_neg (by simp)]
    rfl
theorem args_row : ∀ (as : List Ar), as ≠ [] → (∀ a ∈ as, a.Gd) → ∃ ds R, ds.length = as.length ∧ ArgsRow (InnR 2) ds R ∧ (bodyL as).map Prod.snd = R ++ [[41]]
  | [], h, _ => absurd rfl h
  | a :: as, _, hg => by
    obtain ⟨d, h⟩ := a9_row (wOf_in (hg a List.mem_cons_self).2.1)
    have e : (bodyL (a :: as)).map Prod.snd = wOf a.2.1 ++ (tailL a.2.2 as).map Prod.snd := by
      show (wdsP a.1 (wOf a.2.1) ++ tailL a.2.2 as).map Prod.snd = _
      rw [List.map_append, wds_snd]
    by_cases ha : as = []
    · subst ha
      exact ⟨[d], wOf a.2.1, rfl, .one h, by rw [e, tail_snd, if_pos rfl]⟩
    · obtain ⟨ds, R, h1, h2, h3⟩ := args_row as ha fun b hb => hg b (List.mem_cons_of_mem _ hb)
      refine ⟨d :: ds, wOf a.2.1 ++ [44] :: R, by rw [List.length_cons, List.length_cons, h1], .cons h h2 ?_, ?_⟩
      · intro q
        rw [q] at h1
        exact ha (List.length_eq_zero_iff.mp h1.symm)
      · rw [e, tail_snd, if_neg ha, h3]
        simp
theorem due_want {lo hi : Nat} (hl : (lo, hi) ∈ loHi) (h0 : hi ≠ 0) {p : Nat} {a : Ar} {as : List Ar} (hm : (a :: as).length ≤ 4) : dueX (xOf lo hi) 1 (p + 1 + a.cs.length) as = wantN lo hi (a :: as).length (spO p (a :: as)) := by
  simp only [loHi, List.mem_cons, List.mem_nil_iff, or_false, Prod.mk.injEq] at hl
  match as, hm with
  | [], _ => rcases hl with ⟨rfl, rfl⟩ | ⟨rfl, rfl⟩ | ⟨rfl, rfl⟩ | ⟨rfl, rfl⟩ | ⟨rfl, rfl⟩ | ⟨rfl, rfl⟩ | ⟨rfl, rfl⟩ <;> first | exact absurd rfl h0 | rfl
  | [_], _ => rcases hl with ⟨rfl, rfl⟩ | ⟨rfl, rfl⟩ | ⟨rfl, rfl⟩ | ⟨rfl, rfl⟩ | ⟨rfl, rfl⟩ | ⟨rfl, rfl⟩ | ⟨rfl, rfl⟩ <;> first | exact absurd rfl h0 | rfl
  | [_, _], _ => rcases hl with ⟨rfl, rfl⟩ | ⟨rfl, rfl⟩ | ⟨rfl, rfl⟩ | ⟨rfl, rfl⟩ | ⟨rfl, rfl⟩ | ⟨rfl, rfl⟩ | ⟨rfl, rfl⟩ <;> first | exact absurd rfl h0 | rfl
  | [_, _, _], _ => rcases hl with ⟨rfl, rfl⟩ | ⟨rfl, rfl⟩ | ⟨rfl, rfl⟩ | ⟨rfl, rfl⟩ | ⟨rfl, rfl⟩ | ⟨rfl, rfl⟩ | ⟨rfl, rfl⟩ <;> first | exact absurd rfl h0 | rfl
  | _ :: _ :: _ :: _ :: _, hm => simp at hm
theorem par_no {q : Nat} : NoOpd (tk ([41], q)) := ⟨⟨by show Ki.sgn ≠ .nam; decide, by rfl, by rfl, by rfl, by rfl, by rfl, by rfl⟩, by rfl, by rfl, by rfl, by rfl, by rfl⟩
theorem body_hd {as : List Ar} (hn : as ≠ []) (hg : ∀ a ∈ as, a.Gd) (i : Nat) : ∃ a as2 w m, as = a :: as2 ∧ plc i (bodyL as) = (w, i + a.1.length) :: m ∧ (kdL (tk (w, i + a.1.length)) == [41]) = false := by
  cases as with
  | nil => exact absurd rfl hn
  | cons a as =>
    have h := wOf_in (hg a List.mem_cons_self).2.1
    refine ⟨a, as, ?_⟩
    show ∃ w m, _ ∧ plc i (wdsP a.1 (wOf a.2.1) ++ tailL a.2.2 as) = (w, i + a.1.length) :: m ∧ _
    generalize wOf a.2.1 = W at h
    simp only [a9w, List.mem_cons, List.mem_nil_iff, or_false, Prod.mk.injEq] at h
    rcases h with ⟨_, rfl⟩ | ⟨_, rfl⟩ | ⟨_, rfl⟩ | ⟨_, rfl⟩ | ⟨_, rfl⟩ | ⟨_, rfl⟩ | ⟨_, rfl⟩ | ⟨_, rfl⟩ | ⟨_, rfl⟩ <;> exact ⟨_, _, rfl, rfl, by rfl⟩
theorem plc_lenT : ∀ (L : List (List Nat × Wd)) (i : Nat), (tks (plc i L)).length = L.length
  | [], _ => rfl
  | _ :: L, i => by
    show (tks (plc _ L)).length + 1 = L.length + 1
    rw [plc_lenT L]
theorem tail_lenT : ∀ (as : List Ar) (post : List Nat) (i : Nat), as.length < (tks (plc i (tailL post as))).length := fun as post i => by
  rw [plc_lenT]
  induction as generalizing post with
  | nil => exact Nat.zero_lt_one
  | cons a as ih =>
    show as.length + 1 < (wdsP a.1 (wOf a.2.1) ++ tailL a.2.2 as).length + 1
    rw [List.length_append]
    have := ih a.2.2
    omega
theorem want_ok {lo hi : Nat} (hl : (lo, hi) ∈ loHi) {many : Nat} {sp : List Nat} (hm : many ≤ 4) (h : wantN lo hi many sp = none) (hs : many < sp.length) (h2 : many > hi → (if hi = 0 then 1 else 2 * hi) < sp.length) : argsOk (xOf lo hi) many = true := by
  have ho : lo ≤ many ∧ many ≤ hi := by
    unfold wantN at h
    by_cases ho : lo ≤ many ∧ many ≤ hi
    · exact ho
    · exfalso
      rw [if_neg ho] at h
      have hn9 : lo ≠ 9 := by
        intro q
        subst q
        exact absurd hl (by simp [loHi])
      rw [if_neg hn9] at h
      by_cases h1 : many < lo
      · rw [if_pos h1] at h
        rw [List.getLast?_eq_none_iff] at h
        subst h
        exact absurd hs (Nat.not_lt_zero _)
      · rw [if_neg h1, List.getElem?_eq_none_iff] at h
        have := h2 (by omega)
        omega
  unfold argsOk xOf
  dsimp only
  rw [Bool.and_eq_true]
  refine ⟨decide_eq_true (by omega), ?_⟩
  split
  · rfl
  · rename_i e
    split at e
    · exact absurd e (by simp)
    · rw [Option.some.injEq] at e
      subst e
      exact decide_eq_true (by omega)
theorem spA_len : ∀ (as : List Ar) (i : Nat), (spA i as).length = 2 * as.length + 1
  | [], _ => rfl
  | a :: as, i => by
    show (spA _ as).length + 1 + 1 = 2 * (as.length + 1) + 1
    rw [spA_len as]
    omega
theorem call_res {lo hi : Nat} {a0 wd a1 : List Nat} {as : List Ar} (h0 : a0 ∈ b2) (hw : wdIs lo hi wd = true) (h1 : a1 ∈ b2) (hg : ∀ a ∈ as, a.Gd) (hm : as.length ≤ 4) {z : Str} (hz : tl z = calL a0 wd a1 as) :
    ResT z (wantN lo hi as.length (spO (a0.length + wd.length + a1.length) as)) := by
  unfold wdIs at hw
  rw [Bool.and_eq_true] at hw
  obtain ⟨hw, hx⟩ := hw
  have sp := call_sp h0 hw h1 hg
  have et : tl z = txtL ((a0, wd) :: (a1, [40]) :: bodyL as) [] := by
    rw [hz]
    show _ = a0 ++ (wd ++ (a1 ++ ([40] ++ txtL (bodyL as) [])))
    rw [body_txt hg]
    rfl
  have ez : z = mkS (txtL ((a0, wd) :: (a1, [40]) :: bodyL as) []) := by rw [← et, mkS_tl]
  have etok := tok_text sp
  rw [← ez] at etok
  have cc := cc_text (z := z) _ [] [] (txtL ((a0, wd) :: (a1, [40]) :: bodyL as) []).length (by rw [et]; rfl) sp
  have hk : wK wd = .nam := by
    unfold wdOk at hw
    simp only [Bool.and_eq_true, decide_eq_true_eq] at hw
    exact hw.1
  generalize (txtL ((a0, wd) :: (a1, [40]) :: bodyL as) []).length = E at etok cc
  have ep : plc 0 ((a0, wd) :: (a1, [40]) :: bodyL as) = (wd, a0.length) :: ([40], a0.length + wd.length + a1.length) :: plc (a0.length + wd.length + a1.length + 1) (bodyL as) := by
    show (wd, 0 + a0.length) :: ([40], 0 + a0.length + wd.length + a1.length) :: plc (0 + a0.length + wd.length + a1.length + 1) (bodyL as) = _
    rw [Nat.zero_add]
  rw [ep] at etok
  have cc : CC z (tks ((wd, a0.length) :: ([40], a0.length + wd.length + a1.length) :: plc (a0.length + wd.length + a1.length + 1) (bodyL as)) ++ [(.fin, [], E)]) := by
    rw [← ep]
    exact cc
  generalize hp : a0.length + wd.length + a1.length = p at *
  have cc2 : CC z (tks (plc (p + 1) (bodyL as)) ++ [(.fin, [], E)]) := CC.tail (CC.tail cc)
  rw [Bool.or_eq_true] at hx
  rcases hx with hx | hx
  · rw [Bool.and_eq_true] at hx
    have hf := of_decide_eq_true hx.1
    have hl := of_decide_eq_true hx.2
    have told : argsOk (xOf lo hi) as.length = true → ∃ d, rpN 3 z = some d := fun ho => by
      by_cases hn : as = []
      · subst hn
        have r : Row (InnR 2) 9 _ (wd :: [40] :: ([] ++ [[41]])) := .opd (.head (.prim (.call (R := []) (ds := []) hk hf ho .nil)))
        have t := text_rd (n := 3) ⟨9, r⟩ sp
        rw [← ez] at t
        exact ⟨_, t⟩
      · obtain ⟨ds, R, e1, e2, e3⟩ := args_row as hn hg
        have r : Row (InnR 2) 9 _ (wd :: [40] :: (R ++ [[41]])) := .opd (.head (.prim (.call hk hf (by rw [e1]; exact ho) e2)))
        rw [← e3] at r
        have t := text_rd (n := 3) ⟨9, r⟩ sp
        rw [← ez] at t
        exact ⟨_, t⟩
    have bad : ∀ q, callX (xpD 2 z) (noO z) (tk (wd, a0.length) :: tk ([40], p) :: (tks (plc (p + 1) (bodyL as)) ++ [(.fin, [], E)])) q → ResT z (some q) := fun q h => by
      refine .inl ?_
      rw [etok]
      obtain ⟨u, m, eu⟩ : ∃ u m, tks (plc (p + 1) (bodyL as)) ++ [((.fin, [], E) : Tk)] = u :: m := by
        cases tks (plc (p + 1) (bodyL as)) with
        | nil => exact ⟨_, _, rfl⟩
        | cons u m => exact ⟨_, _, rfl⟩
      refine ⟨tk (wd, a0.length), tk ([40], p), tks (plc (p + 1) (bodyL as)) ++ [(.fin, [], E)], rfl, ?_, by rfl, ?_, h⟩
      · show (kdW wd == cNam) = true
        rw [kdW_nam hk]
        rfl
      · show (fnLook wd).isSome = true
        rw [hf]
        rfl
    by_cases hn : as = []
    · subst hn
      by_cases h9 : lo = 0
      · subst h9
        have ew : wantN 0 hi ([] : List Ar).length (spO p []) = none := if_pos ⟨Nat.le_refl 0, Nat.zero_le _⟩
        rw [ew]
        refine told ?_
        unfold argsOk xOf
        split <;> rfl
      · have ew : wantN lo hi ([] : List Ar).length (spO p []) = some (p + 1) := by
          unfold wantN
          have hn9 : lo ≠ 9 := by
            intro q
            subst q
            exact absurd hl (by simp [loHi])
          rw [if_neg (fun q => h9 (Nat.le_zero.mp q.1)), if_neg hn9, if_pos (show ([] : List Ar).length < lo from Nat.pos_of_ne_zero h9)]
          rfl
        rw [ew]
        have h0 : hi ≠ 0 := by
          intro q
          subst q
          simp only [loHi, List.mem_cons, List.mem_nil_iff, or_false, Prod.mk.injEq] at hl
          omega
        refine bad _ ⟨_, hf, .inr ⟨?_, .inl ⟨tk ([41], p + 1), _, rfl, par_no, rfl⟩⟩⟩
        rw [Bool.or_eq_false_iff]
        refine ⟨decide_eq_false ?_, ?_⟩
        · unfold xOf
          dsimp only
          intro q
          split at q
          · exact absurd q (by simp)
          · rw [Option.some.injEq] at q
            omega
        · rw [decide_eq_false, Bool.false_and]
          unfold xOf
          dsimp only
          omega
    · obtain ⟨a, as2, u, m, rfl, em, ek⟩ := body_hd hn hg (p + 1)
      by_cases h0 : hi = 0
      · subst h0
        have hl0 : lo = 0 := by
          simp only [loHi, List.mem_cons, List.mem_nil_iff, or_false, Prod.mk.injEq] at hl
          omega
        subst hl0
        have ew : wantN 0 0 (a :: as2).length (spO p (a :: as2)) = some (p + 1 + a.1.length) := by
          unfold wantN
          rw [if_neg (fun q => by have := q.2; rw [List.length_cons] at this; omega), if_neg (by decide), if_neg (Nat.not_lt_zero _), if_pos rfl]
          rfl
        rw [ew]
        refine bad _ ?_
        rw [em]
        exact ⟨_, hf, .inl ⟨rfl, ek, rfl⟩⟩
      · have ha := hg a List.mem_cons_self
        have cc3 : CC z (tks (plc (p + 1) (wdsP a.1 (wOf a.2.1) ++ tailL a.2.2 as2)) ++ [(.fin, [], E)]) := cc2
        obtain ⟨d, hd⟩ := arg_rd ha as2 cc3
        have cc4 : CC z (tks (plc (p + 1 + (a.1.length + a.2.1.length)) (tailL a.2.2 as2)) ++ [(.fin, [], E)]) := by
          rw [plc_app, tks_app, List.append_assoc, wds_len ha.2.1] at cc3
          exact CC.drop cc3
        have hl4 : as2.length < (tks (plc (p + 1 + (a.1.length + a.2.1.length)) (tailL a.2.2 as2)) ++ [((.fin, [], E) : Tk)]).length + 1 := by
          have := tail_lenT as2 a.2.2 (p + 1 + (a.1.length + a.2.1.length))
          rw [List.length_append]
          omega
        have hA := arg_all (x := xOf lo hi) as2 _ 1 _ a.2.2 (fun b hb => hg b (List.mem_cons_of_mem _ hb)) hl4 cc4
        have eq : p + 1 + (a.1.length + a.2.1.length) + a.2.2.length = p + 1 + a.cs.length := by
          unfold Ar.cs
          rw [List.length_append, List.length_append]
          omega
        rw [eq, due_want hl h0 hm] at hA
        generalize ew : wantN lo hi (a :: as2).length (spO p (a :: as2)) = W at hA ⊢
        cases W with
        | none =>
          refine told ?_
          have hsl : (spO p (a :: as2)).length = 2 * as2.length + 3 := by
            show (spA _ as2).length + 1 + 1 = _
            rw [spA_len]
          refine want_ok hl hm ew ?_ ?_
          · rw [hsl, List.length_cons]
            omega
          · rw [hsl, List.length_cons, if_neg h0]
            omega
        | some q =>
          refine bad q ?_
          have hd2 : xpD 2 z (tks (plc (p + 1) (bodyL (a :: as2))) ++ [(.fin, [], E)]) = _ := hd
          rw [em] at hd2 ⊢
          refine ⟨_, hf, .inr ⟨?_, .inr ⟨_, _, hd2, hA⟩⟩⟩
          rw [Bool.or_eq_false_iff]
          refine ⟨decide_eq_false ?_, ?_⟩
          · unfold xOf
            dsimp only
            intro q
            split at q
            · exact absurd q (by simp)
            · rw [Option.some.injEq] at q
              omega
          · show (_ && (kdL (tk (u, p + 1 + a.1.length)) == [41])) = false
            rw [ek, Bool.and_false]
  · simp only [Bool.and_eq_true, decide_eq_true_eq, Bool.not_eq_true'] at hx
    obtain ⟨rfl, x1, x2, x3⟩ := hx
    have ew : wantN 9 hi as.length (spO p as) = some p := by
      unfold wantN
      rw [if_neg (by omega), if_pos rfl]
      cases as <;> rfl
    rw [ew]
    refine .inr ?_
    rw [etok]
    refine ⟨tk (wd, a0.length), tk ([40], p), tks (plc (p + 1) (bodyL as)) ++ [(.fin, [], E)], rfl, hk, ?_, by rfl, ?_, x2, ?_, rfl⟩
    · exact CC.cc cc hk (by show kdW [40] ≠ [58, 58]; decide)
    · exact Option.isNone_iff_eq_none.mp x3
    · show (fnLook wd).isSome = false
      rw [Option.isNone_iff_eq_none.mp x1]
      rfl
end PX
/-! PQj -/
namespace PX
open PySem PySem.Spec PyProof.Rows L2 TL
/-- a source of draws -/
def Wl (H : Hp) (p : Addr) : Prop := ∃ a b c : Int, H p = some (.lst [.int a, .int b, .int c])
theorem Wl.at {H H' : Hp} {p : Addr} (h : Wl H p) (s : Same H H') : Wl H' p := by
  obtain ⟨a, b, c, e⟩ := h
  exact ⟨a, b, c, s _ _ e⟩
theorem Wl.ne {H : Hp} {p q : Addr} (h : Wl H p) (e : H q = none) : q ≠ p := by
  rintro rfl
  obtain ⟨a, b, c, z⟩ := h
  rw [e] at z
  cases z
theorem fmod_rng (a : Int) {b : Int} (hb : 0 < b) : 0 ≤ a.fmod b ∧ a.fmod b < b := ⟨Int.fmod_nonneg_of_pos a hb, Int.fmod_lt_of_pos a hb⟩
section
variable {P : Program} {w : World} {K : PySem.W.Frag} {mg : Str → Option Value} {base : Heap}
def spDraw : Sp := fun vs H Q _ => ∃ (p : Addr) (n : Nat), vs = [.ref p, .int (n : Int)] ∧ Wl H p ∧ 1 ≤ n ∧ n < 1000000000 ∧
  ∀ H' (k : Nat), SameB p H H' → Wl H' p → k < n → Q (.int (k : Int)) H'
theorem ok_Ldraw (T : Tx w K mg) : Ok P w K mg base CX0 1 (He.fAd K d_Ldraw.at_) p_Ldraw spDraw := by
  obtain ⟨fd, F⟩ := f_Ldraw T
  refine ⟨fd, ?_, b_Ldraw F, F.kp⟩
  refine F.ok sc_Ldraw (fun vs H Q E h => ?_) (fun cdv A outer s H vs Q E hr h => ?_)
  · obtain ⟨p, n, rfl, _⟩ := h
    rfl
  · obtain ⟨p, n, rfl, ⟨a, b, c, hp⟩, hn, hn2, kk⟩ := h
    have nd := sc_Ldraw.nd
    refine ⟨_, PSs.nox (pss_cons (ps_if (pt_cmpR op_ge (pe_ix ix_list (pv 0) pe_int (fun _ _ => rfl)) (pe_op op_pow pe_int pe_int) (nomark _))
        (pss_cons (ps_set (i := 2) nd rfl (.inl rfl) (pe_op op_modN (pe_callTy call_int1 (by rfl) (n_int T) boot_int (pa_cons (pe_ix ix_list (pv 0) pe_int (fun _ _ => rfl)) pa_nil)) (pv 1)))
        (pss_cons (ps_asg (pe_op op_fdivW (pe_ix ix_list (pv 0) pe_int (fun _ _ => rfl)) (pv 1)) (pg_sub (pv 0) pe_int set_list))
        (pss_one (ps_ret (pv 2))))) pss_nil)
      (pss_cons (ps_asg (pe_op op_add (pe_ix ix_list (pv 0) pe_int (fun _ _ => rfl)) pe_int) (pg_sub (pv 0) pe_int set_list))
      (pss_cons (ps_set (i := 3) nd rfl (.inl rfl) (pe_op op_modN (pe_callTy call_int1 (by rfl) (n_int T) boot_int (pa_cons (pe_op op_mul (pe_op op_add (pe_op op_add (pe_op op_modN (pe_callTy call_int1 (by rfl) (n_int T) boot_int (pa_cons (pe_ix ix_list (pv 0) pe_int (fun _ _ => rfl)) pa_nil)) pe_int)
          (pe_op op_mul pe_int (pe_ix ix_list (pv 0) pe_int (fun _ _ => rfl)))) pe_int) pe_int) pa_nil)) pe_int))
      (pss_cons (ps_set (i := 3) nd rfl (.inl rfl) (pe_op op_modN (pe_callTy call_int1 (by rfl) (n_int T) boot_int (pa_cons (pe_op op_mul (pv 3) (pe_op op_add (pe_op op_fdivN (pv 3) pe_int) pe_int)) pa_nil)) pe_int))
      (pss_one (ps_ret (pe_op op_modN (pe_op op_modN (pe_callTy call_int1 (by rfl) (n_int T) boot_int (pa_cons (pe_op op_mul (pv 3) (pe_op op_add (pe_op op_fdivN (pv 3) pe_int) pe_int)) pa_nil)) pe_int) (pv 1)))))))), ?_⟩
    have hn0 : (0 : Int) < (n : Int) := by omega
    have fin : ∀ (x : Int) (H' : Hp), SameB p H H' → Wl H' p → Q (.int (x.fmod (n : Int))) H' := by
      intro x H' s1 w1
      obtain ⟨h2, h3⟩ := fmod_rng x hn0
      have := kk H' (x.fmod (n : Int)).toNat s1 w1 (by omega)
      rw [Int.toNat_of_nonneg h2] at this
      exact this
    refine ⟨_, rfl, p, _, 0, _, rfl, rfl, SqL.of hp, rfl, _, _, rfl, rfl, ⟨by decide, by decide, by decide⟩, _, _, rfl, rfl, _, rfl, ?_⟩
    refine ite2 (fun y => ?_) (fun y => ?_)
    · refine ⟨_, rfl, p, _, 0, _, rfl, rfl, SqL.of hp, rfl, .inl ⟨_, rfl, _, rfl, _, _, rfl, rfl, by omega, ?_⟩⟩
      refine ⟨_, rfl, p, _, 0, _, rfl, rfl, SqL.of hp, rfl, _, rfl, _, _, rfl, rfl, wide_div (b := 30) hn0 (by omega) (by decide) (by decide), ?_⟩
      refine ⟨_, rfl, p, _, 0, 0, rfl, rfl, hp, rfl, _, rfl, ?_⟩
      exact fin a _ .up ⟨_, b, c, upd_same⟩
    · refine ⟨_, rfl, p, _, 2, _, rfl, rfl, SqL.of hp, rfl, _, _, rfl, rfl, ?_⟩
      refine ⟨_, rfl, p, _, 2, 2, rfl, rfl, hp, rfl, ?_⟩
      have hp2 : upd H p (.lst [.int a, .int b, .int (c + 1)]) p = some (.lst [.int a, .int b, .int (c + 1)]) := upd_same
      have hq2 : SameB p H (upd H p (.lst [.int a, .int b, .int (c + 1)])) := .up
      generalize hH2 : upd H p (.lst [.int a, .int b, .int (c + 1)]) = H2 at hp2 hq2
      have hH2' : upd H p (.lst ([V.int a, .int b, .int c].set 2 (.int (c + 1)))) = H2 := hH2
      have hs : SqL K (upd H p (.lst ([V.int a, .int b, .int c].set 2 (.int (c + 1))))) p [.int a, .int b, .int (c + 1)] := SqL.of (by rw [hH2']; exact hp2)
      refine ⟨_, rfl, p, _, 1, V.int b, rfl, rfl, hs, rfl, .inl ⟨_, rfl, _, _, rfl, rfl, (show (2147483629 : Int) ≠ 0 by decide), ?_⟩⟩
      refine ⟨_, rfl, p, _, 2, V.int (c + 1), rfl, rfl, hs, rfl, _, _, rfl, rfl, .inl ⟨by decide, by decide⟩, ?_⟩
      refine ⟨_, _, rfl, rfl, _, _, rfl, rfl, _, _, rfl, rfl, .inr ⟨by decide, by decide⟩, .inl ⟨_, rfl, _, _, rfl, rfl, (show (2147483647 : Int) ≠ 0 by decide), ?_⟩⟩
      obtain ⟨m1, m2⟩ := fmod_rng ((b.fmod 2147483629 + 60013 * (c + 1) + 11) * 48271) (b := 2147483647) (by decide)
      generalize ((b.fmod 2147483629 + 60013 * (c + 1) + 11) * 48271).fmod 2147483647 = x1 at m1 m2 ⊢
      refine ⟨_, rfl, _, rfl, _, _, rfl, rfl, ⟨by decide, by decide⟩, _, _, rfl, rfl, _, _, rfl, rfl, .inl ⟨Int.lt_of_lt_of_le (by decide) (fmod_rng _ (by decide)).1, Int.lt_trans (fmod_rng _ (by decide)).2 (by decide)⟩, .inl ⟨_, rfl, _, _, rfl, rfl, (show (2147483587 : Int) ≠ 0 by decide), ?_⟩⟩
      obtain ⟨m3, m4⟩ := fmod_rng (x1 * (x1.fdiv 1013 + 40692)) (b := 2147483587) (by decide)
      generalize (x1 * (x1.fdiv 1013 + 40692)).fmod 2147483587 = x2 at m3 m4 ⊢
      refine ⟨_, rfl, _, rfl, _, _, rfl, rfl, ⟨by decide, by decide⟩, _, _, rfl, rfl, _, _, rfl, rfl, .inl ⟨Int.lt_of_lt_of_le (by decide) (fmod_rng _ (by decide)).1, Int.lt_trans (fmod_rng _ (by decide)).2 (by decide)⟩, .inl ⟨_, rfl, _, _, rfl, rfl, (show (2147483563 : Int) ≠ 0 by decide), _, rfl, _, _, rfl, rfl, by omega, ?_⟩⟩
      exact fin _ _ (by rw [hH2']; exact hq2) ⟨a, b, c + 1, by rw [hH2', hp2]⟩
/-- one of a list -/
def spOne : Sp := fun vs H Q _ => ∃ (p q : Addr) (xs : List V), vs = [.ref p, .ref q] ∧ Wl H p ∧ q ≠ p ∧ H q = some (.lst xs) ∧ 1 ≤ xs.length ∧ xs.length ≤ 1000 ∧
  ∀ H' (x : V), SameB p H H' → Wl H' p → x ∈ xs → Q x H'
theorem ok_Lone (T : Tx w K mg) : Ok P w K mg base CX0 2 (He.fAd K d_Lone.at_) p_Lone spOne := by
  obtain ⟨fd, F⟩ := f_Lone T
  obtain ⟨fD, GD, bD, kD⟩ := ok_Ldraw (P := P) (base := base) T
  refine ⟨fd, ?_, b_Lone F, F.kp⟩
  refine F.ok sc_Lone (fun vs H Q E h => ?_) (fun cdv A outer s H vs Q E hr h => ?_)
  · obtain ⟨p, q, xs, rfl, _⟩ := h
    rfl
  · obtain ⟨p, q, xs, rfl, hw, hqp, hq, h1, h2, kk⟩ := h
    refine ⟨_, PSs.nox (pss_one (ps_ret (pe_ix ix_list (pv 1) (pe_call (E := E0) GD (hr.mono (by decide)) (by rfl) (g_Ldraw T) kD bD .nil pass0 (pa_cons (pv 0) (pa_cons (pe_callB call_len (by rfl) (n_len T) PySem.boot_len (pa_cons (pv 1) pa_nil)) pa_nil))) (fun _ _ => rfl)))), ?_⟩
    refine ⟨_, rfl, _, rfl, _, rfl, _, xs.length, rfl, .inl ⟨_, SqL.of hq, rfl⟩, p, xs.length, rfl, hw, h1, by omega, fun H' k s1 w1 hk => ?_⟩
    have hq1 := s1 q _ hqp hq
    have hx : xs[k]? = some (xs[k]'hk) := List.getElem?_eq_getElem hk
    exact ⟨q, xs, (k : Int), xs[k]'hk, rfl, rfl, SqL.of hq1, atI_nat hx, kk H' _ s1 w1 (List.getElem_mem hk)⟩
/-- a new source of draws -/
def spState (K : PySem.W.Frag) : Sp := fun vs H Q _ => ∃ (a : Addr) (k : Nat) (ns : List Int), vs = [.ref a, .int (k : Int)] ∧ SqL K H a (ns.map V.int) ∧ k < 1000 ∧ ∀ H' p, Same H H' → H p = none → Wl H' p → Q (.ref p) H'
theorem ok_Lstate (T : Tx w K mg) : Ok P w K mg base CX0 1 (He.fAd K d_Lstate.at_) p_Lstate (spState K) := by
  obtain ⟨fd, F⟩ := f_Lstate T
  refine ⟨fd, ?_, b_Lstate F, F.kp⟩
  refine F.ok sc_Lstate (fun vs H Q E h => ?_) (fun cdv A outer s H vs Q E hr h => ?_)
  · obtain ⟨a, k, ns, rfl, _⟩ := h
    rfl
  · obtain ⟨a, k, ns, rfl, ha, hk, kk⟩ := h
    have nd := sc_Lstate.nd
    refine ⟨_, PSs.nox (pss_cons (ps_set (i := 2) nd rfl (.inl rfl) (pe_ifExp (pt_cmpR op_lt (pv 1) (pe_callB call_len (by rfl) (n_len T) PySem.boot_len (pa_cons (pv 0) pa_nil)) (nomark _)) (pe_ix ix_list (pv 0) (pv 1) (fun _ _ => rfl)) (pe_op op_add (pe_op op_mul pe_int (pv 1)) pe_int)))
      (pss_one (ps_ret (pe_lst (pa_cons (pe_callB call_abs (by rfl) (n_abs T) boot_abs (pa_cons (pv 2) pa_nil)) (pa_cons (pe_op op_add (pe_callB call_abs (by rfl) (n_abs T) boot_abs (pa_cons (pv 2) pa_nil)) (pe_op op_mul pe_int (pv 1))) (pa_cons pe_int pa_nil))))))), ?_⟩
    refine ⟨_, rfl, _, rfl, _, (ns.map V.int).length, rfl, .inl ⟨_, ha, rfl⟩, _, _, rfl, rfl, _, rfl, ?_⟩
    refine ite2 (fun y => ?_) (fun y => ?_)
    · have hk2 : k < ns.length := by
        have h1 := of_decide_eq_true y
        rw [List.length_map] at h1
        omega
      have hx : (ns.map V.int)[k]? = some (.int ns[k]) := by
        rw [List.getElem?_map, List.getElem?_eq_getElem hk2]
        rfl
      exact ⟨_, rfl, _, rfl, a, _, (k : Int), _, rfl, rfl, ha, atI_nat hx, _, rfl, _, rfl, _, rfl, _, rfl, _, rfl, _, _, rfl, rfl, .inl ⟨by decide, by decide⟩, _, _, rfl, rfl, (by show 3 ≤ sizeLine; decide), fun p hp => kk _ p (same_new hp) hp ⟨_, _, _, upd_same⟩⟩
    · exact ⟨_, rfl, _, _, rfl, rfl, .inl ⟨by decide, by decide⟩, _, _, rfl, rfl, _, rfl, _, rfl, _, rfl, _, rfl, _, rfl, _, _, rfl, rfl, .inl ⟨by decide, by decide⟩, _, _, rfl, rfl, (by show 3 ≤ sizeLine; decide), fun p hp => kk _ p (same_new hp) hp ⟨_, _, _, upd_same⟩⟩
end
end PX
/-! PQk -/
namespace PX
open PySem PySem.Spec PyProof.Rows L2 TL
theorem tl_add (a b : Str) : tl (a ++ b) = tl a ++ tl b := by
  show (a.cps ++ b.cps).toList = _
  rw [Array.toList_append]
theorem len_add (a b : Str) : (a ++ b).length = a.length + b.length := by
  rw [len_tl, tl_add, List.length_append, ← len_tl, ← len_tl]
theorem SameB.updN {p L : Addr} {H H1 : Hp} {o : HO} (s : SameB p H H1) (hL : H L = none) : SameB p H (upd H1 L o) := fun a u hne e => by
  rw [upd_ne (ne_of_none e hL)]
  exact s a u hne e
/-! ### the text of the arguments and the places, one more at the end -/
def sepL (as : List Ar) : List Nat := if as.isEmpty then [] else [44]
theorem txA_true : ∀ (as : List Ar) (b : Ar), txA true (as ++ [b]) = txA true as ++ (44 :: b.cs)
  | [], b => by
    show [44] ++ (b.cs ++ []) = [] ++ (44 :: b.cs)
    rw [List.append_nil]
    rfl
  | a :: as, b => by
    show [44] ++ (a.cs ++ txA true (as ++ [b])) = ([44] ++ (a.cs ++ txA true as)) ++ (44 :: b.cs)
    rw [txA_true as b, List.append_assoc, List.append_assoc]
theorem txA_snoc (as : List Ar) (b : Ar) : txA false (as ++ [b]) = (txA false as ++ sepL as) ++ b.cs := by
  cases as with
  | nil =>
    show [] ++ (b.cs ++ []) = ([] ++ []) ++ b.cs
    rw [List.append_nil]
    rfl
  | cons a as =>
    show [] ++ (a.cs ++ txA true (as ++ [b])) = (([] ++ (a.cs ++ txA true as)) ++ [44]) ++ b.cs
    rw [txA_true]
    simp only [List.nil_append, List.append_assoc, List.cons_append]
/-- the places but the last -/
def spJ : Nat → List Ar → List Nat
  | _, [] => []
  | i, a :: as => i :: (i + 1 + a.1.length) :: spJ (i + 1 + a.cs.length) as
def spI (p : Nat) : List Ar → List Nat
  | [] => [p]
  | a :: as => p :: (p + 1 + a.1.length) :: spJ (p + 1 + a.cs.length) as
theorem spA_end : ∀ (as : List Ar) (i : Nat), spA i as = spJ i as ++ [i + (txA true as).length]
  | [], i => rfl
  | a :: as, i => by
    show i :: (i + 1 + a.1.length) :: spA (i + 1 + a.cs.length) as = (i :: (i + 1 + a.1.length) :: spJ (i + 1 + a.cs.length) as) ++ [i + ([44] ++ (a.cs ++ txA true as)).length]
    rw [spA_end as]
    have : i + 1 + a.cs.length + (txA true as).length = i + ([44] ++ (a.cs ++ txA true as)).length := by
      simp only [List.length_append, List.length_cons, List.length_nil]
      omega
    rw [this]
    rfl
theorem spO_end (p : Nat) (as : List Ar) : spO p as = spI p as ++ [p + 1 + (txA false as).length] := by
  cases as with
  | nil => rfl
  | cons a as =>
    show p :: (p + 1 + a.1.length) :: spA (p + 1 + a.cs.length) as = (p :: (p + 1 + a.1.length) :: spJ (p + 1 + a.cs.length) as) ++ [p + 1 + ([] ++ (a.cs ++ txA true as)).length]
    rw [spA_end]
    have : p + 1 + a.cs.length + (txA true as).length = p + 1 + ([] ++ (a.cs ++ txA true as)).length := by
      simp only [List.length_append, List.length_nil]
      omega
    rw [this]
    rfl
theorem spJ_snoc : ∀ (as : List Ar) (i : Nat) (b : Ar), spJ i (as ++ [b]) = spJ i as ++ [i + (txA true as).length, i + (txA true as).length + 1 + b.1.length]
  | [], i, b => rfl
  | a :: as, i, b => by
    show i :: (i + 1 + a.1.length) :: spJ (i + 1 + a.cs.length) (as ++ [b]) = (i :: (i + 1 + a.1.length) :: spJ (i + 1 + a.cs.length) as) ++ [i + ([44] ++ (a.cs ++ txA true as)).length, i + ([44] ++ (a.cs ++ txA true as)).length + 1 + b.1.length]
    rw [spJ_snoc as]
    have : i + 1 + a.cs.length + (txA true as).length = i + ([44] ++ (a.cs ++ txA true as)).length := by
      simp only [List.length_append, List.length_cons, List.length_nil]
      omega
    rw [this]
    rfl
def spS (p : Nat) (as : List Ar) : List Nat := if as.isEmpty then [] else [p + 1 + (txA false as).length]
theorem spI_snoc (p : Nat) (as : List Ar) (b : Ar) : spI p (as ++ [b]) = (spI p as ++ spS p as) ++ [p + 1 + (txA false as ++ sepL as).length + b.1.length] := by
  cases as with
  | nil => rfl
  | cons a as =>
    show p :: (p + 1 + a.1.length) :: spJ (p + 1 + a.cs.length) (as ++ [b]) = ((p :: (p + 1 + a.1.length) :: spJ (p + 1 + a.cs.length) as) ++ [p + 1 + ([] ++ (a.cs ++ txA true as)).length]) ++ [p + 1 + (([] ++ (a.cs ++ txA true as)) ++ [44]).length + b.1.length]
    rw [spJ_snoc]
    have h1 : p + 1 + a.cs.length + (txA true as).length = p + 1 + ([] ++ (a.cs ++ txA true as)).length := by
      simp only [List.length_append, List.length_nil]
      omega
    have h2 : p + 1 + a.cs.length + (txA true as).length + 1 + b.1.length = p + 1 + (([] ++ (a.cs ++ txA true as)) ++ [44]).length + b.1.length := by
      simp only [List.length_append, List.length_nil, List.length_cons]
      omega
    rw [h2, h1]
    simp only [List.append_assoc, List.cons_append, List.nil_append]
theorem cs_len {a : Ar} (h : a.Gd) : a.cs.length ≤ 8 := by
  obtain ⟨p, x, q⟩ := a
  obtain ⟨h1, h2, h3⟩ := h
  have e1 : ∀ l ∈ b2, l.length ≤ 1 := by decide
  have e2 : ∀ l ∈ a9, l.length ≤ 6 := by decide
  have g1 : p.length ≤ 1 := e1 _ h1
  have g2 : q.length ≤ 1 := e1 _ h3
  have g3 : x.length ≤ 6 := e2 _ h2
  show (p ++ (x ++ q)).length ≤ 8
  simp only [List.length_append]
  omega
theorem txT_len : ∀ (as : List Ar), (∀ a ∈ as, a.Gd) → (txA true as).length ≤ 9 * as.length
  | [], _ => Nat.le_refl _
  | a :: as, h => by
    have h1 := cs_len (h a List.mem_cons_self)
    have h2 := txT_len as fun b hb => h b (List.mem_cons_of_mem _ hb)
    show ([44] ++ (a.cs ++ txA true as)).length ≤ 9 * (as.length + 1)
    simp only [List.length_append, List.length_cons, List.length_nil]
    omega
theorem txF_len : ∀ (as : List Ar), (∀ a ∈ as, a.Gd) → (txA false as).length ≤ 9 * as.length
  | [], _ => Nat.le_refl _
  | a :: as, h => by
    have h1 := cs_len (h a List.mem_cons_self)
    have h2 := txT_len as fun b hb => h b (List.mem_cons_of_mem _ hb)
    show ([] ++ (a.cs ++ txA true as)).length ≤ 9 * (as.length + 1)
    simp only [List.length_append, List.length_nil]
    omega
theorem spJ_len : ∀ (as : List Ar) (i : Nat), (spJ i as).length = 2 * as.length
  | [], _ => rfl
  | a :: as, i => by
    show (spJ _ as).length + 1 + 1 = 2 * (as.length + 1)
    rw [spJ_len as]
    omega
theorem spI_len (p : Nat) (as : List Ar) : (spI p as).length ≤ 2 * as.length + 1 := by
  cases as with
  | nil => exact Nat.le_refl _
  | cons a as =>
    show (spJ _ as).length + 1 + 1 ≤ 2 * (as.length + 1) + 1
    rw [spJ_len]
    omega
def nV (l : List Nat) : List V := l.map fun n : Nat => V.int (n : Int)
theorem nV_add (a b : List Nat) : nV (a ++ b) = nV a ++ nV b := List.map_append
/-! ### what is picked -/
theorem pick2 {x : V} (h : x ∈ [V.str (Str.ofString ""), .str (Str.ofString " ")]) : ∃ y : Str, x = .str y ∧ tl y ∈ b2 := by
  simp only [List.mem_cons, List.not_mem_nil, or_false] at h
  rcases h with rfl | rfl <;> exact ⟨_, rfl, by decide +kernel⟩
theorem pick3 {x : V} (h : x ∈ [V.str (Str.ofString ""), .str (Str.ofString ""), .str (Str.ofString " ")]) : ∃ y : Str, x = .str y ∧ tl y ∈ b2 := by
  simp only [List.mem_cons, List.not_mem_nil, or_false] at h
  rcases h with rfl | rfl | rfl <;> exact ⟨_, rfl, by decide +kernel⟩
theorem pick9 {x : V} (h : x ∈ [V.str (Str.ofString "a"), .str (Str.ofString "'b, c'"), .str (Str.ofString "1"), .str (Str.ofString "$d"), .str (Str.ofString "/"), .str (Str.ofString "e[1]"), .str (Str.ofString "name()"), .str (Str.ofString "-2"), .str (Str.ofString "*")]) : ∃ y : Str, x = .str y ∧ tl y ∈ a9 := by
  simp only [List.mem_cons, List.not_mem_nil, or_false] at h
  rcases h with rfl | rfl | rfl | rfl | rfl | rfl | rfl | rfl | rfl <;> exact ⟨_, rfl, by decide +kernel⟩
theorem b2_len {y : Str} (h : tl y ∈ b2) : y.length ≤ 1 := by
  rw [len_tl]
  exact (show ∀ l ∈ b2, l.length ≤ 1 by decide) _ h
theorem a9_len {y : Str} (h : tl y ∈ a9) : y.length ≤ 6 := by
  rw [len_tl]
  exact (show ∀ l ∈ a9, l.length ≤ 6 by decide) _ h
end PX
/-! PQl -/
namespace PX
open PySem PySem.Spec PyProof.Rows L2 TL
section
variable {P : Program} {w : World} {K : PySem.W.Frag} {mg : Str → Option Value} {base : Heap}
def spCall : Sp := fun vs H Q _ => ∃ (p : Addr) (wd : Str) (n : Nat), vs = [.ref p, .str wd, .int (n : Int)] ∧ Wl H p ∧ wd.length ≤ 100 ∧ n ≤ 4 ∧
  ∀ H' (t L : Addr) (z : Str) (a0 a1 : List Nat) (as : List Ar), SameB p H H' → Wl H' p → H t = none → H' t = some (.tup [.str z, .ref L]) → H' L = some (.lst (nV (spO (a0.length + (tl wd).length + a1.length) as))) →
    a0 ∈ b2 → a1 ∈ b2 → (∀ a ∈ as, a.Gd) → as.length = n → tl z = calL a0 (tl wd) a1 as → Q (.ref t) H'
theorem ok_Lcall (T : Tx w K mg) : Ok P w K mg base CX0 3 (He.fAd K d_Lcall.at_) p_Lcall spCall := by
  obtain ⟨fd, F⟩ := f_Lcall T
  obtain ⟨fO, GO, bO, kO⟩ := ok_Lone (P := P) (base := base) T
  refine ⟨fd, ?_, b_Lcall F, F.kp⟩
  refine F.ok sc_Lcall (fun vs H Q E h => ?_) (fun cdv A outer s H vs Q E hr h => ?_)
  · obtain ⟨p, wd, n, rfl, _⟩ := h
    rfl
  · obtain ⟨p, wd, n, rfl, hw, hwl, hn, kk⟩ := h
    have nd := sc_Lcall.nd
    refine ⟨_, PSs.nox (pss_cons (ps_set (i := 3) nd rfl (.inl rfl) (pe_op op_add_str (pe_call (E := E0) GO (hr.mono (by decide)) (by rfl) (g_Lone T) kO bO .nil pass0 (pa_cons (pv 0) (pa_cons (pe_lst (pa_cons pe_str (pa_cons pe_str pa_nil))) pa_nil))) (pv 1)))
      (pss_cons (ps_set (i := 3) nd rfl (.inl rfl) (pe_op op_add_str (pv 3) (pe_call (E := E0) GO (hr.mono (by decide)) (by rfl) (g_Lone T) kO bO .nil pass0 (pa_cons (pv 0) (pa_cons (pe_lst (pa_cons pe_str (pa_cons pe_str (pa_cons pe_str pa_nil)))) pa_nil)))))
      (pss_cons (ps_set (i := 4) nd rfl (.inl rfl) (pe_lst (pa_cons (pe_callB call_len (by rfl) (n_len T) PySem.boot_len (pa_cons (pv 3) pa_nil)) pa_nil)))
      (pss_cons (ps_set (i := 3) nd rfl (.inl rfl) (pe_op op_add_str (pv 3) pe_str))
      (pss_cons (ps_for PassesOwn.never rfl (pi_range1 (by rfl) (n_range T) (pa_cons (pv 2) pa_nil)) (pg_name (i := 5) nd rfl (.inl rfl))
        (Evl.pss_cut (ps_if (pt_cmpR op_gt (pv 5) pe_int (nomark _))
            (pss_cons (ps_expr (pe_bm PySem.F.plainAttrs_list PySem.F.slot_list_append PySem.F.type_list_append mt_append (pv 4) (pa_cons (pe_callB call_len (by rfl) (n_len T) PySem.boot_len (pa_cons (pv 3) pa_nil)) pa_nil)))
            (pss_one (ps_set (i := 3) nd rfl (.inl rfl) (pe_op op_add_str (pv 3) pe_str)))) pss_nil)
        (pss_cons (ps_set (i := 3) nd rfl (.inl rfl) (pe_op op_add_str (pv 3) (pe_call (E := E0) GO (hr.mono (by decide)) (by rfl) (g_Lone T) kO bO .nil pass0 (pa_cons (pv 0) (pa_cons (pe_lst (pa_cons pe_str (pa_cons pe_str pa_nil))) pa_nil)))))
        (pss_cons (ps_expr (pe_bm PySem.F.plainAttrs_list PySem.F.slot_list_append PySem.F.type_list_append mt_append (pv 4) (pa_cons (pe_callB call_len (by rfl) (n_len T) PySem.boot_len (pa_cons (pv 3) pa_nil)) pa_nil)))
        (pss_cons (ps_set (i := 3) nd rfl (.inl rfl) (pe_op op_add_str (pv 3) (pe_call (E := E0) GO (hr.mono (by decide)) (by rfl) (g_Lone T) kO bO .nil pass0 (pa_cons (pv 0) (pa_cons (pe_lst (pa_cons pe_str (pa_cons pe_str (pa_cons pe_str (pa_cons pe_str (pa_cons pe_str (pa_cons pe_str (pa_cons pe_str (pa_cons pe_str (pa_cons pe_str pa_nil)))))))))) pa_nil)))))
        (pss_one (ps_set (i := 3) nd rfl (.inl rfl) (pe_op op_add_str (pv 3) (pe_call (E := E0) GO (hr.mono (by decide)) (by rfl) (g_Lone T) kO bO .nil pass0 (pa_cons (pv 0) (pa_cons (pe_lst (pa_cons pe_str (pa_cons pe_str pa_nil))) pa_nil)))))))))))
      (pss_cons (ps_expr (pe_bm PySem.F.plainAttrs_list PySem.F.slot_list_append PySem.F.type_list_append mt_append (pv 4) (pa_cons (pe_callB call_len (by rfl) (n_len T) PySem.boot_len (pa_cons (pv 3) pa_nil)) pa_nil)))
      (pss_one (ps_ret (pe_tup (pa_cons (pe_op op_add_str (pv 3) pe_str) (pa_cons (pv 4) pa_nil))))))))))), ?_⟩
    -- text
    refine ⟨_, rfl, by decide, fun q hq => ?_⟩
    have hqp := hw.ne hq
    have sq : Same H (upd H q (.lst [.str (Str.ofString ""), .str (Str.ofString " ")])) := same_new hq
    refine ⟨p, q, [.str (Str.ofString ""), .str (Str.ofString " ")], rfl, hw.at sq, hqp, upd_same, by decide, by decide, fun H1 x1 s1 hw1 hx1 => ?_⟩
    obtain ⟨y0, rfl, hy0⟩ := pick2 hx1
    have l0 := b2_len hy0
    have b1 : SameB p H H1 := (SameB.of sq).trans s1
    refine ⟨_, rfl, _, _, rfl, rfl, (by rw [sizeLine_eq]; omega), ?_⟩
    refine ⟨_, rfl, _, rfl, by decide, fun q2 hq2 => ?_⟩
    have hqp2 := hw1.ne hq2
    have sq2 : Same H1 (upd H1 q2 (.lst [.str (Str.ofString ""), .str (Str.ofString ""), .str (Str.ofString " ")])) := same_new hq2
    refine ⟨p, q2, [.str (Str.ofString ""), .str (Str.ofString ""), .str (Str.ofString " ")], rfl, hw1.at sq2, hqp2, upd_same, by decide, by decide, fun H2 x2 s2 hw2 hx2 => ?_⟩
    obtain ⟨y1, rfl, hy1⟩ := pick3 hx2
    have l1 := b2_len hy1
    have b2' : SameB p H H2 := (b1.trans (.of sq2)).trans s2
    have e01 : (y0 ++ wd).length = y0.length + wd.length := len_add _ _
    refine ⟨_, _, rfl, rfl, (by rw [sizeLine_eq]; omega), ?_⟩
    have e012 : ((y0 ++ wd) ++ y1).length = y0.length + wd.length + y1.length := by rw [len_add, e01]
    refine ⟨_, rfl, _, ((y0 ++ wd) ++ y1).length, rfl, ⟨(by rw [sizeLine_eq]; omega), rfl⟩, (by show 1 ≤ sizeLine; decide), fun L hL => ?_⟩
    have hLH : H L = none := by
      cases q : H L with
      | none => rfl
      | some u =>
        by_cases hLp : L = p
        · subst hLp
          exact absurd rfl (hw2.ne hL)
        · have := b2' _ _ hLp q
          rw [hL] at this
          cases this
    have hLp : L ≠ p := hw2.ne hL
    have sL : Same H2 (upd H2 L (.lst [.int (((y0 ++ wd) ++ y1).length : Int)])) := same_new hL
    have eL : upd H2 L (.lst [.int (((y0 ++ wd) ++ y1).length : Int)]) L = some (.lst (nV [((y0 ++ wd) ++ y1).length])) := upd_same
    have b3 : SameB p H (upd H2 L (.lst [.int (((y0 ++ wd) ++ y1).length : Int)])) := b2'.trans (.of sL)
    have hw3 := hw2.at sL
    generalize upd H2 L (.lst [.int (((y0 ++ wd) ++ y1).length : Int)]) = H3 at sL eL b3 hw3 ⊢
    refine ⟨_, rfl, _, _, rfl, rfl, (by rw [sizeLine_eq, e012]; show _ + 1 ≤ _; omega), ?_⟩
    have hP : ((y0 ++ wd) ++ y1).length = (tl y0).length + (tl wd).length + (tl y1).length := by
      rw [e012, len_tl y0, len_tl wd, len_tl y1]
    have e3 : tl (((y0 ++ wd) ++ y1) ++ Str.ofString "(") = tl y0 ++ (tl wd ++ (tl y1 ++ [40])) := by
      have : tl (Str.ofString "(") = [40] := rfl
      rw [tl_add, tl_add, tl_add, this]
      simp only [List.append_assoc]
    rw [hP] at eL
    generalize (((y0 ++ wd) ++ y1) ++ Str.ofString "(") = z3 at e3 ⊢
    obtain ⟨hd, hhd⟩ : ∃ l, l = tl y0 ++ (tl wd ++ (tl y1 ++ [40])) := ⟨_, rfl⟩
    rw [← hhd] at e3
    obtain ⟨P0, hP0⟩ : ∃ m, m = (tl y0).length + (tl wd).length + (tl y1).length := ⟨_, rfl⟩
    rw [← hP0] at eL
    have hhl : hd.length = P0 + 1 := by
      rw [hhd, hP0]
      simp only [List.length_append, List.length_cons, List.length_nil]
      omega
    have hPs : P0 ≤ 200 := by
      rw [hP0, ← len_tl, ← len_tl, ← len_tl]
      omega
    refine ⟨_, rfl, (n : Int), rfl, by omega, by omega, ?_⟩
    refine for_it walk_range (fun k σ H4 => ∃ (z : Str) (as : List Ar) (v5 : Option V), SameB p H H4 ∧ Wl H4 p ∧ σ = [some (.ref p), some (.str wd), some (.int (n : Int)), some (.str z), some (.ref L), v5] ∧ H4 L = some (.lst (nV (spI P0 as))) ∧ (∀ a ∈ as, a.Gd) ∧ as.length = k ∧ tl z = hd ++ txA false as)
      ⟨z3, [], _, b3, hw3, rfl, eL, (fun _ h => by cases h), rfl, by rw [e3]; exact (List.append_nil hd).symm⟩ (fun _ _ _ _ _ => trivial) ?_ ?_
    · rintro k x σ H4' H4 hk ⟨z, as, v5, b4, hw4, rfl, e4, hg, hk2, hz⟩ ⟨rfl, rfl⟩
      have hk4 : k < 4 := by
        have : k < ((n : Int)).toNat := hk
        omega
      have htx := txF_len as hg
      have hzl : z.length ≤ 300 := by
        rw [len_tl, hz, List.length_append]
        omega
      refine ⟨fun σ H5 => ∃ (z' : Str) (u5 : Option V), σ = [some (.ref p), some (.str wd), some (.int (n : Int)), some (.str z'), some (.ref L), u5] ∧ SameB p H H5 ∧ Wl H5 p ∧ H5 L = some (.lst (nV (spI P0 as ++ spS P0 as))) ∧ tl z' = hd ++ (txA false as ++ sepL as), ?_, ?_⟩
      · refine ⟨_, rfl, _, _, rfl, rfl, _, rfl, ?_⟩
        cases as with
        | nil =>
          have hk0 : k = 0 := hk2.symm
          subst hk0
          refine iteF ?_
          exact ⟨z, _, rfl, b4, hw4, e4, hz⟩
        | cons a as =>
          have hk1 : 0 < k := by rw [← hk2]; exact Nat.succ_pos _
          refine iteT ?_ (decide_eq_true (by omega))
          refine ⟨_, rfl, .inl ⟨rfl, _, SqL.of e4⟩, _, rfl, _, z.length, rfl, ⟨(by rw [sizeLine_eq]; omega), rfl⟩, L, _, _, rfl, rfl, e4, ?_, ?_⟩
          · have := spI_len P0 (a :: as)
            unfold nV
            rw [List.length_map, sizeLine_eq]
            omega
          have b5 : SameB p H (upd H4 L (.lst (nV (spI P0 (a :: as)) ++ [V.int (z.length : Int)]))) := b4.updN hLH
          have hw5 : Wl (upd H4 L (.lst (nV (spI P0 (a :: as)) ++ [V.int (z.length : Int)]))) p := by
            obtain ⟨u1, u2, u3, hu⟩ := hw4
            exact ⟨u1, u2, u3, by rw [upd_ne (Ne.symm hLp)]; exact hu⟩
          have e5 : upd H4 L (.lst (nV (spI P0 (a :: as)) ++ [V.int (z.length : Int)])) L = some (.lst (nV (spI P0 (a :: as) ++ spS P0 (a :: as)))) := by
            rw [upd_same, nV_add]
            have : z.length = P0 + 1 + (txA false (a :: as)).length := by rw [len_tl, hz, List.length_append, hhl]
            rw [this]
            rfl
          refine ⟨_, rfl, _, _, rfl, rfl, (by rw [sizeLine_eq]; show _ + 1 ≤ _; omega), ?_⟩
          refine ⟨_, _, rfl, b5, hw5, e5, ?_⟩
          have : tl (Str.ofString ",") = [44] := rfl
          rw [tl_add, hz, this, List.append_assoc]
          rfl
      · rintro σ H5 ⟨z', u5, rfl, b5, hw5, e5, hz'⟩
        have hzl' : z'.length ≤ 300 := by
          have : (sepL as).length ≤ 1 := by
            unfold sepL
            split
            · exact Nat.zero_le _
            · exact Nat.le_refl _
          rw [len_tl, hz', List.length_append, List.length_append]
          omega
        -- the blanks ahead
        refine ⟨_, rfl, _, rfl, by decide, fun q3 hq3 => ?_⟩
        have hqp3 := hw5.ne hq3
        have sq3 : Same H5 (upd H5 q3 (.lst [.str (Str.ofString ""), .str (Str.ofString " ")])) := same_new hq3
        have hqL3 : q3 ≠ L := fun e => by
          rw [e, e5] at hq3
          cases hq3
        refine ⟨p, q3, [.str (Str.ofString ""), .str (Str.ofString " ")], rfl, hw5.at sq3, hqp3, upd_same, by decide, by decide, fun H6 x6 s6 hw6 hx6 => ?_⟩
        obtain ⟨y6, rfl, hy6⟩ := pick2 hx6
        have l6 := b2_len hy6
        have b6 : SameB p H H6 := (b5.trans (.of sq3)).trans s6
        have e6 : H6 L = some (.lst (nV (spI P0 as ++ spS P0 as))) := s6 _ _ hLp (sq3 _ _ e5)
        refine ⟨_, _, rfl, rfl, (by rw [sizeLine_eq]; omega), ?_⟩
        have t6 : tl (z' ++ y6) = hd ++ ((txA false as ++ sepL as) ++ tl y6) := by rw [tl_add, hz', List.append_assoc]
        have n6 : (z' ++ y6).length ≤ 301 := by
          rw [len_add]
          omega
        have n6' : (z' ++ y6).length = P0 + 1 + (txA false as ++ sepL as).length + (tl y6).length := by
          rw [len_tl, t6, List.length_append, List.length_append, hhl]
          omega
        generalize z' ++ y6 = z6 at t6 n6 n6' ⊢
        -- the place
        refine ⟨_, rfl, .inl ⟨rfl, _, SqL.of e6⟩, _, rfl, _, z6.length, rfl, ⟨(by rw [sizeLine_eq]; omega), rfl⟩, L, _, _, rfl, rfl, e6, ?_, ?_⟩
        · have h1 := spI_len P0 as
          have h2 : (spS P0 as).length ≤ 1 := by
            unfold spS
            split
            · exact Nat.zero_le _
            · exact Nat.le_refl _
          unfold nV
          rw [List.length_map, List.length_append, sizeLine_eq]
          omega
        have b7 : SameB p H (upd H6 L (.lst (nV (spI P0 as ++ spS P0 as) ++ [V.int (z6.length : Int)]))) := b6.updN hLH
        have hw7 : Wl (upd H6 L (.lst (nV (spI P0 as ++ spS P0 as) ++ [V.int (z6.length : Int)]))) p := by
          obtain ⟨u1, u2, u3, hu⟩ := hw6
          exact ⟨u1, u2, u3, by rw [upd_ne (Ne.symm hLp)]; exact hu⟩
        have e7 : upd H6 L (.lst (nV (spI P0 as ++ spS P0 as) ++ [V.int (z6.length : Int)])) L = some (.lst (nV ((spI P0 as ++ spS P0 as) ++ [P0 + 1 + (txA false as ++ sepL as).length + (tl y6).length]))) := by
          rw [upd_same, n6', nV_add (spI P0 as ++ spS P0 as)]
          rfl
        generalize upd H6 L (.lst (nV (spI P0 as ++ spS P0 as) ++ [V.int (z6.length : Int)])) = H7 at b7 hw7 e7 ⊢
        -- the argument
        refine ⟨_, rfl, _, rfl, by decide, fun q8 hq8 => ?_⟩
        have hqp8 := hw7.ne hq8
        have sq8 : Same H7 (upd H7 q8 (.lst [V.str (Str.ofString "a"), .str (Str.ofString "'b, c'"), .str (Str.ofString "1"), .str (Str.ofString "$d"), .str (Str.ofString "/"), .str (Str.ofString "e[1]"), .str (Str.ofString "name()"), .str (Str.ofString "-2"), .str (Str.ofString "*")])) := same_new hq8
        refine ⟨p, q8, [V.str (Str.ofString "a"), .str (Str.ofString "'b, c'"), .str (Str.ofString "1"), .str (Str.ofString "$d"), .str (Str.ofString "/"), .str (Str.ofString "e[1]"), .str (Str.ofString "name()"), .str (Str.ofString "-2"), .str (Str.ofString "*")], rfl, hw7.at sq8, hqp8, upd_same, (by show 1 ≤ 9; decide), (by show 9 ≤ 1000; decide), fun H9 x9 s9 hw9 hx9 => ?_⟩
        obtain ⟨y9, rfl, hy9⟩ := pick9 hx9
        have l9 := a9_len hy9
        have b9 : SameB p H H9 := (b7.trans (.of sq8)).trans s9
        have e9 := s9 _ _ hLp (sq8 _ _ e7)
        refine ⟨_, _, rfl, rfl, (by rw [sizeLine_eq]; omega), ?_⟩
        have n9 : (z6 ++ y9).length ≤ 307 := by
          rw [len_add]
          omega
        -- the blanks behind
        refine ⟨_, rfl, _, rfl, by decide, fun q10 hq10 => ?_⟩
        have hqp10 := hw9.ne hq10
        have sq10 : Same H9 (upd H9 q10 (.lst [.str (Str.ofString ""), .str (Str.ofString " ")])) := same_new hq10
        refine ⟨p, q10, [.str (Str.ofString ""), .str (Str.ofString " ")], rfl, hw9.at sq10, hqp10, upd_same, by decide, by decide, fun H11 x11 s11 hw11 hx11 => ?_⟩
        obtain ⟨y11, rfl, hy11⟩ := pick2 hx11
        have l11 := b2_len hy11
        have b11 : SameB p H H11 := (b9.trans (.of sq10)).trans s11
        have e11 := s11 _ _ hLp (sq10 _ _ e9)
        refine ⟨_, _, rfl, rfl, (by rw [sizeLine_eq]; omega), ?_⟩
        refine ⟨(z6 ++ y9) ++ y11, as ++ [(tl y6, tl y9, tl y11)], _, b11, hw11, rfl, ?_, ?_, ?_, ?_⟩
        · rw [spI_snoc]
          exact e11
        · intro a ha
          rcases List.mem_append.mp ha with h | h
          · exact hg a h
          · rw [List.mem_singleton] at h
            rw [h]
            exact ⟨hy6, hy9, hy11⟩
        · rw [List.length_append, hk2]
          rfl
        · rw [tl_add, tl_add, t6, txA_snoc]
          show ((hd ++ ((txA false as ++ sepL as) ++ tl y6)) ++ tl y9) ++ tl y11 = hd ++ ((txA false as ++ sepL as) ++ (tl y6 ++ (tl y9 ++ tl y11)))
          simp only [List.append_assoc]
    · rintro σ H4 ⟨z, as, v5, b4, hw4, rfl, e4, hg, hk2, hz⟩
      have hk2' : as.length = n := hk2
      have htx := txF_len as hg
      have hzl : z.length = P0 + 1 + (txA false as).length := by rw [len_tl, hz, List.length_append, hhl]
      refine ⟨_, rfl, .inl ⟨rfl, _, SqL.of e4⟩, _, rfl, _, z.length, rfl, ⟨(by rw [sizeLine_eq]; omega), rfl⟩, L, _, _, rfl, rfl, e4, ?_, ?_⟩
      · have := spI_len P0 as
        unfold nV
        rw [List.length_map, sizeLine_eq]
        omega
      have b5 : SameB p H (upd H4 L (.lst (nV (spI P0 as) ++ [V.int (z.length : Int)]))) := b4.updN hLH
      have hw5 : Wl (upd H4 L (.lst (nV (spI P0 as) ++ [V.int (z.length : Int)]))) p := by
        obtain ⟨u1, u2, u3, hu⟩ := hw4
        exact ⟨u1, u2, u3, by rw [upd_ne (Ne.symm hLp)]; exact hu⟩
      have e5 : upd H4 L (.lst (nV (spI P0 as) ++ [V.int (z.length : Int)])) L = some (.lst (nV (spO P0 as))) := by
        rw [upd_same, spO_end, nV_add, hzl]
        rfl
      generalize upd H4 L (.lst (nV (spI P0 as) ++ [V.int (z.length : Int)])) = H5 at b5 hw5 e5 ⊢
      refine ⟨_, rfl, _, _, rfl, rfl, (by rw [sizeLine_eq]; show _ + 1 ≤ _; omega), _, rfl, (by show 2 ≤ sizeLine; decide), fun t ht => ?_⟩
      have st : Same H5 (upd H5 t (.tup [.str (z ++ Str.ofString ")"), .ref L])) := same_new ht
      have htH : H t = none := by
        cases q : H t with
        | none => rfl
        | some u =>
          have := b5 _ _ (hw5.ne ht) q
          rw [ht] at this
          cases this
      refine kk _ t L (z ++ Str.ofString ")") (tl y0) (tl y1) as (b5.trans (.of st)) (hw5.at st) htH upd_same (by rw [← hP0]; exact st _ _ e5) hy0 hy1 hg hk2' ?_
      have : tl (Str.ofString ")") = [41] := rfl
      rw [tl_add, hz, hhd, this]
      unfold calL
      simp only [List.append_assoc, List.cons_append, List.nil_append]
end
end PX
/-! PQm -/
namespace PX
open PySem PySem.Spec PyProof.Rows L2 TL
/-! ### isinstance of a caught error with fields -/
def rIsX (K : PySem.W.Frag) (cls : Value) (d : Option Addr) (a : Addr) : List V → Hp → VK → Prop := fun xs H Q => ∃ (c : V) (cv : Value) (b : Bool) (D dd : Addr) (fs : List (Str × V)), xs = [.ref a, c] ∧ (∀ u, RelV c u → u = cv) ∧ cls = .ref D ∧ ExcC K D ∧ d = some dd ∧ H dd = some (.xd fs) ∧ PySem.W.kitOne K (.ref D) cv = some b ∧ Q (.bl b) H
theorem call_isX {X : Cx} {a : Addr} {oe : Obj} {cls : Value} {d : Option Addr} {pn : List (Addr × Obj)} (hz : Zc cls d oe) (hf : ∃ vs, oe.data = .fields vs) : CallR (X.suite a ((a, oe) :: pn)) (.builtin "isinstance") (rIsX X.K cls d a) := by
  intro pins s σ H xs us Q I r h
  obtain ⟨c, cv, b, D, dd, fs, rfl, hcv, ec, C, ed, ea, e, q⟩ := h
  subst ec
  subst ed
  cases r with
  | cons rx rr =>
    cases rr with
    | cons rt rr =>
      cases rr
      cases rx
      have ec := hcv _ rt
      subst ec
      obtain ⟨hget, _⟩ := I.pin (a, oe) (List.mem_append.mpr (.inl List.mem_cons_self))
      obtain ⟨vs, hv⟩ := hf
      have hx : ObjOk X.prog X.w H s.heap dd (.xd fs) := I.hok dd _ ea
      obtain ⟨mA, hns, hr⟩ := hx
      obtain ⟨od, ho, hl⟩ := lookIn_ns hns
      have J : PySem.W.InstAt s.heap a oe D (some od) := ⟨hget, hz.1, by unfold PySem.W.notCls; rw [hv] <;> rfl, by rw [hz.2]; exact ho⟩
      have hcl : (PySem.W.clsIn X.K D).isSome = true := by
        obtain ⟨cd, hc, _⟩ := PySem.W.any_some C.hd
        rw [hc]
        rfl
      exact PySem.W.kia_one (PySem.W.kitx_exc hcl C.hg C.hk C.hs C.ha C.hn C.ht C.hm) I.kIn J e (fun z => nomatch z) fun tk => ⟨.bl b, H, I.kept (t' := tk) fun _ _ z => z, rfl, q⟩
/-! ### a call of a local name, what it raises with the slots -/
def tCallLS (i : Nat) (f : Addr) (sp : Sp) (E : L2.St → XK) (t : TA) : TE := fun σ H Q => σ[i]? = some (some (.ref f)) ∧ t σ H fun vs H1 => sp vs H1 Q (E σ)
section
variable {X : Cx} {CX : CXT} {k i : Nat} {f : Addr} {fd : FuncData} {ps : List Str} {sp : Sp} {E : L2.St → XK} {x : Str} {p pos : Pos} {e : Expr} {es : List Expr} {t : TA}
theorem pe_callLS (F : FnOk X.prog X.w X.K X.mg X.base CX k f fd ps sp) (hr : Room k X.A) (hN : X.N[i]? = some x) (hv : Vis X.env.scope x) (hk : PySem.W.keepIn X.K (.ref f) = true) (hb : Binds X.K fd ps []) (hx : ∀ σ, PassesAt CX X σ (E σ)) (ha : PA X (e :: es) t)
    (hdb : (x == ("__debug__" : Str)) = false := by decide) (hcd : (x == ("__classdict__" : Str)) = false := by decide)
    (he : starEach (e :: es) X.env = (false, eval e X.env) :: starEach es X.env := by rfl) (hpl : (backTo pos (starEach es X.env)).any (·.1) = false := by rfl) : PE X (.Call (.Name x p) (e :: es) [] pos) (tCallLS i f sp E t) := by
  refine ⟨fun pins s σ H Q I h => ?_⟩
  obtain ⟨hs, ht⟩ := h
  refine wpAny_Call_Name_kw (thn ((pe_var (pos := p) hN hv hdb hcd).run pins s σ H (fun v H1 => v = .ref f ∧ H1 = H) I ⟨.ref f, hs, rfl, rfl⟩) fun u s1 ⟨v, H1, I1, r1, q1⟩ => ?_)
  obtain ⟨rfl, rfl⟩ := q1
  cases r1
  refine PySem.W.callWith_K (h₀ := X.base) I.ok.mod.kin hk (thn (ha.run pos pins s1 σ _ _ I1 ht) fun us s2 ⟨vs, H2, I2, r, q⟩ => ⟨I2.kIn, ?_⟩) he hpl
  exact run_fnS F hr hb (hx σ) I2 r q
end
/-- two promises of a def -/
theorem FnOk.both {P : Program} {w : World} {K : PySem.W.Frag} {mg : Str → Option Value} {base : Heap} {CX : CXT} {k : Nat} {f : Addr} {fd : FuncData} {ps : List Str} {sp1 sp2 : Sp} (F : FnOk P w K mg base CX k f fd ps sp1) (G : FnOk P w K mg base CX k f fd ps sp2) :
    FnOk P w K mg base CX k f fd ps (fun vs H Q E => sp1 vs H Q E ∨ sp2 vs H Q E) :=
  ⟨fun vs H Q E h => h.elim (F.len vs H Q E) (G.len vs H Q E), fun A outer s H args us vs Q E hr he hb hv h => h.elim (F.run A outer s H args us vs Q E hr he hb hv) (G.run A outer s H args us vs Q E hr he hb hv)⟩
theorem excB_ok {K : PySem.W.Frag} {D : Addr} (h : excB K D = true) : ExcC K D := by
  unfold excB at h
  simp only [Bool.and_eq_true, decide_eq_true_eq] at h
  obtain ⟨h1, h2, h3, h4, h5, h6, h7, h8⟩ := h
  exact ⟨h1, h2, h3, h4, h5, h6, h7, h8⟩
end PX
/-! PQn -/
namespace PX
open PySem PySem.Spec PyProof.Rows L2 TL
/-- what an error comes to -/
def saE (K : PySem.W.Frag) (Q : VK) : XK := fun cls d H => (∃ dd y, cls = .ref (CB K) ∧ d = some dd ∧ H dd = some (.xd [("why", y)]) ∧ Q (.str (Str.ofString "bad")) H) ∨
  (∃ dd y, ∃ p : Nat, cls = .ref (CN K) ∧ d = some dd ∧ H dd = some (.xd [("at", .int (p : Int)), ("why", y)]) ∧ ∀ t, H t = none → Q (.ref t) (upd H t (.tup [.str (Str.ofString "at"), .int (p : Int)])))
def spSa (K : PySem.W.Frag) (f : Addr) (sp : Sp) : Sp := fun vs H Q _ => ∃ x, vs = [.ref f, x] ∧ ∀ (Q' : VK) (E' : XK), (∀ y H', Q (.str (Str.ofString "told")) H' → Q' y H') → (∀ cls d H', saE K Q cls d H' → E' cls d H') → sp [x] H Q' E'
section
variable {P : Program} {w : World} {K : PySem.W.Frag} {mg : Str → Option Value} {base : Heap}
/-- tree_of, of what is read, where an error may go on -/
theorem ok_tree_ofT (T : Tx w K mg) (n : Nat) : Ok P w K mg base (L2.CX P w) (9 + 7 * n) (He.fAd K d_tree_of.at_) p_tree_of (spTr K n) := by
  obtain ⟨fd, F⟩ := f_tree_of T
  obtain ⟨fR, GR, bR, kR⟩ := ok_reader_of (P := P) (base := base) T
  obtain ⟨fD, GD, bD, kD⟩ := ok_read_path (P := P) (base := base) T n
  refine ⟨fd, ?_, b_tree_of F, F.kp⟩
  have hlev : 9 + 7 * n = (8 + 7 * n) + 1 := by omega
  rw [hlev]
  refine F.ok sc_tree_of (fun vs H Q E h => ?_) (fun cdv A outer s H vs Q E hr h => ?_)
  · obtain ⟨z, t, rfl, _⟩ := h
    rfl
  · obtain ⟨z, t, rfl, g, hx, k⟩ := h
    refine ⟨_, pss_one (ps_ret (pe_meth0 (E := E0) (pe_call (E := E0) GR (hr.mono (by omega)) (by rfl) (g_reader_of T) kR bR .nil pass0 (pa_cons (pv 0) pa_nil)) (cls_PathReader T) (m_PathReader_read_path T) GD (hr.mono (by omega)) bD .nil pass0)), ?_⟩
    refine ⟨_, rfl, z, rfl, g, fun H1 d hz s1 hr0 hR => ?_⟩
    obtain ⟨j, h2⟩ := hR.rm
    subst hz
    exact ⟨d.r, d.dx, _, rfl, h2, pr_no (by decide +kernel), d, _, t, rfl, hR, hx, fun H2 v m m2 hv => k H2 v (same_ofB hr0 s1 m2.1) hv⟩
def tSuite (K : PySem.W.Frag) (a : Addr) (cls : Value) (d : Option Addr) : TS := tSeq (tIfS (tB (tCB (rIsX K cls d a) (tCons (tVar 2) (tCons (tC (.ref (CB K))) tNil)))) (tRet (tC (.str (Str.ofString "bad")))) tNext)
  (tRet (tIf (tB (tCB (rIsX K cls d a) (tCons (tVar 2) (tCons (tC (.ref (CN K))) tNil)))) (tTup (tCons (tC (.str (Str.ofString "at"))) (tCons (tXf a cls d (CN K) "at" (tVar 2)) tNil))) (tC (.str (Str.ofString "other")))))
def tTryS (K : PySem.W.Frag) (f : Addr) (sp : Sp) : TS := fun D σ H => tDrop (tCallLS 0 f sp (WE (wAs K (.ref (He.ga K "TreeError")) 2 (fun a cls d => tSuite K a cls d) (fun _ _ _ _ => False) D)) (tCons (tVar 1) tNil)) D σ H
theorem ok_said (T : Tx w K mg) {f : Addr} {fd0 fd : FuncData} {ps0 : List Str} {sp : Sp} (F0 : FnOk P w K mg base (L2.CX P w) 30 f fd0 ps0 sp) (k0 : PySem.W.keepIn K (.ref f) = true) (b0 : Binds K fd0 ps0 []) (F : FnP K d_Lsaid fd) : FnOk P w K mg base CX0 31 (He.fAd K d_Lsaid.at_) fd p_Lsaid (spSa K f sp) := by
  refine F.ok sc_Lsaid (fun vs H Q E h => ?_) (fun cdv A outer s H vs Q E hr h => ?_)
  · obtain ⟨x, rfl, _⟩ := h
    rfl
  · obtain ⟨x, rfl, k⟩ := h
    have nd := sc_Lsaid.nd
    have hI := x_isx T
    unfold isB at hI
    simp only [Bool.and_eq_true, decide_eq_true_eq] at hI
    obtain ⟨xB, xN, kBB, kNB, kNN, _⟩ := hI
    refine ⟨_, PSs.nox (pss_cons (t := tTryS K f sp) (by exact (ps_try_as (i := 2) (tb := fun W => tDrop (tCallLS 0 f sp (WE W) (tCons (tVar 1) tNil))) (ts := fun a cls d => tSuite K a cls d) (Wout := fun _ _ _ _ => False) rfl rfl nd rfl rfl ⟨rfl, by decide, .inl (g_TreeError T)⟩ takes0
        (fun W pn xe tk hpo => pss_one (ps_expr (by exact (pe_callLS (i := 0) F0 (hr.mono (by decide)) rfl (.inl rfl) k0 b0 (fun σ => passAt tk σ) (by exact (pa_cons (pv 1) pa_nil))))))
        (fun a oe cls d pn hz hf => pss_cons (ps_if (pt_val (pe_callB (call_isX hz hf) (by rfl) (n_isinstance T) boot_isinstance (pa_cons (pv 2) (pa_cons (pe_glob (v := .ref (He.ga K "BadValue")) (by rfl) (g_BadValue T) rfl) pa_nil)))) (pss_one (ps_ret pe_str)) pss_nil)
          (pss_one (ps_ret (pe_ifExp (pt_val (pe_callB (call_isX hz hf) (by rfl) (n_isinstance T) boot_isinstance (pa_cons (pv 2) (pa_cons (pe_glob (v := .ref (He.ga K "NotPath")) (by rfl) (g_NotPath T) rfl) pa_nil))))
            (pe_tup (pa_cons pe_str (pa_cons (pe_xf (oex_of (more_of T).2.1).2 (na_NotPath_at T) hz hf (pv 2)) pa_nil))) pe_str))))))
      (pss_one (ps_ret pe_str))), ?_⟩
    refine ⟨rfl, _, rfl, k _ _ (fun y H' q => q) (fun cls d H' e => ?_)⟩
    rcases e with ⟨dd, y, rfl, rfl, hx, q⟩ | ⟨dd, y, p, rfl, rfl, hx, q⟩
    · refine ⟨true, exm_BadValue_TreeError T, fun _ a ha => ?_, fun h => by cases h⟩
      refine ⟨_, rfl, _, _, true, _, dd, _, rfl, fun u h => h, rfl, excB_ok xB, rfl, hx, kBB, _, rfl, ?_⟩
      refine iteT ?_
      exact q
    · refine ⟨true, exm_NotPath_TreeError T, fun _ a ha => ?_, fun h => by cases h⟩
      refine ⟨_, rfl, _, _, false, _, dd, _, rfl, fun u h => h, rfl, excB_ok xN, rfl, hx, kNB, _, rfl, ?_⟩
      refine iteF ?_
      refine ⟨_, rfl, _, _, true, _, dd, _, rfl, fun u h => h, rfl, excB_ok xN, rfl, hx, kNN, _, rfl, ?_⟩
      refine iteT ?_
      exact ⟨_, rfl, rfl, rfl, dd, _, _, rfl, hx, rfl, (by show 2 ≤ sizeLine; decide), fun t ht => q t ht⟩
/-- what said tells of a text of signs -/
def spSaT (K : PySem.W.Frag) : Sp := fun vs H Q _ => ∃ (z : Str) (r : Option Nat), vs = [.ref (He.fAd K d_tree_of.at_), .str z] ∧ Gd z ∧ ResT z r ∧ (match r with
  | none => ∀ H', Same H H' → Q (.str (Str.ofString "told")) H'
  | some p => ∀ H' t, Same H H' → H t = none → H' t = some (.tup [.str (Str.ofString "at"), .int (p : Int)]) → Q (.ref t) H')
/-- and of what is no text -/
def asks (K : PySem.W.Frag) : List Addr := [He.fAd K d_tokens.at_, He.fAd K d_tree_of.at_, He.fAd K d_canonical.at_, He.fAd K d_abbreviated.at_]
def spSaO (K : PySem.W.Frag) (f : Addr) : Sp := fun vs H Q _ => ∃ (x : V) (t : Value), vs = [.ref f, x] ∧ TyY K H x t ∧ PySem.W.kitOne K t (.type "str") = some false ∧ ∀ H', Same H H' → Q (.str (Str.ofString "bad")) H'
theorem saO_of {f : Addr} : ∀ vs H Q E, spSaO K f vs H Q E → spSa K f (spOdd K) vs H Q E := by
  rintro vs H Q E ⟨x, t, rfl, h1, h2, h3⟩
  refine ⟨x, rfl, fun Q' E' hQ hE => ⟨x, t, rfl, h1, h2, fun d y hd => ?_⟩⟩
  exact hE _ _ _ (.inl ⟨d, y, rfl, rfl, upd_same, h3 _ (same_new hd)⟩)
def spSaN (K : PySem.W.Frag) (B : Str → List Tk → Nat → Prop) : Sp := fun vs H Q _ => ∃ (z : Str) (p : Nat), vs = [.ref (He.fAd K d_tree_of.at_), .str z] ∧ Gd z ∧ B z (tokL z) p ∧ ∀ H' t, Same H H' → H t = none → H' t = some (.tup [.str (Str.ofString "at"), .int (p : Int)]) → Q (.ref t) H'
theorem saN_of {B : Str → List Tk → Nat → Prop} : ∀ vs H Q E, spSaN K B vs H Q E → spSa K (He.fAd K d_tree_of.at_) (spTrX K B) vs H Q E := by
  rintro vs H Q E ⟨z, p, rfl, g, hB, h⟩
  refine ⟨.str z, rfl, fun Q' E' hQ hE => ⟨z, p, rfl, g, hB, fun H' e y s he hy => ?_⟩⟩
  refine hE _ _ _ (.inr ⟨e, y, p, rfl, rfl, hy, fun t ht => ?_⟩)
  refine h _ t (s.trans (same_new ht)) ?_ upd_same
  cases q : H t with
  | none => rfl
  | some u =>
    have := s _ _ q
    rw [ht] at this
    cases this
def spSaY (K : PySem.W.Frag) : Sp := fun vs H Q _ => ∃ (z : Str) (t : PyData), vs = [.ref (He.fAd K d_tree_of.at_), .str z] ∧ Gd z ∧ rpN 3 z = some t ∧ ∀ H', Same H H' → Q (.str (Str.ofString "told")) H'
theorem saY_of : ∀ vs H Q E, spSaY K vs H Q E → spSa K (He.fAd K d_tree_of.at_) (spTr K 3) vs H Q E := by
  rintro vs H Q E ⟨z, t, rfl, g, hx, h⟩
  exact ⟨.str z, rfl, fun Q' E' hQ hE => ⟨z, t, rfl, g, hx, fun H' v s _ => hQ v H' (h H' s)⟩⟩
def spSaid (K : PySem.W.Frag) : Sp := fun vs H Q E => spSaT K vs H Q E ∨ ∃ f ∈ asks K, spSaO K f vs H Q E
theorem ok_Lsaid (T : Tx w K mg) : Ok P w K mg base CX0 31 (He.fAd K d_Lsaid.at_) p_Lsaid (spSaid K) := by
  obtain ⟨fd, F⟩ := f_Lsaid T
  obtain ⟨fA, GA, bA, kA⟩ := ok_tokens_odd (P := P) (base := base) T
  obtain ⟨fB, GB, bB, kB⟩ := ok_tree_of_odd (P := P) (base := base) T
  obtain ⟨fC, GC, bC, kC⟩ := ok_canonical_odd (P := P) (base := base) T
  obtain ⟨fD, GD, bD, kD⟩ := ok_abbreviated_odd (P := P) (base := base) T
  obtain ⟨fY, GY, bY, kY⟩ := ok_tree_ofT (P := P) (base := base) T 3
  obtain ⟨fN, GN, bN, kN⟩ := ok_tree_ofC (P := P) (base := base) T 2 (by decide)
  obtain ⟨fU, GU, bU, kU⟩ := ok_tree_ofU (P := P) (base := base) T
  refine ⟨fd, ?_, b_Lsaid F, F.kp⟩
  have hY := (ok_said (P := P) (base := base) T GY kY bY F).imp saY_of
  have hN := (ok_said (P := P) (base := base) T GN kN bN F).imp saN_of
  have hU := (ok_said (P := P) (base := base) T (GU.mono (by decide)) kU bU F).imp saN_of
  have h2 := (ok_said (P := P) (base := base) T (GA.mono (by decide)) kA bA F).imp saO_of
  have h3 := (ok_said (P := P) (base := base) T (GB.mono (by decide)) kB bB F).imp saO_of
  have h4 := (ok_said (P := P) (base := base) T (GC.mono (by decide)) kC bC F).imp saO_of
  have h5 := (ok_said (P := P) (base := base) T (GD.mono (by decide)) kD bD F).imp saO_of
  refine (FnOk.both hY (FnOk.both hN (FnOk.both hU (FnOk.both h2 (FnOk.both h3 (FnOk.both h4 h5)))))).imp fun vs H Q E h => ?_
  rcases h with ⟨z, r, rfl, g, hr, h⟩ | ⟨f, hf, h⟩
  · cases r with
    | none =>
      obtain ⟨d, hd⟩ := hr
      exact .inl ⟨z, d, rfl, g, hd, h⟩
    | some p =>
      rcases hr with hr | hr
      · exact .inr (.inl ⟨z, p, rfl, g, hr, h⟩)
      · exact .inr (.inr (.inl ⟨z, p, rfl, g, hr, h⟩))
  · refine .inr (.inr (.inr ?_))
    simp only [asks, List.mem_cons, List.not_mem_nil, or_false] at hf
    rcases hf with rfl | rfl | rfl | rfl
    · exact .inl h
    · exact .inr (.inl h)
    · exact .inr (.inr (.inl h))
    · exact .inr (.inr (.inr h))
end
end PX
/-! PQo -/
namespace PX
open PySem PySem.Spec PyProof.Rows L2 TL
abbrev Rw : Type := Str × Nat × Nat
def rwV (r : Rw) : List V := [.str r.1, .int (r.2.1 : Int), .int (r.2.2 : Int)]
def RowsAt (H : Hp) : List V → List Rw → Prop
  | [], [] => True
  | v :: vs, r :: rs => (∃ a, v = .ref a ∧ H a = some (.tup (rwV r))) ∧ RowsAt H vs rs
  | _, _ => False
theorem RowsAt.keep {H H' : Hp} (k : Same H H') : ∀ {vs : List V} {rs : List Rw}, RowsAt H vs rs → RowsAt H' vs rs
  | [], [], _ => trivial
  | _ :: _, _ :: _, ⟨⟨a, e, h⟩, r⟩ => ⟨⟨a, e, k _ _ h⟩, RowsAt.keep k r⟩
  | [], _ :: _, h => h.elim
  | _ :: _, [], h => h.elim
theorem RowsAt.add {H : Hp} : ∀ {vs us : List V} {rs ss : List Rw}, RowsAt H vs rs → RowsAt H us ss → RowsAt H (vs ++ us) (rs ++ ss)
  | [], _, [], _, _, h => h
  | _ :: _, _, _ :: _, _, ⟨a, r⟩, h => ⟨a, RowsAt.add r h⟩
  | [], _, _ :: _, _, h, _ => h.elim
  | _ :: _, _, [], _, h, _ => h.elim
theorem RowsAt.len {H : Hp} : ∀ {vs : List V} {rs : List Rw}, RowsAt H vs rs → vs.length = rs.length
  | [], [], _ => rfl
  | _ :: _, _ :: _, ⟨_, r⟩ => by
    show _ + 1 = _ + 1
    rw [RowsAt.len r]
  | [], _ :: _, h => h.elim
  | _ :: _, [], h => h.elim
theorem RowsAt.get {H : Hp} : ∀ {vs : List V} {rs : List Rw}, RowsAt H vs rs → ∀ {k : Nat} {x : V}, vs[k]? = some x → ∃ r a, rs[k]? = some r ∧ x = .ref a ∧ H a = some (.tup (rwV r))
  | [], [], _, k, x, h => by cases h
  | v :: vs, r :: rs, ⟨⟨a, e, h1⟩, h2⟩, 0, x, h => by
    have : v = x := Option.some.inj h
    subst this
    exact ⟨r, a, rfl, e, h1⟩
  | v :: vs, r :: rs, ⟨_, h2⟩, k + 1, x, h => RowsAt.get h2 (k := k) h
  | [], _ :: _, h, _, _, _ => h.elim
  | _ :: _, [], h, _, _, _ => h.elim
def rw0 : List Rw := [(Str.ofString "true false last position current", 0, 0)]
def rw1 : List Rw := [(Str.ofString "contains key starts-with substring-after substring-before", 2, 2)]
def rw2 : List Rw := [(Str.ofString "generate-id local-name name normalize-space number string string-length", 0, 1)]
def rw3 : List Rw := [(Str.ofString "boolean ceiling count document floor id not round sum", 1, 1), (Str.ofString "concat", 2, 9)]
def rw4 : List Rw := [(Str.ofString "substring", 2, 3), (Str.ofString "translate", 3, 3)]
def rw5 : List Rw := [(Str.ofString "lang namespace-uri foo position-x text2 format-number", 9, 0)]
def rowsL : List Rw := ((((rw0 ++ rw1) ++ rw2) ++ rw3) ++ rw4) ++ rw5
section
variable {P : Program} {w : World} {K : PySem.W.Frag} {mg : Str → Option Value} {base : Heap}
def spWords : Sp := fun vs H Q _ => vs = [] ∧ ∀ H' L ts, Same H H' → H' L = some (.lst ts) → RowsAt H' ts rowsL → Q (.ref L) H'
theorem ok_Lwords (T : Tx w K mg) : Ok P w K mg base CX0 1 (He.fAd K d_Lwords.at_) p_Lwords spWords := by
  obtain ⟨fd, F⟩ := f_Lwords T
  refine ⟨fd, ?_, b_Lwords F, F.kp⟩
  refine F.ok sc_Lwords (fun vs H Q E h => ?_) (fun cdv A outer s H vs Q E hr h => ?_)
  · obtain ⟨rfl, _⟩ := h
    rfl
  · obtain ⟨rfl, kk⟩ := h
    have nd := sc_Lwords.nd
    refine ⟨_, PSs.nox (pss_cons (ps_set (i := 0) nd rfl (.inl rfl) (pe_lst (pa_cons (pe_tup (pa_cons pe_str (pa_cons pe_int (pa_cons pe_int pa_nil)))) pa_nil))) (pss_cons (ps_set (i := 0) nd rfl (.inl rfl) (pe_op op_cat (pv 0) (pe_lst (pa_cons (pe_tup (pa_cons pe_str (pa_cons pe_int (pa_cons pe_int pa_nil)))) pa_nil)))) (pss_cons (ps_set (i := 0) nd rfl (.inl rfl) (pe_op op_cat (pv 0) (pe_lst (pa_cons (pe_tup (pa_cons pe_str (pa_cons pe_int (pa_cons pe_int pa_nil)))) pa_nil)))) (pss_cons (ps_set (i := 0) nd rfl (.inl rfl) (pe_op op_cat (pv 0) (pe_lst (pa_cons (pe_tup (pa_cons pe_str (pa_cons pe_int (pa_cons pe_int pa_nil)))) (pa_cons (pe_tup (pa_cons pe_str (pa_cons pe_int (pa_cons pe_int pa_nil)))) pa_nil))))) (pss_cons (ps_set (i := 0) nd rfl (.inl rfl) (pe_op op_cat (pv 0) (pe_lst (pa_cons (pe_tup (pa_cons pe_str (pa_cons pe_int (pa_cons pe_int pa_nil)))) (pa_cons (pe_tup (pa_cons pe_str (pa_cons pe_int (pa_cons pe_int pa_nil)))) pa_nil))))) (pss_one (ps_ret (pe_op op_cat (pv 0) (pe_lst (pa_cons (pe_tup (pa_cons pe_str (pa_cons pe_int (pa_cons pe_int pa_nil)))) pa_nil)))))))))), ?_⟩
    have s0 : Same H H := Same.refl _
    refine ⟨(by show 3 ≤ sizeLine; decide), fun q1 hq1 => ?_⟩
    have t1 : Same H (upd H q1 (.tup [.str (Str.ofString "true false last position current"), .int 0, .int 0])) := same_new hq1
    have e1 : upd H q1 (.tup [.str (Str.ofString "true false last position current"), .int 0, .int 0]) q1 = some (.tup (rwV (Str.ofString "true false last position current", 0, 0))) := upd_same
    have S1 := s0.trans t1
    generalize upd H q1 (.tup [.str (Str.ofString "true false last position current"), .int 0, .int 0]) = H1 at t1 e1 S1 ⊢
    refine ⟨(by show 1 ≤ sizeLine; decide), fun q2 hq2 => ?_⟩
    have t2 : Same H1 (upd H1 q2 (.lst [V.ref q1])) := same_new hq2
    have f2 : upd H1 q2 (.lst [V.ref q1]) q2 = some (.lst [V.ref q1]) := upd_same
    have g2 : RowsAt (upd H1 q2 (.lst [V.ref q1])) [V.ref q1] rw0 := ⟨⟨_, rfl, t2 _ _ e1⟩, trivial⟩
    have S2 := S1.trans t2
    generalize upd H1 q2 (.lst [V.ref q1]) = H2 at t2 f2 g2 S2 ⊢
    have eL : H2 q2 = some (.lst [V.ref q1]) := f2
    have rA : RowsAt H2 [V.ref q1] rw0 := g2
    refine ⟨_, rfl, ?_⟩
    refine ⟨(by show 3 ≤ sizeLine; decide), fun q3 hq3 => ?_⟩
    have t3 : Same H2 (upd H2 q3 (.tup [.str (Str.ofString "contains key starts-with substring-after substring-before"), .int 2, .int 2])) := same_new hq3
    have e3 : upd H2 q3 (.tup [.str (Str.ofString "contains key starts-with substring-after substring-before"), .int 2, .int 2]) q3 = some (.tup (rwV (Str.ofString "contains key starts-with substring-after substring-before", 2, 2))) := upd_same
    have S3 := S2.trans t3
    replace eL := t3 _ _ eL
    replace rA := rA.keep t3
    generalize upd H2 q3 (.tup [.str (Str.ofString "contains key starts-with substring-after substring-before"), .int 2, .int 2]) = H3 at t3 e3 S3 eL rA ⊢
    refine ⟨(by show 1 ≤ sizeLine; decide), fun q4 hq4 => ?_⟩
    have t4 : Same H3 (upd H3 q4 (.lst [V.ref q3])) := same_new hq4
    have f4 : upd H3 q4 (.lst [V.ref q3]) q4 = some (.lst [V.ref q3]) := upd_same
    have g4 : RowsAt (upd H3 q4 (.lst [V.ref q3])) [V.ref q3] rw1 := ⟨⟨_, rfl, t4 _ _ e3⟩, trivial⟩
    have S4 := S3.trans t4
    replace eL := t4 _ _ eL
    replace rA := rA.keep t4
    generalize upd H3 q4 (.lst [V.ref q3]) = H4 at t4 f4 g4 S4 eL rA ⊢
    have rB := rA.add g4
    refine ⟨q2, q4, _, _, rfl, rfl, eL, f4, (by have := rB.len; rw [List.length_append] at this; rw [this, sizeLine_eq]; decide), fun q5 hq5 => ?_⟩
    have t5 := same_new hq5 (o := .lst ([V.ref q1] ++ [V.ref q3]))
    have e5 : upd H4 q5 (.lst ([V.ref q1] ++ [V.ref q3])) q5 = some (.lst ([V.ref q1] ++ [V.ref q3])) := upd_same
    replace rB := rB.keep t5
    have S5 := S4.trans t5
    clear eL rA
    generalize upd H4 q5 (.lst ([V.ref q1] ++ [V.ref q3])) = H5 at t5 e5 rB S5 ⊢
    have eL := e5
    have rA := rB
    clear rB
    refine ⟨_, rfl, ?_⟩
    refine ⟨(by show 3 ≤ sizeLine; decide), fun q6 hq6 => ?_⟩
    have t6 : Same H5 (upd H5 q6 (.tup [.str (Str.ofString "generate-id local-name name normalize-space number string string-length"), .int 0, .int 1])) := same_new hq6
    have e6 : upd H5 q6 (.tup [.str (Str.ofString "generate-id local-name name normalize-space number string string-length"), .int 0, .int 1]) q6 = some (.tup (rwV (Str.ofString "generate-id local-name name normalize-space number string string-length", 0, 1))) := upd_same
    have S6 := S5.trans t6
    replace eL := t6 _ _ eL
    replace rA := rA.keep t6
    generalize upd H5 q6 (.tup [.str (Str.ofString "generate-id local-name name normalize-space number string string-length"), .int 0, .int 1]) = H6 at t6 e6 S6 eL rA ⊢
    refine ⟨(by show 1 ≤ sizeLine; decide), fun q7 hq7 => ?_⟩
    have t7 : Same H6 (upd H6 q7 (.lst [V.ref q6])) := same_new hq7
    have f7 : upd H6 q7 (.lst [V.ref q6]) q7 = some (.lst [V.ref q6]) := upd_same
    have g7 : RowsAt (upd H6 q7 (.lst [V.ref q6])) [V.ref q6] rw2 := ⟨⟨_, rfl, t7 _ _ e6⟩, trivial⟩
    have S7 := S6.trans t7
    replace eL := t7 _ _ eL
    replace rA := rA.keep t7
    generalize upd H6 q7 (.lst [V.ref q6]) = H7 at t7 f7 g7 S7 eL rA ⊢
    have rB := rA.add g7
    refine ⟨q5, q7, _, _, rfl, rfl, eL, f7, (by have := rB.len; rw [List.length_append] at this; rw [this, sizeLine_eq]; decide), fun q8 hq8 => ?_⟩
    have t8 := same_new hq8 (o := .lst (([V.ref q1] ++ [V.ref q3]) ++ [V.ref q6]))
    have e8 : upd H7 q8 (.lst (([V.ref q1] ++ [V.ref q3]) ++ [V.ref q6])) q8 = some (.lst (([V.ref q1] ++ [V.ref q3]) ++ [V.ref q6])) := upd_same
    replace rB := rB.keep t8
    have S8 := S7.trans t8
    clear eL rA
    generalize upd H7 q8 (.lst (([V.ref q1] ++ [V.ref q3]) ++ [V.ref q6])) = H8 at t8 e8 rB S8 ⊢
    have eL := e8
    have rA := rB
    clear rB
    refine ⟨_, rfl, ?_⟩
    refine ⟨(by show 3 ≤ sizeLine; decide), fun q9 hq9 => ?_⟩
    have t9 : Same H8 (upd H8 q9 (.tup [.str (Str.ofString "boolean ceiling count document floor id not round sum"), .int 1, .int 1])) := same_new hq9
    have e9 : upd H8 q9 (.tup [.str (Str.ofString "boolean ceiling count document floor id not round sum"), .int 1, .int 1]) q9 = some (.tup (rwV (Str.ofString "boolean ceiling count document floor id not round sum", 1, 1))) := upd_same
    have S9 := S8.trans t9
    replace eL := t9 _ _ eL
    replace rA := rA.keep t9
    generalize upd H8 q9 (.tup [.str (Str.ofString "boolean ceiling count document floor id not round sum"), .int 1, .int 1]) = H9 at t9 e9 S9 eL rA ⊢
    refine ⟨(by show 3 ≤ sizeLine; decide), fun q10 hq10 => ?_⟩
    have t10 : Same H9 (upd H9 q10 (.tup [.str (Str.ofString "concat"), .int 2, .int 9])) := same_new hq10
    have e10 : upd H9 q10 (.tup [.str (Str.ofString "concat"), .int 2, .int 9]) q10 = some (.tup (rwV (Str.ofString "concat", 2, 9))) := upd_same
    replace e9 := t10 _ _ e9
    have S10 := S9.trans t10
    replace eL := t10 _ _ eL
    replace rA := rA.keep t10
    generalize upd H9 q10 (.tup [.str (Str.ofString "concat"), .int 2, .int 9]) = H10 at t10 e10 S10 e9 eL rA ⊢
    refine ⟨(by show 2 ≤ sizeLine; decide), fun q11 hq11 => ?_⟩
    have t11 : Same H10 (upd H10 q11 (.lst [V.ref q9, V.ref q10])) := same_new hq11
    have f11 : upd H10 q11 (.lst [V.ref q9, V.ref q10]) q11 = some (.lst [V.ref q9, V.ref q10]) := upd_same
    have g11 : RowsAt (upd H10 q11 (.lst [V.ref q9, V.ref q10])) [V.ref q9, V.ref q10] rw3 := ⟨⟨_, rfl, t11 _ _ e9⟩, ⟨⟨_, rfl, t11 _ _ e10⟩, trivial⟩⟩
    have S11 := S10.trans t11
    replace eL := t11 _ _ eL
    replace rA := rA.keep t11
    generalize upd H10 q11 (.lst [V.ref q9, V.ref q10]) = H11 at t11 f11 g11 S11 eL rA ⊢
    have rB := rA.add g11
    refine ⟨q8, q11, _, _, rfl, rfl, eL, f11, (by have := rB.len; rw [List.length_append] at this; rw [this, sizeLine_eq]; decide), fun q12 hq12 => ?_⟩
    have t12 := same_new hq12 (o := .lst ((([V.ref q1] ++ [V.ref q3]) ++ [V.ref q6]) ++ [V.ref q9, V.ref q10]))
    have e12 : upd H11 q12 (.lst ((([V.ref q1] ++ [V.ref q3]) ++ [V.ref q6]) ++ [V.ref q9, V.ref q10])) q12 = some (.lst ((([V.ref q1] ++ [V.ref q3]) ++ [V.ref q6]) ++ [V.ref q9, V.ref q10])) := upd_same
    replace rB := rB.keep t12
    have S12 := S11.trans t12
    clear eL rA
    generalize upd H11 q12 (.lst ((([V.ref q1] ++ [V.ref q3]) ++ [V.ref q6]) ++ [V.ref q9, V.ref q10])) = H12 at t12 e12 rB S12 ⊢
    have eL := e12
    have rA := rB
    clear rB
    refine ⟨_, rfl, ?_⟩
    refine ⟨(by show 3 ≤ sizeLine; decide), fun q13 hq13 => ?_⟩
    have t13 : Same H12 (upd H12 q13 (.tup [.str (Str.ofString "substring"), .int 2, .int 3])) := same_new hq13
    have e13 : upd H12 q13 (.tup [.str (Str.ofString "substring"), .int 2, .int 3]) q13 = some (.tup (rwV (Str.ofString "substring", 2, 3))) := upd_same
    have S13 := S12.trans t13
    replace eL := t13 _ _ eL
    replace rA := rA.keep t13
    generalize upd H12 q13 (.tup [.str (Str.ofString "substring"), .int 2, .int 3]) = H13 at t13 e13 S13 eL rA ⊢
    refine ⟨(by show 3 ≤ sizeLine; decide), fun q14 hq14 => ?_⟩
    have t14 : Same H13 (upd H13 q14 (.tup [.str (Str.ofString "translate"), .int 3, .int 3])) := same_new hq14
    have e14 : upd H13 q14 (.tup [.str (Str.ofString "translate"), .int 3, .int 3]) q14 = some (.tup (rwV (Str.ofString "translate", 3, 3))) := upd_same
    replace e13 := t14 _ _ e13
    have S14 := S13.trans t14
    replace eL := t14 _ _ eL
    replace rA := rA.keep t14
    generalize upd H13 q14 (.tup [.str (Str.ofString "translate"), .int 3, .int 3]) = H14 at t14 e14 S14 e13 eL rA ⊢
    refine ⟨(by show 2 ≤ sizeLine; decide), fun q15 hq15 => ?_⟩
    have t15 : Same H14 (upd H14 q15 (.lst [V.ref q13, V.ref q14])) := same_new hq15
    have f15 : upd H14 q15 (.lst [V.ref q13, V.ref q14]) q15 = some (.lst [V.ref q13, V.ref q14]) := upd_same
    have g15 : RowsAt (upd H14 q15 (.lst [V.ref q13, V.ref q14])) [V.ref q13, V.ref q14] rw4 := ⟨⟨_, rfl, t15 _ _ e13⟩, ⟨⟨_, rfl, t15 _ _ e14⟩, trivial⟩⟩
    have S15 := S14.trans t15
    replace eL := t15 _ _ eL
    replace rA := rA.keep t15
    generalize upd H14 q15 (.lst [V.ref q13, V.ref q14]) = H15 at t15 f15 g15 S15 eL rA ⊢
    have rB := rA.add g15
    refine ⟨q12, q15, _, _, rfl, rfl, eL, f15, (by have := rB.len; rw [List.length_append] at this; rw [this, sizeLine_eq]; decide), fun q16 hq16 => ?_⟩
    have t16 := same_new hq16 (o := .lst (((([V.ref q1] ++ [V.ref q3]) ++ [V.ref q6]) ++ [V.ref q9, V.ref q10]) ++ [V.ref q13, V.ref q14]))
    have e16 : upd H15 q16 (.lst (((([V.ref q1] ++ [V.ref q3]) ++ [V.ref q6]) ++ [V.ref q9, V.ref q10]) ++ [V.ref q13, V.ref q14])) q16 = some (.lst (((([V.ref q1] ++ [V.ref q3]) ++ [V.ref q6]) ++ [V.ref q9, V.ref q10]) ++ [V.ref q13, V.ref q14])) := upd_same
    replace rB := rB.keep t16
    have S16 := S15.trans t16
    clear eL rA
    generalize upd H15 q16 (.lst (((([V.ref q1] ++ [V.ref q3]) ++ [V.ref q6]) ++ [V.ref q9, V.ref q10]) ++ [V.ref q13, V.ref q14])) = H16 at t16 e16 rB S16 ⊢
    have eL := e16
    have rA := rB
    clear rB
    refine ⟨_, rfl, ?_⟩
    refine ⟨(by show 3 ≤ sizeLine; decide), fun q17 hq17 => ?_⟩
    have t17 : Same H16 (upd H16 q17 (.tup [.str (Str.ofString "lang namespace-uri foo position-x text2 format-number"), .int 9, .int 0])) := same_new hq17
    have e17 : upd H16 q17 (.tup [.str (Str.ofString "lang namespace-uri foo position-x text2 format-number"), .int 9, .int 0]) q17 = some (.tup (rwV (Str.ofString "lang namespace-uri foo position-x text2 format-number", 9, 0))) := upd_same
    have S17 := S16.trans t17
    replace eL := t17 _ _ eL
    replace rA := rA.keep t17
    generalize upd H16 q17 (.tup [.str (Str.ofString "lang namespace-uri foo position-x text2 format-number"), .int 9, .int 0]) = H17 at t17 e17 S17 eL rA ⊢
    refine ⟨(by show 1 ≤ sizeLine; decide), fun q18 hq18 => ?_⟩
    have t18 : Same H17 (upd H17 q18 (.lst [V.ref q17])) := same_new hq18
    have f18 : upd H17 q18 (.lst [V.ref q17]) q18 = some (.lst [V.ref q17]) := upd_same
    have g18 : RowsAt (upd H17 q18 (.lst [V.ref q17])) [V.ref q17] rw5 := ⟨⟨_, rfl, t18 _ _ e17⟩, trivial⟩
    have S18 := S17.trans t18
    replace eL := t18 _ _ eL
    replace rA := rA.keep t18
    generalize upd H17 q18 (.lst [V.ref q17]) = H18 at t18 f18 g18 S18 eL rA ⊢
    have rB := rA.add g18
    refine ⟨q16, q18, _, _, rfl, rfl, eL, f18, (by have := rB.len; rw [List.length_append] at this; rw [this, sizeLine_eq]; decide), fun q19 hq19 => ?_⟩
    have t19 := same_new hq19 (o := .lst ((((([V.ref q1] ++ [V.ref q3]) ++ [V.ref q6]) ++ [V.ref q9, V.ref q10]) ++ [V.ref q13, V.ref q14]) ++ [V.ref q17]))
    have e19 : upd H18 q19 (.lst ((((([V.ref q1] ++ [V.ref q3]) ++ [V.ref q6]) ++ [V.ref q9, V.ref q10]) ++ [V.ref q13, V.ref q14]) ++ [V.ref q17])) q19 = some (.lst ((((([V.ref q1] ++ [V.ref q3]) ++ [V.ref q6]) ++ [V.ref q9, V.ref q10]) ++ [V.ref q13, V.ref q14]) ++ [V.ref q17])) := upd_same
    replace rB := rB.keep t19
    have S19 := S18.trans t19
    clear eL rA
    generalize upd H18 q19 (.lst ((((([V.ref q1] ++ [V.ref q3]) ++ [V.ref q6]) ++ [V.ref q9, V.ref q10]) ++ [V.ref q13, V.ref q14]) ++ [V.ref q17])) = H19 at t19 e19 rB S19 ⊢
    have eL := e19
    have rA := rB
    clear rB
    exact kk _ _ _ S19 eL rA
end
end PX
/-! PQp -/
namespace PX
open PySem PySem.Spec PyProof.Rows L2 TL
/-! ### a call of a word with none to four arguments: what is told is what is due -/
def dueP : Option Nat → PyData
  | none => .str (Str.ofString "told")
  | some q => .tuple [.str (Str.ofString "at"), .int (q : Int)]
theorem dueP_ok (o : Option Nat) : SeqAt.shaped (dueP o) = true := by
  cases o with
  | none => decide +kernel
  | some q => 
    show (PyData.canLay0 (.tuple [.str (Str.ofString "at"), .int (q : Int)]) && decide (PyData.depth (.tuple [.str (Str.ofString "at"), .int (q : Int)]) ≤ 64)) = true
    have h1 : PyData.canLay0 (.tuple [.str (Str.ofString "at"), .int (q : Int)]) = true := by kernel_rfl
    have h2 : PyData.depth (.tuple [.str (Str.ofString "at"), .int (q : Int)]) = PyData.depth (.tuple [.str (Str.ofString "at"), .int 0]) := by kernel_rfl
    rw [h1, h2]
    decide +kernel
theorem dueP_eq (o : Option Nat) : PyData.eqv (dueP o) (dueP o) = true := SeqAt.eqv_refl _ (SeqAt.canLay_of_shaped (dueP_ok o))
/-- such a value -/
def DueAt (H : Hp) (v : V) : Option Nat → Prop
  | none => v = .str (Str.ofString "told")
  | some q => ∃ t, v = .ref t ∧ H t = some (.tup [.str (Str.ofString "at"), .int (q : Int)])
theorem DueAt.keep {H H' : Hp} (s : Same H H') {v : V} : ∀ {o : Option Nat}, DueAt H v o → DueAt H' v o
  | none, h => h
  | some _, ⟨t, e, h⟩ => ⟨t, e, s _ _ h⟩
theorem DueAt.dp {K : PySem.W.Frag} {H : Hp} {v : V} : ∀ {o : Option Nat}, DueAt H v o → Dp K H v (dueP o)
  | none, h => by
    cases h
    exact .str _
  | some q, ⟨t, e, h⟩ => by
    cases e
    exact Dp.tup (SqT.of h) (.cons (.str _) (.cons (.int _) .nil))
theorem all_b2 {l : List Nat} (h : l ∈ b2) : l.all isSg = true := (show ∀ l ∈ b2, l.all isSg = true by decide) _ h
theorem all_a9 {l : List Nat} (h : l ∈ a9) : l.all isSg = true := (show ∀ l ∈ a9, l.all isSg = true by decide) _ h
theorem all_cs {a : Ar} (h : a.Gd) : a.cs.all isSg = true := by
  unfold Ar.cs
  rw [List.all_append, List.all_append, all_b2 h.1, all_a9 h.2.1, all_b2 h.2.2]
  rfl
theorem all_tx : ∀ (as : List Ar) (b : Bool), (∀ a ∈ as, a.Gd) → (txA b as).all isSg = true
  | [], _, _ => rfl
  | a :: as, b, h => by
    show ((if b then [44] else []) ++ (a.cs ++ txA true as)).all isSg = true
    rw [List.all_append, List.all_append, all_cs (h a List.mem_cons_self), all_tx as true fun c hc => h c (List.mem_cons_of_mem _ hc)]
    cases b <;> rfl
theorem call_gd {a0 wd a1 : List Nat} {as : List Ar} {z : Str} (h0 : a0 ∈ b2) (hw : wd.all isSg = true) (hl : wd.length ≤ 100) (h1 : a1 ∈ b2) (hg : ∀ a ∈ as, a.Gd) (hm : as.length ≤ 4) (hz : tl z = calL a0 wd a1 as) : Gd z := by
  constructor
  · have : (tl z).all isSg = true := by
      rw [hz]
      unfold calL
      rw [List.all_append, List.all_append, List.all_append, List.all_cons, List.all_append, all_b2 h0, all_b2 h1, hw, all_tx as false hg]
      rfl
    exact List.all_eq_true.mp this
  · have e1 : ∀ l ∈ b2, l.length ≤ 1 := by decide
    have g0 := e1 _ h0
    have g1 := e1 _ h1
    have g2 := txF_len as hg
    rw [len_tl, hz]
    unfold calL
    simp only [List.length_append, List.length_cons, List.length_nil]
    omega
theorem nV_get {l : List Nat} {k q : Nat} (h : l[k]? = some q) : (nV l)[k]? = some (.int (q : Int)) := by
  unfold nV
  rw [List.getElem?_map, h]
  rfl
theorem spO_last (p : Nat) (as : List Ar) : ∃ q, (spO p as).getLast? = some q ∧ atI (nV (spO p as)) (-1) = some (.int (q : Int)) := by
  rw [spO_end]
  refine ⟨p + 1 + (txA false as).length, List.getLast?_concat, ?_⟩
  rw [nV_add]
  exact atI_last _ _
theorem spO_len (p : Nat) (as : List Ar) : 2 * as.length + 1 ≤ (spO p as).length ∧ 2 ≤ (spO p as).length := by
  cases as with
  | nil => exact ⟨by show 1 ≤ 2; decide, by show 2 ≤ 2; decide⟩
  | cons a as =>
    have h : (spO p (a :: as)).length = 2 * as.length + 3 := by
      show (spA _ as).length + 1 + 1 = _
      rw [spA_end, List.length_append, spJ_len]
      rfl
    rw [h, List.length_cons]
    omega
section
variable {P : Program} {w : World} {K : PySem.W.Frag} {mg : Str → Option Value} {base : Heap}
def spCr : Sp := fun vs H Q _ => ∃ (p : Addr) (wd : Str) (lo hi : Nat), vs = [.ref p, .str wd, .int (lo : Int), .int (hi : Int)] ∧ Wl H p ∧ wdIs lo hi (tl wd) = true ∧ wd.length ≤ 100 ∧ (tl wd).all isSg = true ∧
  ∀ H', SameB p H H' → Wl H' p → Q (.bl true) H'
theorem ok_Lcall_right (T : Tx w K mg) : Ok P w K mg base CX0 32 (He.fAd K d_Lcall_right.at_) p_Lcall_right spCr := by
  obtain ⟨fd, F⟩ := f_Lcall_right T
  obtain ⟨fC, GC, bC, kC⟩ := ok_Lcall (P := P) (base := base) T
  obtain ⟨fS, GS, bS, kS⟩ := ok_Lsaid (P := P) (base := base) T
  refine ⟨fd, ?_, b_Lcall_right F, F.kp⟩
  refine F.ok sc_Lcall_right (fun vs H Q E h => ?_) (fun cdv A outer s H vs Q E hr h => ?_)
  · obtain ⟨p, wd, lo, hi, rfl, _⟩ := h
    rfl
  · obtain ⟨p, wd, lo, hi, rfl, hw, hwi, hwl, hwg, kk⟩ := h
    have nd := sc_Lcall_right.nd
    refine ⟨_, PSs.nox (pss_cons (ps_for PassesOwn.never rfl (pi_range1 (by rfl) (n_range T) (pa_cons pe_int pa_nil)) (pg_name (i := 4) nd rfl (.inl rfl))
        (pss_cons (ps_asg (pe_call (E := E0) GC (hr.mono (by decide)) (by rfl) (g_Lcall T) kC bC .nil pass0 (pa_cons (pv 0) (pa_cons (pv 1) (pa_cons (pv 4) pa_nil)))) (pg_tup (by rfl) (pgs_cons (pg_name (i := 5) nd rfl (.inl rfl)) (pgs_cons (pg_name (i := 6) nd rfl (.inl rfl)) pgs_nil))))
        (Evl.pss_cut (ps_set (i := 7) nd rfl (.inl rfl) (pe_call (E := E0) GS (hr.mono (by decide)) (by rfl) (g_Lsaid T) kS bS .nil pass0 (pa_cons (pe_glob (v := .ref (He.ga K "tree_of")) (by rfl) (g_tree_of T) rfl) (pa_cons (pv 5) pa_nil))))
        (Evl.pss_cut (ps_if (pt_chain op_le op_le (pv 2) (pv 4) (pv 3)) (pss_one (ps_set (i := 8) nd rfl (.inl rfl) pe_str))
            (pss_one (ps_if (pt_cmpR op_eq (pv 2) pe_int (nomark _)) (pss_one (ps_set (i := 8) nd rfl (.inl rfl) (pe_tup (pa_cons pe_str (pa_cons (pe_ix ix_list (pv 6) pe_int (fun _ _ => rfl)) pa_nil)))))
              (pss_one (ps_if (pt_cmpR op_lt (pv 4) (pv 2) (nomark _)) (pss_one (ps_set (i := 8) nd rfl (.inl rfl) (pe_tup (pa_cons pe_str (pa_cons (pe_ix ix_list (pv 6) (pe_un un_neg pe_int) (fun _ _ => rfl)) pa_nil)))))
                (pss_one (ps_set (i := 8) nd rfl (.inl rfl) (pe_tup (pa_cons pe_str (pa_cons (pe_ifExp (pt_cmpR op_eq (pv 3) pe_int (nomark _)) (pe_ix ix_list (pv 6) pe_int (fun _ _ => rfl)) (pe_ix ix_list (pv 6) (pe_op op_mul pe_int (pv 3)) (fun _ _ => rfl))) pa_nil))))))))))
        (pss_one (ps_if (pt_cmpR (op_neD hr.units) (pv 7) (pv 8) (nomark _)) (pss_one (ps_ret pe_bl)) pss_nil))))))
      (pss_one (ps_ret pe_bl))), ?_⟩
    refine ⟨5, rfl, by decide, by decide, ?_⟩
    refine for_it walk_range (fun k σ H4 => SameB p H H4 ∧ Wl H4 p ∧ ∃ v4 v5 v6 v7 v8 : Option V, σ = [some (.ref p), some (.str wd), some (.int (lo : Int)), some (.int (hi : Int)), v4, v5, v6, v7, v8])
      ⟨SameB.refl _ _, hw, _, _, _, _, _, rfl⟩ (fun _ _ _ _ _ => trivial) ?_ ?_
    · rintro k x σ H4' H4 hk ⟨b4, hw4, v4, v5, v6, v7, v8, rfl⟩ ⟨rfl, rfl⟩
      have hk5 : k < 5 := hk
      have ek : (0 : Int) + (k : Int) = ((k : Nat) : Int) := by omega
      show tSeq _ _ _ ([some (V.ref p), some (.str wd), some (.int (lo : Int)), some (.int (hi : Int)), some (.int (0 + (k : Int))), v5, v6, v7, v8]) _
      rw [ek]
      refine ⟨_, rfl, _, rfl, _, rfl, p, wd, k, rfl, hw4, hwl, by omega, fun H5 t L z a0 a1 as b5 hw5 ht0 ht hL h0 h1 hg hm hz => ?_⟩
      refine ⟨t, _, rfl, SqT.of ht, rfl, _, _, rfl, _, _, rfl, rfl, ?_⟩
      have hgd : Gd z := call_gd h0 hwg (by rw [← len_tl]; exact hwl) h1 hg (by omega) hz
      have hev := call_res h0 hwi h1 hg (by omega) hz
      obtain ⟨p0, hp0⟩ : ∃ q, q = a0.length + (tl wd).length + a1.length := ⟨_, rfl⟩
      rw [← hp0] at hL hev
      rw [hm] at hev
      generalize hwn : wantN lo hi k (spO p0 as) = want at hev
      refine ⟨fun σ H6 => ∃ (v : V) (u8 : Option V), σ = [some (.ref p), some (.str wd), some (.int (lo : Int)), some (.int (hi : Int)), some (.int (k : Int)), some (.str z), some (.ref L), some v, u8] ∧ Same H5 H6 ∧ DueAt H6 v want, ?_, ?_⟩
      · refine ⟨_, rfl, .inl ⟨z, want, rfl, hgd, hev, ?_⟩⟩
        cases want with
        | none => exact fun H6 s6 => ⟨_, _, rfl, s6, rfl⟩
        | some q => exact fun H6 t6 s6 _ ht6 => ⟨_, _, rfl, s6, t6, rfl, ht6⟩
      · rintro σ H6 ⟨v, u8, rfl, s6, hv⟩
        have hL6 := s6 _ _ hL
        refine ⟨fun σ H7 => ∃ (u : V), σ = [some (.ref p), some (.str wd), some (.int (lo : Int)), some (.int (hi : Int)), some (.int (k : Int)), some (.str z), some (.ref L), some v, some u] ∧ Same H6 H7 ∧ DueAt H7 u want, ?_, ?_⟩
        · refine ⟨_, rfl, _, rfl, _, _, rfl, rfl, _, rfl, ?_⟩
          refine ite2 (fun y1 => ?_) (fun y1 => ?_)
          · refine ⟨_, rfl, _, _, rfl, rfl, _, rfl, ?_⟩
            refine ite2 (fun y2 => ?_) (fun y2 => ?_)
            · have hw0 : want = none := by
                have e1 := of_decide_eq_true y1
                have e2 := of_decide_eq_true y2
                rw [← hwn]
                unfold wantN
                rw [if_pos ⟨by omega, by omega⟩]
              exact ⟨_, rfl, Same.refl _, by rw [hw0]; rfl⟩
            · have hno : ¬ (lo ≤ k ∧ k ≤ hi) := by
                have := of_decide_eq_false (Bool.eq_false_iff.mpr y2)
                omega
              refine ⟨_, rfl, rfl, _, rfl, ?_⟩
              refine ite2 (fun y3 => ?_) (fun y3 => ?_)
              · have hlo : lo = 9 := by
                  have := V.int.inj (of_decide_eq_true y3)
                  omega
                have hw0 : want = some p0 := by
                  rw [← hwn]
                  unfold wantN
                  rw [if_neg hno, if_pos hlo]
                  cases as <;> rfl
                have hx0 : (nV (spO p0 as))[0]? = some (.int (p0 : Int)) := by cases as <;> rfl
                exact ⟨_, rfl, L, _, 0, _, rfl, rfl, SqL.of hL6, atI_nat hx0, (by show 2 ≤ sizeLine; decide), fun t ht => ⟨_, rfl, same_new ht, by rw [hw0]; exact ⟨t, rfl, upd_same⟩⟩⟩
              · have hlo : ¬ lo = 9 := fun e => y3 (decide_eq_true (by rw [e]; rfl))
                refine ⟨_, rfl, _, rfl, _, _, rfl, rfl, _, rfl, ?_⟩
                refine ite2 (fun y4 => ?_) (fun y4 => ?_)
                · have hlt : k < lo := by
                    have := of_decide_eq_true y4
                    omega
                  obtain ⟨q, hq1, hq2⟩ := spO_last p0 as
                  have hw0 : want = some q := by
                    rw [← hwn]
                    unfold wantN
                    rw [if_neg hno, if_neg hlo, if_pos hlt, hq1]
                  exact ⟨_, rfl, _, rfl, L, _, -1, _, rfl, rfl, SqL.of hL6, hq2, (by show 2 ≤ sizeLine; decide), fun t ht => ⟨_, rfl, same_new ht, by rw [hw0]; exact ⟨t, rfl, upd_same⟩⟩⟩
                · have hlt : ¬ k < lo := by
                    have := of_decide_eq_false (Bool.eq_false_iff.mpr y4)
                    omega
                  have hw0 : want = (spO p0 as)[if hi = 0 then 1 else 2 * hi]? := by
                    rw [← hwn]
                    unfold wantN
                    rw [if_neg hno, if_neg hlo, if_neg hlt]
                  have hlk : hi < k := by
                    have e1 : ¬ (lo ≤ k ∧ k ≤ hi) := hno
                    omega
                  have hsome : ∃ q, (spO p0 as)[if hi = 0 then 1 else 2 * hi]? = some q := by
                    refine ⟨_, List.getElem?_eq_getElem ?_⟩
                    have hl2 := spO_len p0 as
                    split <;> omega
                  obtain ⟨q, hq⟩ := hsome
                  rw [hq] at hw0
                  refine ⟨_, rfl, rfl, _, rfl, ?_⟩
                  refine ite2 (fun y5 => ?_) (fun y5 => ?_)
                  · have h0 : hi = 0 := by
                      have := V.int.inj (of_decide_eq_true y5)
                      omega
                    rw [if_pos h0] at hq
                    exact ⟨_, rfl, L, _, 1, _, rfl, rfl, SqL.of hL6, atI_nat (nV_get hq), (by show 2 ≤ sizeLine; decide), fun t ht => ⟨_, rfl, same_new ht, by rw [hw0]; exact ⟨t, rfl, upd_same⟩⟩⟩
                  · have h0 : ¬ hi = 0 := fun e => y5 (decide_eq_true (by rw [e]; rfl))
                    rw [if_neg h0] at hq
                    have hat : atI (nV (spO p0 as)) ((2 : Int) * (hi : Int)) = some (.int (q : Int)) := by
                      rw [show (2 : Int) * (hi : Int) = ((2 * hi : Nat) : Int) by omega]
                      exact atI_nat (nV_get hq)
                    exact ⟨_, rfl, _, rfl, _, _, rfl, rfl, .inl ⟨by decide, by decide⟩, L, _, _, _, rfl, rfl, SqL.of hL6, hat, (by show 2 ≤ sizeLine; decide), fun t ht => ⟨_, rfl, same_new ht, by rw [hw0]; exact ⟨t, rfl, upd_same⟩⟩⟩
          · have hno : ¬ (lo ≤ k ∧ k ≤ hi) := by
              have := of_decide_eq_false (Bool.eq_false_iff.mpr y1)
              omega
            refine ⟨false, rfl, ?_⟩
            refine iteF ?_
            refine ⟨_, rfl, rfl, _, rfl, ?_⟩
            refine ite2 (fun y3 => ?_) (fun y3 => ?_)
            · have hlo : lo = 9 := by
                have := V.int.inj (of_decide_eq_true y3)
                omega
              have hw0 : want = some p0 := by
                rw [← hwn]
                unfold wantN
                rw [if_neg hno, if_pos hlo]
                cases as <;> rfl
              have hx0 : (nV (spO p0 as))[0]? = some (.int (p0 : Int)) := by cases as <;> rfl
              exact ⟨_, rfl, L, _, 0, _, rfl, rfl, SqL.of hL6, atI_nat hx0, (by show 2 ≤ sizeLine; decide), fun t ht => ⟨_, rfl, same_new ht, by rw [hw0]; exact ⟨t, rfl, upd_same⟩⟩⟩
            · have hlo : ¬ lo = 9 := fun e => y3 (decide_eq_true (by rw [e]; rfl))
              refine ⟨_, rfl, _, rfl, _, _, rfl, rfl, _, rfl, ?_⟩
              refine ite2 (fun y4 => ?_) (fun y4 => ?_)
              · have hlt : k < lo := by
                  have := of_decide_eq_true y4
                  omega
                obtain ⟨q, hq1, hq2⟩ := spO_last p0 as
                have hw0 : want = some q := by
                  rw [← hwn]
                  unfold wantN
                  rw [if_neg hno, if_neg hlo, if_pos hlt, hq1]
                exact ⟨_, rfl, _, rfl, L, _, -1, _, rfl, rfl, SqL.of hL6, hq2, (by show 2 ≤ sizeLine; decide), fun t ht => ⟨_, rfl, same_new ht, by rw [hw0]; exact ⟨t, rfl, upd_same⟩⟩⟩
              · have hlt : ¬ k < lo := by
                  have := of_decide_eq_false (Bool.eq_false_iff.mpr y4)
                  omega
                have hw0 : want = (spO p0 as)[if hi = 0 then 1 else 2 * hi]? := by
                  rw [← hwn]
                  unfold wantN
                  rw [if_neg hno, if_neg hlo, if_neg hlt]
                have hlk : hi < k := by
                  have e1 : ¬ (lo ≤ k ∧ k ≤ hi) := hno
                  omega
                have hsome : ∃ q, (spO p0 as)[if hi = 0 then 1 else 2 * hi]? = some q := by
                  refine ⟨_, List.getElem?_eq_getElem ?_⟩
                  have hl2 := spO_len p0 as
                  split <;> omega
                obtain ⟨q, hq⟩ := hsome
                rw [hq] at hw0
                refine ⟨_, rfl, rfl, _, rfl, ?_⟩
                refine ite2 (fun y5 => ?_) (fun y5 => ?_)
                · have h0 : hi = 0 := by
                    have := V.int.inj (of_decide_eq_true y5)
                    omega
                  rw [if_pos h0] at hq
                  exact ⟨_, rfl, L, _, 1, _, rfl, rfl, SqL.of hL6, atI_nat (nV_get hq), (by show 2 ≤ sizeLine; decide), fun t ht => ⟨_, rfl, same_new ht, by rw [hw0]; exact ⟨t, rfl, upd_same⟩⟩⟩
                · have h0 : ¬ hi = 0 := fun e => y5 (decide_eq_true (by rw [e]; rfl))
                  rw [if_neg h0] at hq
                  have hat : atI (nV (spO p0 as)) ((2 : Int) * (hi : Int)) = some (.int (q : Int)) := by
                    rw [show (2 : Int) * (hi : Int) = ((2 * hi : Nat) : Int) by omega]
                    exact atI_nat (nV_get hq)
                  exact ⟨_, rfl, _, rfl, _, _, rfl, rfl, .inl ⟨by decide, by decide⟩, L, _, _, _, rfl, rfl, SqL.of hL6, hat, (by show 2 ≤ sizeLine; decide), fun t ht => ⟨_, rfl, same_new ht, by rw [hw0]; exact ⟨t, rfl, upd_same⟩⟩⟩
        · rintro σ H7 ⟨u, rfl, s7, hu⟩
          have hv7 := hv.keep s7
          refine ⟨_, rfl, _, rfl, _, _, hv7.dp, hu.dp, dueP_ok _, dueP_ok _, _, rfl, ?_⟩
          rw [dueP_eq]
          refine iteF ?_
          have s57 := s6.trans s7
          exact ⟨(b4.trans b5).trans (.of s57), hw5.at s57, _, _, _, _, _, rfl⟩
    · rintro σ H4 ⟨b4, hw4, v4, v5, v6, v7, v8, rfl⟩
      exact kk H4 b4 hw4
end
end PX
/-! PQq -/
namespace PX
open PySem PySem.Spec PyProof.Rows L2 TL
def okW (r : Rw) : Bool := (Txt.split r.1 (Str.ofString " ")).all fun wd => wdIs r.2.1 r.2.2 (tl wd) && (decide (wd.length ≤ 100) && (tl wd).all isSg)
theorem rows_ok : ∀ r ∈ rowsL, okW r = true := by decide +kernel
theorem rows_len : ∀ r ∈ rowsL, r.1.length ≤ 1000 := by decide +kernel
theorem row_word {r : Rw} (hr : r ∈ rowsL) {wd : Str} (hw : wd ∈ Txt.split r.1 (Str.ofString " ")) : wdIs r.2.1 r.2.2 (tl wd) = true ∧ wd.length ≤ 100 ∧ (tl wd).all isSg = true := by
  have h := rows_ok r hr
  unfold okW at h
  have := List.all_eq_true.mp h wd hw
  rw [Bool.and_eq_true, Bool.and_eq_true, decide_eq_true_eq] at this
  exact this
def tBv (K : PySem.W.Frag) (v : V) : TE := fun σ H Q => ∀ d, H d = none → ∀ a, upd H d (.xd [("why", v)]) a = none → Q (.ref a) (upd (upd H d (.xd [("why", v)])) a (ExD (.ref (CB K)) (some d) a))
theorem pe_bv {X : Cx} {K : PySem.W.Frag} {mg : Str → Option Value} {w : World} {e : Expr} {p p2 : Pos} {v : V} (hK : X.K = K) (hm : X.mg = mg) (hw : X.w = w) (T : Tx w K mg) (hr : Room 3 X.A) (ha : PA X (e :: []) (tCons (tC v) tNil)) (hg : Gl X "BadValue" := by rfl)
    (hs : starEach (e :: []) X.env = (false, eval e X.env) :: starEach [] X.env := by rfl) (hpl : (backTo p2 (starEach [] X.env)).any (·.1) = false := by rfl) : PE X (.Call (.Name "BadValue" p) (e :: []) [] p2) (tBv K v) := by
  subst hK hm hw
  exact ⟨fun pins s σ H Q I h => (pe_mk (pmk_bv T hr ha hg hs hpl)).run pins s σ H Q I (bv_ok (K := X.K) (H1 := H) (y := v) (Q := fun cls d H1 => ∀ a, H1 a = none → Q (.ref a) (upd H1 a (ExD cls d a))) fun d hd a ha => h d hd a ha)⟩
theorem sqL_keep {K : PySem.W.Frag} {H H' : Hp} {a : Addr} {xs : List V} (h : SqL K H a xs) (s : Same H H') : SqL K H' a xs := by
  rcases h with h | h
  · refine .inl ?_
    rcases h with h | ⟨o, h⟩
    · exact .inl (s _ _ h)
    · exact .inr ⟨o, s _ _ h⟩
  · exact .inr h
section
variable {P : Program} {w : World} {K : PySem.W.Frag} {mg : Str → Option Value} {base : Heap}
def spLaw (K : PySem.W.Frag) : Sp := fun vs H Q _ => ∃ (a : Addr) (ns : List Int), vs = [.ref a] ∧ SqL K H a (ns.map V.int) ∧ ∀ H', Q (.bl true) H'
theorem ok_law (T : Tx w K mg) {fd : FuncData} (F : FnP K d_law fd) : FnOk P w K mg base CX0 33 (He.fAd K d_law.at_) fd p_law (spLaw K) := by
  obtain ⟨fS, GS, bS, kS⟩ := ok_Lsaid (P := P) (base := base) T
  obtain ⟨fT, GT, bT, kT⟩ := ok_Lstate (P := P) (base := base) T
  obtain ⟨fW, GW, bW, kW⟩ := ok_Lwords (P := P) (base := base) T
  obtain ⟨fC, GC, bC, kC⟩ := ok_Lcall_right (P := P) (base := base) T
  refine F.ok sc_law (fun vs H Q E h => ?_) (fun cdv A outer s H vs Q E hr h => ?_)
  · obtain ⟨a, ns, rfl, _⟩ := h
    rfl
  · obtain ⟨a, ns, rfl, ha, kk⟩ := h
    have nd := sc_law.nd
    refine ⟨_, PSs.nox (pss_cons (ps_set (i := 1) nd rfl (.inl rfl) (pe_lst (pa_cons (pe_glob (v := .ref (He.ga K "tokens")) (by rfl) (g_tokens T) rfl) (pa_cons (pe_glob (v := .ref (He.ga K "tree_of")) (by rfl) (g_tree_of T) rfl) (pa_cons (pe_glob (v := .ref (He.ga K "canonical")) (by rfl) (g_canonical T) rfl) (pa_cons (pe_glob (v := .ref (He.ga K "abbreviated")) (by rfl) (g_abbreviated T) rfl) pa_nil))))))
      (pss_cons (ps_for PassesOwn.never rfl (pi_list (pe_lst (pa_cons pe_non (pa_cons pe_bl (pa_cons pe_int (pa_cons (pe_op op_pow pe_int pe_int) (pa_cons (pe_lst pa_nil) (pa_cons (pe_lst (pa_cons pe_str pa_nil)) (pa_cons (pe_tup pa_nil) (pa_cons (pe_tup (pa_cons pe_str pa_nil)) (pa_cons pe_dnewK
            (pa_cons (pe_bv (K := K) (mg := mg) (w := w) rfl rfl rfl T (hr.mono (by decide)) (pa_cons pe_str pa_nil)) (pa_cons (pe_lst (pa_cons (pe_lst pa_nil) pa_nil)) pa_nil))))))))))))) (pg_name (i := 2) nd rfl (.inr rfl))
          (pss_one (ps_if (pt_cmpR (op_neD hr.units) (pe_lc (own := [("_law_ask", 9)]) (g := gName 9) (tt := tYes) (by rfl) nd (pi_list (pv 1)) (blkOk_by (own := [("_law_ask", 9)]) (N := N_law) (sc := defScope s_law) (by decide +kernel))
              (fun _ _ _ _ _ => pg_name (i := 9) nd rfl (Or.inl rfl)) (fun _ _ _ _ _ => pts_nil)
              (fun _ _ _ _ _ => pe_call (E := E0) GS (hr.mono (by decide)) (by rfl) (g_Lsaid T) kS bS .nil pass0 (pa_cons (pv 9) (pa_cons (pv 2) pa_nil))))
              (pe_op op_rep (pe_lst (pa_cons pe_str pa_nil)) pe_int) (nomark _)) (pss_one (ps_ret pe_bl)) pss_nil)))
      (pss_cons (ps_for PassesOwn.never rfl (pi_range1 (by rfl) (n_range T) (pa_cons (pe_callB (call_max2 rfl) (by rfl) (n_max T) boot_max (pa_cons pe_int (pa_cons (pe_callB (call_min2 rfl) (by rfl) (n_min T) boot_min (pa_cons pe_int (pa_cons (pe_callB call_len (by rfl) (n_len T) PySem.boot_len (pa_cons (pv 0) pa_nil)) pa_nil))) pa_nil))) pa_nil)) (pg_name (i := 3) nd rfl (.inl rfl))
          (pss_cons (ps_set (i := 4) nd rfl (.inl rfl) (pe_call (E := E0) GT (hr.mono (by decide)) (by rfl) (g_Lstate T) kT bT .nil pass0 (pa_cons (pv 0) (pa_cons (pv 3) pa_nil))))
          (pss_one (ps_for PassesOwn.never rfl (pi_list (pe_call0 (E := E0) GW (hr.mono (by decide)) (by rfl) (g_Lwords T) kW bW .nil pass0)) (pg_tup (by rfl) (pgs_cons (pg_name (i := 5) nd rfl (.inl rfl)) (pgs_cons (pg_name (i := 6) nd rfl (.inl rfl)) (pgs_cons (pg_name (i := 7) nd rfl (.inl rfl)) pgs_nil))))
            (pss_one (ps_for PassesOwn.never rfl (pi_list (pe_m1 PySem.F.slot_str_split PySem.F.type_str_split mt_split (pv 5) pe_str)) (pg_name (i := 8) nd rfl (.inl rfl))
              (pss_one (ps_if (pt_not (pt_val (pe_call (E := E0) GC (hr.mono (by decide)) (by rfl) (g_Lcall_right T) kC bC .nil pass0 (pa_cons (pv 4) (pa_cons (pv 8) (pa_cons (pv 6) (pa_cons (pv 7) pa_nil))))))) (pss_one (ps_ret pe_bl)) pss_nil))))))))
      (pss_one (ps_ret pe_bl))))), ?_⟩
    have hI := x_isx T
    unfold isB at hI
    simp only [Bool.and_eq_true, decide_eq_true_eq] at hI
    obtain ⟨xB, _, _, _, _, kBs⟩ := hI
    refine ⟨(by show 4 ≤ sizeLine; decide), fun A hA => ?_⟩
    show tSeq _ _ _ _ (upd H A (.lst ((asks K).map V.ref)))
    have s1 : Same H (upd H A (.lst ((asks K).map V.ref))) := same_new hA
    have eA : upd H A (.lst ((asks K).map V.ref)) A = some (.lst ((asks K).map V.ref)) := upd_same
    have tot := s1
    generalize upd H A (.lst ((asks K).map V.ref)) = G1 at s1 tot eA ⊢
    refine ⟨_, _, rfl, rfl, ⟨by decide, by decide, by decide⟩, ?_⟩
    refine ⟨(by decide), fun q1 hq1 => ?_⟩
    have s2 : Same G1 (upd G1 q1 (.lst [])) := same_new hq1
    have eq1 : upd G1 q1 (.lst []) q1 = some (.lst []) := upd_same
    replace eA := s2 _ _ eA
    replace tot := tot.trans s2
    generalize upd G1 q1 (.lst []) = G2 at s2 tot eA eq1 ⊢
    refine ⟨(by show 1 ≤ sizeLine; decide), fun q2 hq2 => ?_⟩
    have s3 : Same G2 (upd G2 q2 (.lst [.str (Str.ofString "a")])) := same_new hq2
    have eq2 : upd G2 q2 (.lst [.str (Str.ofString "a")]) q2 = some (.lst [.str (Str.ofString "a")]) := upd_same
    replace eA := s3 _ _ eA
    replace eq1 := s3 _ _ eq1
    replace tot := tot.trans s3
    generalize upd G2 q2 (.lst [.str (Str.ofString "a")]) = G3 at s3 tot eA eq1 eq2 ⊢
    refine ⟨(by decide), fun q3 hq3 => ?_⟩
    have s4 : Same G3 (upd G3 q3 (.tup [])) := same_new hq3
    have eq3 : upd G3 q3 (.tup []) q3 = some (.tup []) := upd_same
    replace eA := s4 _ _ eA
    replace eq1 := s4 _ _ eq1
    replace eq2 := s4 _ _ eq2
    replace tot := tot.trans s4
    generalize upd G3 q3 (.tup []) = G4 at s4 tot eA eq1 eq2 eq3 ⊢
    refine ⟨(by show 1 ≤ sizeLine; decide), fun q4 hq4 => ?_⟩
    have s5 : Same G4 (upd G4 q4 (.tup [.str (Str.ofString "a")])) := same_new hq4
    have eq4 : upd G4 q4 (.tup [.str (Str.ofString "a")]) q4 = some (.tup [.str (Str.ofString "a")]) := upd_same
    replace eA := s5 _ _ eA
    replace eq1 := s5 _ _ eq1
    replace eq2 := s5 _ _ eq2
    replace eq3 := s5 _ _ eq3
    replace tot := tot.trans s5
    generalize upd G4 q4 (.tup [.str (Str.ofString "a")]) = G5 at s5 tot eA eq1 eq2 eq3 eq4 ⊢
    intro q5 hq5
    have s6 : Same G5 (upd G5 q5 (.dK [])) := same_new hq5
    have eq5 : upd G5 q5 (.dK []) q5 = some (.dK []) := upd_same
    replace eA := s6 _ _ eA
    replace eq1 := s6 _ _ eq1
    replace eq2 := s6 _ _ eq2
    replace eq3 := s6 _ _ eq3
    replace eq4 := s6 _ _ eq4
    replace tot := tot.trans s6
    generalize upd G5 q5 (.dK []) = G6 at s6 tot eA eq1 eq2 eq3 eq4 eq5 ⊢
    intro q6 hq6
    have s7 : Same G6 (upd G6 q6 (.xd [("why", .str (Str.ofString "x"))])) := same_new hq6
    have eq6 : upd G6 q6 (.xd [("why", .str (Str.ofString "x"))]) q6 = some (.xd [("why", .str (Str.ofString "x"))]) := upd_same
    replace eA := s7 _ _ eA
    replace eq1 := s7 _ _ eq1
    replace eq2 := s7 _ _ eq2
    replace eq3 := s7 _ _ eq3
    replace eq4 := s7 _ _ eq4
    replace eq5 := s7 _ _ eq5
    replace tot := tot.trans s7
    generalize upd G6 q6 (.xd [("why", .str (Str.ofString "x"))]) = G7 at s7 tot eA eq1 eq2 eq3 eq4 eq5 eq6 ⊢
    intro q7 hq7
    have s8 : Same G7 (upd G7 q7 (ExD (.ref (CB K)) (some q6) q7)) := same_new hq7
    have eq7 : upd G7 q7 (ExD (.ref (CB K)) (some q6) q7) q7 = some (ExD (.ref (CB K)) (some q6) q7) := upd_same
    replace eA := s8 _ _ eA
    replace eq1 := s8 _ _ eq1
    replace eq2 := s8 _ _ eq2
    replace eq3 := s8 _ _ eq3
    replace eq4 := s8 _ _ eq4
    replace eq5 := s8 _ _ eq5
    replace eq6 := s8 _ _ eq6
    replace tot := tot.trans s8
    generalize upd G7 q7 (ExD (.ref (CB K)) (some q6) q7) = G8 at s8 tot eA eq1 eq2 eq3 eq4 eq5 eq6 eq7 ⊢
    refine ⟨(by decide), fun q8 hq8 => ?_⟩
    have s9 : Same G8 (upd G8 q8 (.lst [])) := same_new hq8
    have eq8 : upd G8 q8 (.lst []) q8 = some (.lst []) := upd_same
    replace eA := s9 _ _ eA
    replace eq1 := s9 _ _ eq1
    replace eq2 := s9 _ _ eq2
    replace eq3 := s9 _ _ eq3
    replace eq4 := s9 _ _ eq4
    replace eq5 := s9 _ _ eq5
    replace eq6 := s9 _ _ eq6
    replace eq7 := s9 _ _ eq7
    replace tot := tot.trans s9
    generalize upd G8 q8 (.lst []) = G9 at s9 tot eA eq1 eq2 eq3 eq4 eq5 eq6 eq7 eq8 ⊢
    refine ⟨(by show 1 ≤ sizeLine; decide), fun q9 hq9 => ?_⟩
    have s10 : Same G9 (upd G9 q9 (.lst [.ref q8])) := same_new hq9
    have eq9 : upd G9 q9 (.lst [.ref q8]) q9 = some (.lst [.ref q8]) := upd_same
    replace eA := s10 _ _ eA
    replace eq1 := s10 _ _ eq1
    replace eq2 := s10 _ _ eq2
    replace eq3 := s10 _ _ eq3
    replace eq4 := s10 _ _ eq4
    replace eq5 := s10 _ _ eq5
    replace eq6 := s10 _ _ eq6
    replace eq7 := s10 _ _ eq7
    replace eq8 := s10 _ _ eq8
    replace tot := tot.trans s10
    generalize upd G9 q9 (.lst [.ref q8]) = G10 at s10 tot eA eq1 eq2 eq3 eq4 eq5 eq6 eq7 eq8 eq9 ⊢
    refine ⟨(by show 11 ≤ sizeLine; decide), fun L hL => ?_⟩
    have s11 : Same G10 (upd G10 L (.lst [V.non, .bl true, .int 0, .int ((10 : Int) ^ (30 : Int).toNat), .ref q1, .ref q2, .ref q3, .ref q4, .ref q5, .ref q7, .ref q9])) := same_new hL
    have eL : upd G10 L (.lst [V.non, .bl true, .int 0, .int ((10 : Int) ^ (30 : Int).toNat), .ref q1, .ref q2, .ref q3, .ref q4, .ref q5, .ref q7, .ref q9]) L = some (.lst [V.non, .bl true, .int 0, .int ((10 : Int) ^ (30 : Int).toNat), .ref q1, .ref q2, .ref q3, .ref q4, .ref q5, .ref q7, .ref q9]) := upd_same
    replace eA := s11 _ _ eA
    replace eq1 := s11 _ _ eq1
    replace eq2 := s11 _ _ eq2
    replace eq3 := s11 _ _ eq3
    replace eq4 := s11 _ _ eq4
    replace eq5 := s11 _ _ eq5
    replace eq6 := s11 _ _ eq6
    replace eq7 := s11 _ _ eq7
    replace eq8 := s11 _ _ eq8
    replace eq9 := s11 _ _ eq9
    replace tot := tot.trans s11
    generalize upd G10 L (.lst [V.non, .bl true, .int 0, .int ((10 : Int) ^ (30 : Int).toNat), .ref q1, .ref q2, .ref q3, .ref q4, .ref q5, .ref q7, .ref q9]) = G11 at s11 tot eA eq1 eq2 eq3 eq4 eq5 eq6 eq7 eq8 eq9 eL ⊢
    have hodd : ∀ x ∈ [V.non, .bl true, .int 0, .int ((10 : Int) ^ (30 : Int).toNat), .ref q1, .ref q2, .ref q3, .ref q4, .ref q5, .ref q7, .ref q9], ∀ H', Same G11 H' → ∃ t, TyY K H' x t ∧ PySem.W.kitOne K t (.type "str") = some false := by
      intro x hx H' s
      simp only [List.mem_cons, List.not_mem_nil, or_false] at hx
      rcases hx with rfl | rfl | rfl | rfl | rfl | rfl | rfl | rfl | rfl | rfl | rfl
      · exact ⟨.type "NoneType", .inl (.base .non), kit_ty (by decide)⟩
      · exact ⟨.type "bool", .inl (.base (.bl true)), kit_ty (by decide)⟩
      · exact ⟨.type "int", .inl (.base (.int 0)), kit_ty (by decide)⟩
      · exact ⟨.type "int", .inl (.base (.int _)), kit_ty (by decide)⟩
      · exact ⟨.type "list", .inl (.base (.lst (s _ _ eq1))), kit_ty (by decide)⟩
      · exact ⟨.type "list", .inl (.base (.lst (s _ _ eq2))), kit_ty (by decide)⟩
      · exact ⟨.type "tuple", .inl (.base (.tup (s _ _ eq3))), kit_ty (by decide)⟩
      · exact ⟨.type "tuple", .inl (.base (.tup (s _ _ eq4))), kit_ty (by decide)⟩
      · exact ⟨.type "dict", .inl (.base (.dK (s _ _ eq5))), kit_ty (by decide)⟩
      · exact ⟨.ref (CB K), .inr ⟨q7, CB K, q6, _, rfl, rfl, s _ _ eq7, excB_ok xB, s _ _ eq6⟩, kBs⟩
      · exact ⟨.type "list", .inl (.base (.lst (s _ _ eq9))), kit_ty (by decide)⟩
    generalize [V.non, .bl true, .int 0, .int ((10 : Int) ^ (30 : Int).toNat), .ref q1, .ref q2, .ref q3, .ref q4, .ref q5, .ref q7, .ref q9] = odds at eL hodd
    refine ⟨L, rfl, ⟨_, SqL.of eL⟩, ?_⟩
    refine for_it (walk_list (K := K) (a := L) (xs := odds)) (fun k σ H4 => Same G11 H4 ∧ ∃ v2 : Option V, σ = [some (.ref a), some (.ref A), v2, none, none, none, none, none, none, none])
      ⟨Same.refl _, none, rfl⟩ (fun k σ H4 _ h => SqL.of (h.1 _ _ eL)) ?_ ?_
    · rintro k x σ H4' H4 hk ⟨s4, v2, rfl⟩ ⟨rfl, hx⟩
      have hxm : x ∈ odds := List.mem_of_getElem? hx
      have hA4 := s4 _ _ eA
      refine ⟨_, rfl, A, rfl, ⟨_, SqL.of hA4⟩, fun D hD => ?_⟩
      refine lc_it (walk_list (K := K) (a := A) (xs := (asks K).map V.ref)) (fun t H6 => Same H4 H6 ∧ H6 D = some (.lst (List.replicate t (.str (Str.ofString "bad")))))
        ⟨same_new hD, upd_same⟩ (fun t H6 _ h => SqL.of (h.1 _ _ hA4)) ?_ ?_
      · rintro t y H6' H6 ht ⟨s6, hD6⟩ ⟨rfl, hy⟩
        obtain ⟨f, hf, rfl⟩ := List.mem_map.mp (List.mem_of_getElem? hy)
        obtain ⟨ty, h1, h2⟩ := hodd x hxm H6 (s4.trans s6)
        refine ⟨rfl, _, rfl, _, rfl, .inr ⟨f, hf, x, ty, rfl, h1, h2, fun H7 s7 => ?_⟩⟩
        have ht4 : t < 4 := ht
        refine ⟨_, s7 _ _ hD6, by rw [List.length_replicate, sizeLine_eq]; omega, same_upd0 (s6.trans s7) hD, ?_⟩
        rw [upd_same, List.replicate_succ']
      · rintro H6 ⟨s6, hD6⟩
        refine ⟨(by show 1 ≤ sizeLine; decide), fun q hq => ?_⟩
        refine ⟨q, 4, [.str (Str.ofString "bad")], rfl, rfl, upd_same, by decide, by decide, (by show 1 * 4 ≤ sizeLine; decide), fun p hp => ?_⟩
        have t1 := same_new hq (o := .lst [.str (Str.ofString "bad")])
        have t2 := same_new hp (o := .lst (List.replicate (4 : Int).toNat [V.str (Str.ofString "bad")]).flatten)
        have hD8 := t2 _ _ (t1 _ _ hD6)
        have hp8 : upd (upd H6 q (.lst [.str (Str.ofString "bad")])) p (.lst (List.replicate (4 : Int).toNat [V.str (Str.ofString "bad")]).flatten) p = some (.lst [.str (Str.ofString "bad"), .str (Str.ofString "bad"), .str (Str.ofString "bad"), .str (Str.ofString "bad")]) := upd_same
        have hd : SeqAt.shaped (.list [.str (Str.ofString "bad"), .str (Str.ofString "bad"), .str (Str.ofString "bad"), .str (Str.ofString "bad")]) = true := by decide +kernel
        refine ⟨.list [.str (Str.ofString "bad"), .str (Str.ofString "bad"), .str (Str.ofString "bad"), .str (Str.ofString "bad")], .list [.str (Str.ofString "bad"), .str (Str.ofString "bad"), .str (Str.ofString "bad"), .str (Str.ofString "bad")],
          Dp.lst (SqL.of hD8) (.cons (.str _) (.cons (.str _) (.cons (.str _) (.cons (.str _) .nil)))), Dp.lst (SqL.of hp8) (.cons (.str _) (.cons (.str _) (.cons (.str _) (.cons (.str _) .nil)))), hd, hd, _, rfl, ?_⟩
        rw [SeqAt.eqv_refl _ (SeqAt.canLay_of_shaped hd)]
        refine iteF ?_
        exact ⟨((s4.trans s6).trans t1).trans t2, _, rfl⟩
    · rintro σ H4 ⟨s4, v2, rfl⟩
      have ha4 := sqL_keep ha (tot.trans s4)
      have hM : ∀ n : Int, 1 ≤ (if (if n < 5 then n else 5) > 1 then (if n < 5 then n else 5) else 1) ∧ (if (if n < 5 then n else 5) > 1 then (if n < 5 then n else 5) else (1 : Int)) ≤ 5 := by
        intro n
        split <;> split <;> omega
      refine ⟨_, rfl, _, (ns.map V.int).length, rfl, .inl ⟨_, ha4, rfl⟩, _, _, rfl, _, _, rfl, ?_⟩
      obtain ⟨m1, m2⟩ := hM (((ns.map V.int).length : Nat) : Int)
      generalize (if (if (((ns.map V.int).length : Nat) : Int) < 5 then (((ns.map V.int).length : Nat) : Int) else 5) > 1 then (if (((ns.map V.int).length : Nat) : Int) < 5 then (((ns.map V.int).length : Nat) : Int) else 5) else (1 : Int)) = M at m1 m2 ⊢
      refine ⟨M, rfl, by omega, by omega, ?_⟩
      refine for_it walk_range (fun k σ H5 => Same H4 H5 ∧ ∃ v2 v3 v4 v5 v6 v7 v8 v9 : Option V, σ = [some (.ref a), some (.ref A), v2, v3, v4, v5, v6, v7, v8, v9])
        ⟨Same.refl _, _, _, _, _, _, _, _, _, rfl⟩ (fun _ _ _ _ _ => trivial) ?_ ?_
      · rintro k x σ H5' H5 hk ⟨s5, v2, v3, v4, v5, v6, v7, v8, v9, rfl⟩ ⟨rfl, rfl⟩
        have hk5 : k < 5 := by
          have : k < M.toNat := hk
          omega
        have ek : (0 : Int) + (k : Int) = ((k : Nat) : Int) := by omega
        refine ⟨_, rfl, _, rfl, a, k, ns, by show [V.ref a, V.int (0 + (k : Int))] = _; rw [ek], sqL_keep ha4 s5, by omega, fun H6 p s6 hp hw6 => ?_⟩
        have hpn : H5 p = none := hp
        refine ⟨rfl, fun H7 L7 ts s7 hL7 hts => ?_⟩
        have hw7 := hw6.at s7
        have hLp : L7 ≠ p := by
          rintro rfl
          obtain ⟨u1, u2, u3, hu⟩ := hw7
          rw [hL7] at hu
          have e0 : ts = [V.int u1, .int u2, .int u3] := HO.lst.inj (Option.some.inj hu)
          obtain ⟨r, b, _, e1, _⟩ := hts.get (k := 0) (x := V.int u1) (by rw [e0]; rfl)
          cases e1
        have htl : ts.length = rowsL.length := hts.len
        refine ⟨L7, rfl, ⟨_, SqL.of hL7⟩, ?_⟩
        refine for_it (walk_list (K := K) (a := L7) (xs := ts)) (fun j σ H8 => SameB p H7 H8 ∧ Wl H8 p ∧ ∃ v2 v3 v5 v6 v7 v8 v9 : Option V, σ = [some (.ref a), some (.ref A), v2, v3, some (.ref p), v5, v6, v7, v8, v9])
          ⟨SameB.refl _ _, hw7, _, _, _, _, _, _, _, rfl⟩ (fun j σ H8 _ h => SqL.of (h.1 _ _ hLp hL7)) ?_ ?_
        · rintro j y σ H8' H8 hj ⟨s8, hw8, v2, v3, v5, v6, v7, v8, v9, rfl⟩ ⟨rfl, hy⟩
          obtain ⟨r, t, hr, rfl, ht⟩ := hts.get hy
          have hrm : r ∈ rowsL := List.mem_of_getElem? hr
          have htp : t ≠ p := by
            rintro rfl
            obtain ⟨u1, u2, u3, hu⟩ := hw7
            rw [ht] at hu
            cases hu
          have ht8 := s8 _ _ htp ht
          refine ⟨t, _, rfl, SqT.of ht8, rfl, _, _, rfl, _, _, rfl, _, _, rfl, rfl, ?_⟩
          have hrl := rows_len r hrm
          refine ⟨_, rfl, ⟨_, rfl⟩, _, _, rfl, rfl, rfl, (by rw [sizeLine_eq]; omega), fun W hW => ?_⟩
          have hWp : W ≠ p := hw8.ne hW
          have sW := same_new hW (o := .lst ((Txt.split r.1 (Str.ofString " ")).map V.str))
          have eW : upd H8 W (.lst ((Txt.split r.1 (Str.ofString " ")).map V.str)) W = some (.lst ((Txt.split r.1 (Str.ofString " ")).map V.str)) := upd_same
          have hw9 := hw8.at sW
          generalize upd H8 W (.lst ((Txt.split r.1 (Str.ofString " ")).map V.str)) = H9 at sW eW hw9 ⊢
          refine ⟨W, rfl, ⟨_, SqL.of eW⟩, ?_⟩
          refine for_it (walk_list (K := K) (a := W) (xs := (Txt.split r.1 (Str.ofString " ")).map V.str)) (fun i σ H10 => SameB p H9 H10 ∧ Wl H10 p ∧ ∃ v2 v3 v8 v9 : Option V, σ = [some (.ref a), some (.ref A), v2, v3, some (.ref p), some (.str r.1), some (.int (r.2.1 : Int)), some (.int (r.2.2 : Int)), v8, v9])
            ⟨SameB.refl _ _, hw9, _, _, _, _, rfl⟩ (fun i σ H10 _ h => SqL.of (h.1 _ _ hWp eW)) ?_ ?_
          · rintro i y σ H10' H10 hi ⟨s10, hw10, v2, v3, v8, v9, rfl⟩ ⟨rfl, hy⟩
            obtain ⟨wd, hwd, rfl⟩ := List.mem_map.mp (List.mem_of_getElem? hy)
            obtain ⟨w1, w2, w3⟩ := row_word hrm hwd
            refine ⟨_, rfl, _, rfl, _, rfl, _, rfl, p, wd, r.2.1, r.2.2, rfl, hw10, w1, w2, w3, fun H11 s11 hw11 => ?_⟩
            refine ⟨_, rfl, ?_⟩
            refine iteF ?_
            exact ⟨s10.trans s11, hw11, _, _, _, _, rfl⟩
          · rintro σ H10 ⟨s10, hw10, v2, v3, v8, v9, rfl⟩
            exact ⟨(s8.trans (.of sW)).trans s10, hw10, _, _, _, _, _, _, _, rfl⟩
        · rintro σ H8 ⟨s8, hw8, v2, v3, v5, v6, v7, v8, v9, rfl⟩
          refine ⟨fun b o hb => ?_, _, _, _, _, _, _, _, _, rfl⟩
          have hb5 := s5 _ _ hb
          have hbp : b ≠ p := ne_of_none hb5 hpn
          exact s8 _ _ hbp (s7 _ _ (s6 _ _ hb5))
      · rintro σ H5 ⟨s5, v2, v3, v4, v5, v6, v7, v8, v9, rfl⟩
        exact kk H5
end
end PX
/-! PXFin -/
open PySem PySem.W PySem.Calls PyProof.Rows
namespace PX
open PySem PySem.Spec PyProof.Rows L2
theorem tx_of {w : World} {K : PySem.W.Frag} {h : Heap} {mg : Str → Option Value} (X : K.In h) (G : h.Ns mainGlobals mg) (c : He.SaysT fa fn ts w K) (e : ex K = true) : Tx w K mg := by
  have h2 := congrArg Prod.snd c
  have h3 := List.cons.inj h2
  have h4 := List.cons.inj h3.2
  have h5 := List.cons.inj h4.2
  have h6 := List.cons.inj h5.2
  have h7 := List.cons.inj h6.2
  have h8 := List.cons.inj h7.2
  exact ⟨c.d, ⟨h, X, G⟩, h3.1, h4.1, h5.1, h6.1, h7.1, h8.1, e⟩
end PX
theorem PySem.Challenge.cw_pathloom_k20_what_is_no_text_and_no_call_holds : PySem.Challenge.rw_pathloom_k20_what_is_no_text_and_no_call.Holds := by
  w_on; o_law
  refine HandSHeadRun.head_any (r := OpenLaw.row PySem.Challenge.rw_pathloom_k20_what_is_no_text_and_no_call) (q := view (OpenLaw.row PySem.Challenge.rw_pathloom_k20_what_is_no_text_and_no_call).prog [73]) (H := PX.hk) (ob := PX.ob) (M := 60000) (loose := PX.names)
    (d := HandSHeadRun.topDef (OpenLaw.row PySem.Challenge.rw_pathloom_k20_what_is_no_text_and_no_call).prog 73) (kwd := []) PX.ob_eq
    (by kernel_rfl) (fun s => by kernel_rfl) PX.headRun (by kernel_rfl) (by kernel_rfl) (by kernel_rfl) (by rfl) (by first | assumption | decide +kernel) (by decide +kernel) ⟨rfl, rfl, rfl, rfl, rfl, by decide +kernel⟩ ?hw ?hc
  case hw => w_witness2
  case hc =>
    refine L2.walk_ofE (l := PySem.Challenge.rw_pathloom_k20_what_is_no_text_and_no_call) (n := 63) (k := 33) (x := "_law_script") (CX := L2.CX0) rfl (by decide) (by kernel_rfl) ⟨rfl, by decide, by decide⟩ ?F (fun _ _ _ _ z => z)
    intro w mg f h Y G hmg0
    obtain ⟨K, KX, c, e⟩ := Y
    have T := PX.tx_of KX G c e
    have hmg : mg ("law" : PySem.Str) = some (.ref f) := by
      have e2 : (HandSHeadRun.topDef (OpenLaw.row PySem.Challenge.rw_pathloom_k20_what_is_no_text_and_no_call).prog 73).name = ("law" : PySem.Str) := by kernel_rfl
      rw [← e2]
      exact hmg0
    have ef := hmg.symm.trans (PX.g_law T)
    cases ef
    obtain ⟨fd, F⟩ := PX.f_law T
    have b := L2.FunD.bindsA (ps := ["_law_script"]) F fun _ _ _ _ _ _ us hl => match us, hl with | [_], _ => rfl
    exact ⟨K, fd, PX.spLaw K, KX, fun s v => b s [v] rfl, fun H a ns hl _ hS => ⟨a, ns, rfl, hS, fun _ => rfl⟩, fun base _ _ => PX.ok_law T F⟩
