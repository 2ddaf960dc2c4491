
import PyProof.Rows.All
import Wide.All
import OpenK.AllK
import Wide.FinOn
import KE.KStateDown
import HandS.ForMost
import HandS.Walk
import HandS.IsInst
import HandS.TupAny
import HandS.Style
import HandS.More
import HandS.Codes
import HandS.Defaults
import HandS.WordsExc
import HandS.Head0
import HandS.Head1
import HandS.Head2
import HandS.HeadEnd
import HandS.HeadHook1
import HandS.HeadHook2
import HandS.HeadHook3
import HandS.Deep
import HandS.Strs
import HandS.Star
import HandS.CallLocal
import PySem.Challenge.RW_keepsgoing_k07_programs_written
set_option Elab.async false
set_option linter.all false
set_option maxRecDepth 100000
set_option maxHeartbeats 0
namespace My
open PySem PySem.Spec PyProof.Rows L2
/-! ### the text -/
def topS (i : Nat) : Stmt := PySem.Challenge.pw_keepsgoing_k07_programs_written.main.body.getD i (.Pass ⟨0, 0, 0, 0⟩)
abbrev s_write_program : Stmt := topS 10
abbrev s_gap : Stmt := topS 11
abbrev s_kind_tokens : Stmt := topS 12
abbrev s_int_tokens : Stmt := topS 13
abbrev s_listed : Stmt := topS 14
abbrev s_unit_tokens : Stmt := topS 15
abbrev s_in_tokens : Stmt := topS 16
abbrev s_p_declared : Stmt := topS 17
abbrev s_block : Stmt := topS 18
abbrev s_item_tokens : Stmt := topS 19
abbrev s_use_tokens : Stmt := topS 20
abbrev s_state_tokens : Stmt := topS 21
abbrev s_turn_tokens : Stmt := topS 22
abbrev s_expr_tokens : Stmt := topS 23
abbrev s_front_operand : Stmt := topS 24
abbrev s_bottom_tokens : Stmt := topS 25
abbrev s_arguments : Stmt := topS 26
abbrev s_value_tokens : Stmt := topS 27
abbrev s_other_arguments : Stmt := topS 28
abbrev s_arm_tokens : Stmt := topS 29
abbrev s_layer_tokens : Stmt := topS 30
abbrev s_begin : Stmt := topS 32
abbrev s_mixed : Stmt := topS 33
abbrev s_draw : Stmt := topS 34
abbrev s_draw_digit : Stmt := topS 35
abbrev s_pick : Stmt := topS 36
abbrev s_reserved : Stmt := topS 37
abbrev s_drawn_name : Stmt := topS 38
abbrev s_drawn_number : Stmt := topS 39
abbrev s_made : Stmt := topS 40
abbrev s_trees : Stmt := topS 41
abbrev s_commas : Stmt := topS 42
abbrev s_drawn_int : Stmt := topS 43
abbrev s_drawn_num : Stmt := topS 44
abbrev s_drawn_kind : Stmt := topS 45
abbrev s_drawn_case : Stmt := topS 46
abbrev s_drawn_layer : Stmt := topS 47
abbrev s_drawn_leaf : Stmt := topS 48
abbrev s_wrapped : Stmt := topS 49
abbrev s_fronted : Stmt := topS 50
abbrev s_between : Stmt := topS 51
abbrev s_drawn_sign : Stmt := topS 52
abbrev s_drawn_argument : Stmt := topS 53
abbrev s_drawn_call : Stmt := topS 54
abbrev s_drawn_expr : Stmt := topS 55
abbrev s_drawn_chain : Stmt := topS 56
abbrev s_drawn_root : Stmt := topS 57
abbrev s_drawn_use : Stmt := topS 58
abbrev s_drawn_turns : Stmt := topS 59
abbrev s_drawn_state : Stmt := topS 60
abbrev s_drawn_machine : Stmt := topS 61
abbrev s_drawn_item : Stmt := topS 62
abbrev s_drawn_items : Stmt := topS 63
abbrev s_declared : Stmt := topS 64
abbrev s_drawn_unit : Stmt := topS 65
abbrev s_drawn_parts : Stmt := topS 66
abbrev s_whole_tree : Stmt := topS 67
abbrev s_written_text : Stmt := topS 68
abbrev s_law : Stmt := topS 69
theorem sc_write_program : FnScope ["program", "_", "kinds", "units", "tokens", "name", "kind", "unit", "token"] ["program"] (defScope s_write_program) := ⟨rfl, rfl, rfl, by decide +kernel, rfl, by decide +kernel, by decide +kernel⟩
theorem sc_gap : FnScope ["token"] ["token"] (defScope s_gap) := ⟨rfl, rfl, rfl, by decide +kernel, rfl, by decide +kernel, by decide +kernel⟩
theorem sc_kind_tokens : FnScope ["kind", "tokens", "_", "low", "high", "per", "how", "slow", "name"] ["kind"] (defScope s_kind_tokens) := ⟨rfl, rfl, rfl, by decide +kernel, rfl, by decide +kernel, by decide +kernel⟩
theorem sc_int_tokens : FnScope ["number"] ["number"] (defScope s_int_tokens) := ⟨rfl, rfl, rfl, by decide +kernel, rfl, by decide +kernel, by decide +kernel⟩
theorem sc_listed : FnScope ["parts", "tokens", "part"] ["parts"] (defScope s_listed) := ⟨rfl, rfl, rfl, by decide +kernel, rfl, by decide +kernel, by decide +kernel⟩
theorem sc_unit_tokens : FnScope ["unit", "_", "name", "ins", "outs", "items", "tokens", "each", "out", "kind", "item"] ["unit"] (defScope s_unit_tokens) := ⟨rfl, rfl, rfl, by decide +kernel, rfl, by decide +kernel, by decide +kernel⟩
theorem sc_in_tokens : FnScope ["each", "name", "kind", "event"] ["each"] (defScope s_in_tokens) := ⟨rfl, rfl, rfl, by decide +kernel, rfl, by decide +kernel, by decide +kernel⟩
theorem sc_p_declared : FnScope ["name", "kind"] ["name", "kind"] (defScope s_p_declared) := ⟨rfl, rfl, rfl, by decide +kernel, rfl, by decide +kernel, by decide +kernel⟩
theorem sc_block : FnScope ["parts", "tokens", "part"] ["parts"] (defScope s_block) := ⟨rfl, rfl, rfl, by decide +kernel, rfl, by decide +kernel, by decide +kernel⟩
theorem sc_item_tokens : FnScope ["item", "word", "state"] ["item"] (defScope s_item_tokens) := ⟨rfl, rfl, rfl, by decide +kernel, rfl, by decide +kernel, by decide +kernel⟩
theorem sc_use_tokens : FnScope ["item", "_", "names", "unit", "args", "every", "tokens", "name", "arg"] ["item"] (defScope s_use_tokens) := ⟨rfl, rfl, rfl, by decide +kernel, rfl, by decide +kernel, by decide +kernel⟩
theorem sc_state_tokens : FnScope ["state", "name", "unless", "items", "until", "parts", "turn", "item"] ["state"] (defScope s_state_tokens) := ⟨rfl, rfl, rfl, by decide +kernel, rfl, by decide +kernel, by decide +kernel⟩
theorem sc_turn_tokens : FnScope ["word", "turn", "expr", "how", "name"] ["word", "turn"] (defScope s_turn_tokens) := ⟨rfl, rfl, rfl, by decide +kernel, rfl, by decide +kernel, by decide +kernel⟩
theorem sc_expr_tokens : FnScope ["expr", "floor", "word", "level", "left", "right", "tokens"] ["expr", "floor"] (defScope s_expr_tokens) := ⟨rfl, rfl, rfl, by decide +kernel, rfl, by decide +kernel, by decide +kernel⟩
theorem sc_front_operand : FnScope ["word", "expr"] ["word", "expr"] (defScope s_front_operand) := ⟨rfl, rfl, rfl, by decide +kernel, rfl, by decide +kernel, by decide +kernel⟩
theorem sc_bottom_tokens : FnScope ["expr", "word", "part"] ["expr"] (defScope s_bottom_tokens) := ⟨rfl, rfl, rfl, by decide +kernel, rfl, by decide +kernel, by decide +kernel⟩
theorem sc_arguments : FnScope ["parts"] ["parts"] (defScope s_arguments) := ⟨rfl, rfl, rfl, by decide +kernel, rfl, by decide +kernel, by decide +kernel⟩
theorem sc_value_tokens : FnScope ["value"] ["value"] (defScope s_value_tokens) := ⟨rfl, rfl, rfl, by decide +kernel, rfl, by decide +kernel, by decide +kernel⟩
theorem sc_other_arguments : FnScope ["expr", "word", "arm"] ["expr"] (defScope s_other_arguments) := ⟨rfl, rfl, rfl, by decide +kernel, rfl, by decide +kernel, by decide +kernel⟩
theorem sc_arm_tokens : FnScope ["arm", "value", "expr"] ["arm"] (defScope s_arm_tokens) := ⟨rfl, rfl, rfl, by decide +kernel, rfl, by decide +kernel, by decide +kernel⟩
theorem sc_layer_tokens : FnScope ["layer"] ["layer"] (defScope s_layer_tokens) := ⟨rfl, rfl, rfl, by decide +kernel, rfl, by decide +kernel, by decide +kernel⟩
theorem sc_begin : FnScope ["_law_script", "_law_cell"] ["_law_script"] (defScope s_begin) := ⟨rfl, rfl, rfl, by decide +kernel, rfl, by decide +kernel, by decide +kernel⟩
theorem sc_mixed : FnScope ["_law_d", "_law_cell"] ["_law_d", "_law_cell"] (defScope s_mixed) := ⟨rfl, rfl, rfl, by decide +kernel, rfl, by decide +kernel, by decide +kernel⟩
theorem sc_draw : FnScope ["_law_d", "_law_many", "_law_cell"] ["_law_d", "_law_many"] (defScope s_draw) := ⟨rfl, rfl, rfl, by decide +kernel, rfl, by decide +kernel, by decide +kernel⟩
theorem sc_draw_digit : FnScope ["_law_d", "_law_many", "_law_pair"] ["_law_d", "_law_many"] (defScope s_draw_digit) := ⟨rfl, rfl, rfl, by decide +kernel, rfl, by decide +kernel, by decide +kernel⟩
theorem sc_pick : FnScope ["_law_d", "_law_row"] ["_law_d", "_law_row"] (defScope s_pick) := ⟨rfl, rfl, rfl, by decide +kernel, rfl, by decide +kernel, by decide +kernel⟩
theorem sc_reserved : FnScope ["_law_words", "_law_more"] [] (defScope s_reserved) := ⟨rfl, rfl, rfl, by decide +kernel, rfl, by decide +kernel, by decide +kernel⟩
theorem sc_drawn_name : FnScope ["_law_d", "_law_signs", "_law_words", "_law_way", "_law_code", "_law_name", "_law_step"] ["_law_d"] (defScope s_drawn_name) := ⟨rfl, rfl, rfl, by decide +kernel, rfl, by decide +kernel, by decide +kernel⟩
theorem sc_drawn_number : FnScope ["_law_d"] ["_law_d"] (defScope s_drawn_number) := ⟨rfl, rfl, rfl, by decide +kernel, rfl, by decide +kernel, by decide +kernel⟩
theorem sc_made : FnScope ["_law_tree", "_law_parts", "_law_found", "_law_part"] ["_law_tree", "_law_parts"] (defScope s_made) := ⟨rfl, rfl, rfl, by decide +kernel, rfl, by decide +kernel, by decide +kernel⟩
theorem sc_trees : FnScope ["_law_parts", "_law_part"] ["_law_parts"] (defScope s_trees) := ⟨rfl, rfl, rfl, by decide +kernel, rfl, by decide +kernel, by decide +kernel⟩
theorem sc_commas : FnScope ["_law_parts", "_law_found", "_law_part"] ["_law_parts"] (defScope s_commas) := ⟨rfl, rfl, rfl, by decide +kernel, rfl, by decide +kernel, by decide +kernel⟩
theorem sc_drawn_int : FnScope ["_law_d", "_law_number", "_law_word"] ["_law_d"] (defScope s_drawn_int) := ⟨rfl, rfl, rfl, by decide +kernel, rfl, by decide +kernel, by decide +kernel⟩
theorem sc_drawn_num : FnScope ["_law_d", "_law_low", "_law_high", "_law_how", "_law_way", "_law_per", "_law_part"] ["_law_d"] (defScope s_drawn_num) := ⟨rfl, rfl, rfl, by decide +kernel, rfl, by decide +kernel, by decide +kernel⟩
theorem sc_drawn_kind : FnScope ["_law_d", "_law_way", "_law_rows", "_law_made_here", "_law_names", "_law_step", "_law_name", "_law_size"] ["_law_d"] (defScope s_drawn_kind) := ⟨rfl, rfl, rfl, by decide +kernel, rfl, by decide +kernel, by decide +kernel⟩
theorem sc_drawn_case : FnScope ["_law_d", "_law_way", "_law_first", "_law_second"] ["_law_d"] (defScope s_drawn_case) := ⟨rfl, rfl, rfl, by decide +kernel, rfl, by decide +kernel, by decide +kernel⟩
theorem sc_drawn_layer : FnScope ["_law_d", "_law_name", "_law_case", "_law_many", "_law_start"] ["_law_d"] (defScope s_drawn_layer) := ⟨rfl, rfl, rfl, by decide +kernel, rfl, by decide +kernel, by decide +kernel⟩
theorem sc_drawn_leaf : FnScope ["_law_d", "_law_way", "_law_name", "_law_number", "_law_loose"] ["_law_d"] (defScope s_drawn_leaf) := ⟨rfl, rfl, rfl, by decide +kernel, rfl, by decide +kernel, by decide +kernel⟩
theorem sc_wrapped : FnScope ["_law_d", "_law_part", "_law_least", "_law_plain", "_law_loose", "_law_needed"] ["_law_d", "_law_part", "_law_least"] (defScope s_wrapped) := ⟨rfl, rfl, rfl, by decide +kernel, rfl, by decide +kernel, by decide +kernel⟩
theorem sc_fronted : FnScope ["_law_d", "_law_way", "_law_part", "_law_least", "_law_operand", "_law_tree"] ["_law_d", "_law_way", "_law_part"] (defScope s_fronted) := ⟨rfl, rfl, rfl, by decide +kernel, rfl, by decide +kernel, by decide +kernel⟩
theorem sc_between : FnScope ["_law_d", "_law_way", "_law_left", "_law_right", "_law_sign", "_law_word", "_law_level", "_law_first", "_law_second"] ["_law_d", "_law_way", "_law_left", "_law_right"] (defScope s_between) := ⟨rfl, rfl, rfl, by decide +kernel, rfl, by decide +kernel, by decide +kernel⟩
theorem sc_drawn_sign : FnScope ["_law_d", "_law_room", "_law_way"] ["_law_d", "_law_room"] (defScope s_drawn_sign) := ⟨rfl, rfl, rfl, by decide +kernel, rfl, by decide +kernel, by decide +kernel⟩
theorem sc_drawn_argument : FnScope ["_law_d", "_law_sort", "_law_size", "_law_room", "_law_name", "_law_number", "_law_expr", "_law_case"] ["_law_d", "_law_sort", "_law_size", "_law_room"] (defScope s_drawn_argument) := ⟨rfl, rfl, rfl, by decide +kernel, rfl, by decide +kernel, by decide +kernel⟩
theorem sc_drawn_call : FnScope ["_law_d", "_law_size", "_law_room", "_law_words", "_law_sorts", "_law_way", "_law_word", "_law_sort", "_law_rest", "_law_parts", "_law_one", "_law_share", "_law_trees_here", "_law_tree"] ["_law_d", "_law_size", "_law_room"] (defScope s_drawn_call) := ⟨rfl, rfl, rfl, by decide +kernel, rfl, by decide +kernel, by decide +kernel⟩
theorem sc_drawn_expr : FnScope ["_law_d", "_law_size", "_law_room", "_law_way", "_law_part", "_law_sign", "_law_share", "_law_left", "_law_right"] ["_law_d", "_law_size", "_law_room"] (defScope s_drawn_expr) := ⟨rfl, rfl, rfl, by decide +kernel, rfl, by decide +kernel, by decide +kernel⟩
theorem sc_drawn_chain : FnScope ["_law_d", "_law_room", "_law_most", "_law_way", "_law_signs", "_law_made_here", "_law_step", "_law_sign"] ["_law_d", "_law_room", "_law_most"] (defScope s_drawn_chain) := ⟨rfl, rfl, rfl, by decide +kernel, rfl, by decide +kernel, by decide +kernel⟩
theorem sc_drawn_root : FnScope ["_law_d", "_law_most", "_law_room", "_law_size", "_law_made_here"] ["_law_d", "_law_most", "_law_room"] (defScope s_drawn_root) := ⟨rfl, rfl, rfl, by decide +kernel, rfl, by decide +kernel, by decide +kernel⟩
theorem sc_drawn_use : FnScope ["_law_d", "_law_room", "_law_names", "_law_step", "_law_unit", "_law_args", "_law_parts", "_law_every", "_law_expr"] ["_law_d", "_law_room"] (defScope s_drawn_use) := ⟨rfl, rfl, rfl, by decide +kernel, rfl, by decide +kernel, by decide +kernel⟩
theorem sc_drawn_turns : FnScope ["_law_d", "_law_word", "_law_many", "_law_room", "_law_found", "_law_step", "_law_expr", "_law_how", "_law_name"] ["_law_d", "_law_word", "_law_many", "_law_room"] (defScope s_drawn_turns) := ⟨rfl, rfl, rfl, by decide +kernel, rfl, by decide +kernel, by decide +kernel⟩
theorem sc_drawn_state : FnScope ["_law_d", "_law_deep", "_law_room", "_law_name", "_law_unless", "_law_items", "_law_until", "_law_tree", "_law_made_here"] ["_law_d", "_law_deep", "_law_room"] (defScope s_drawn_state) := ⟨rfl, rfl, rfl, by decide +kernel, rfl, by decide +kernel, by decide +kernel⟩
theorem sc_drawn_machine : FnScope ["_law_d", "_law_deep", "_law_room", "_law_name", "_law_states", "_law_step"] ["_law_d", "_law_deep", "_law_room"] (defScope s_drawn_machine) := ⟨rfl, rfl, rfl, by decide +kernel, rfl, by decide +kernel, by decide +kernel⟩
theorem sc_drawn_item : FnScope ["_law_d", "_law_deep", "_law_words", "_law_room", "_law_way", "_law_word", "_law_expr", "_law_name", "_law_kind"] ["_law_d", "_law_deep", "_law_words", "_law_room"] (defScope s_drawn_item) := ⟨rfl, rfl, rfl, by decide +kernel, rfl, by decide +kernel, by decide +kernel⟩
theorem sc_drawn_items : FnScope ["_law_d", "_law_many", "_law_deep", "_law_words", "_law_room", "_law_found", "_law_step", "_law_item"] ["_law_d", "_law_many", "_law_deep", "_law_words", "_law_room"] (defScope s_drawn_items) := ⟨rfl, rfl, rfl, by decide +kernel, rfl, by decide +kernel, by decide +kernel⟩
theorem sc_declared : FnScope ["_law_d", "_law_word", "_law_name", "_law_kind"] ["_law_d", "_law_word"] (defScope s_declared) := ⟨rfl, rfl, rfl, by decide +kernel, rfl, by decide +kernel, by decide +kernel⟩
theorem sc_drawn_unit : FnScope ["_law_d", "_law_room", "_law_name", "_law_ins", "_law_step", "_law_outs", "_law_items", "_law_tree", "_law_head"] ["_law_d", "_law_room"] (defScope s_drawn_unit) := ⟨rfl, rfl, rfl, by decide +kernel, rfl, by decide +kernel, by decide +kernel⟩
theorem sc_drawn_parts : FnScope ["_law_d", "_law_room", "_law_kinds", "_law_step", "_law_name", "_law_kind", "_law_units"] ["_law_d", "_law_room"] (defScope s_drawn_parts) := ⟨rfl, rfl, rfl, by decide +kernel, rfl, by decide +kernel, by decide +kernel⟩
theorem sc_whole_tree : FnScope ["_law_kinds", "_law_units"] ["_law_kinds", "_law_units"] (defScope s_whole_tree) := ⟨rfl, rfl, rfl, by decide +kernel, rfl, by decide +kernel, by decide +kernel⟩
theorem sc_written_text : FnScope ["_law_tokens", "_law_found", "_law_token"] ["_law_tokens"] (defScope s_written_text) := ⟨rfl, rfl, rfl, by decide +kernel, rfl, by decide +kernel, by decide +kernel⟩
theorem sc_law : FnScope ["_law_script", "_law_d", "_law_asked", "_law_most", "_law_parts", "_law_made_here", "_law_told"] ["_law_script"] (defScope s_law) := ⟨rfl, rfl, rfl, by decide +kernel, rfl, by decide +kernel, by decide +kernel⟩
abbrev FnP (K : PySem.W.Frag) (x : Str) (st : Stmt) (f : Addr) (fd : FuncData) : Prop := FunD K x x (defArgs st) (defBody st) (defScope st) [] [] f fd
def tab_LEVELS : List (Str × V) := [("then", V.int 1), ("or", V.int 2), ("xor", V.int 3), ("and", V.int 4), ("==", V.int 5), ("!=", V.int 5), ("<", V.int 5), ("<=", V.int 5), ("+", V.int 6), ("-", V.int 6), ("*", V.int 7), ("/", V.int 7)]
def not_LEVELS : List Str := []
def tab_SIGNS : List (Str × V) := [("then", V.str "then"), ("or", V.str "or"), ("xor", V.str "xor"), ("and", V.str "and"), ("eq", V.str "=="), ("ne", V.str "!="), ("lt", V.str "<"), ("le", V.str "<="), ("add", V.str "+"), ("sub", V.str "-"), ("mul", V.str "*"), ("div", V.str "/")]
def not_SIGNS : List Str := ["not", "last", "neg", "int", "name", "truth", "value", "pick", "mid", "vote", "put", "min", "max", "at", "sum", "any", "all", "row", "weave", "as", "when", "held", "merge", "here", "else", "fresh"]
def tab_FRONTS : List (Str × V) := [("not", V.str "not"), ("last", V.str "last"), ("neg", V.str "-")]
def not_FRONTS : List Str := ["int", "name", "truth", "value", "pick", "mid", "vote", "put", "min", "max", "at", "sum", "any", "all", "row", "weave", "as", "when", "held", "merge", "here", "else", "fresh"]
def tab_CALLS : List (Str × V) := [("pick", V.int 3), ("mid", V.int 3), ("vote", V.int 3), ("put", V.int 3), ("min", V.int 2), ("max", V.int 2), ("at", V.int 2), ("sum", V.int 1), ("any", V.int 1), ("all", V.int 1), ("row", V.non), ("weave", V.non)]
def not_CALLS : List Str := ["as", "when", "held", "merge", "here", "else", "fresh"]
structure Tx (K : PySem.W.Frag) (mg : Str → Option Value) (w : World) where
  f_write_program : Addr
  fd_write_program : FuncData
  F_write_program : FnP K "write_program" s_write_program f_write_program fd_write_program
  m_write_program : mg "write_program" = some (.ref f_write_program)
  b_write_program : Binds K fd_write_program ["program"] []
  f_gap : Addr
  fd_gap : FuncData
  F_gap : FnP K "_gap" s_gap f_gap fd_gap
  m_gap : mg "_gap" = some (.ref f_gap)
  b_gap : Binds K fd_gap ["token"] []
  f_kind_tokens : Addr
  fd_kind_tokens : FuncData
  F_kind_tokens : FnP K "_kind_tokens" s_kind_tokens f_kind_tokens fd_kind_tokens
  m_kind_tokens : mg "_kind_tokens" = some (.ref f_kind_tokens)
  b_kind_tokens : Binds K fd_kind_tokens ["kind"] []
  f_int_tokens : Addr
  fd_int_tokens : FuncData
  F_int_tokens : FnP K "_int_tokens" s_int_tokens f_int_tokens fd_int_tokens
  m_int_tokens : mg "_int_tokens" = some (.ref f_int_tokens)
  b_int_tokens : Binds K fd_int_tokens ["number"] []
  f_listed : Addr
  fd_listed : FuncData
  F_listed : FnP K "_listed" s_listed f_listed fd_listed
  m_listed : mg "_listed" = some (.ref f_listed)
  b_listed : Binds K fd_listed ["parts"] []
  f_unit_tokens : Addr
  fd_unit_tokens : FuncData
  F_unit_tokens : FnP K "_unit_tokens" s_unit_tokens f_unit_tokens fd_unit_tokens
  m_unit_tokens : mg "_unit_tokens" = some (.ref f_unit_tokens)
  b_unit_tokens : Binds K fd_unit_tokens ["unit"] []
  f_in_tokens : Addr
  fd_in_tokens : FuncData
  F_in_tokens : FnP K "_in_tokens" s_in_tokens f_in_tokens fd_in_tokens
  m_in_tokens : mg "_in_tokens" = some (.ref f_in_tokens)
  b_in_tokens : Binds K fd_in_tokens ["each"] []
  f_p_declared : Addr
  fd_p_declared : FuncData
  F_p_declared : FnP K "_declared" s_p_declared f_p_declared fd_p_declared
  m_p_declared : mg "_declared" = some (.ref f_p_declared)
  b_p_declared : Binds K fd_p_declared ["name", "kind"] []
  f_block : Addr
  fd_block : FuncData
  F_block : FnP K "_block" s_block f_block fd_block
  m_block : mg "_block" = some (.ref f_block)
  b_block : Binds K fd_block ["parts"] []
  f_item_tokens : Addr
  fd_item_tokens : FuncData
  F_item_tokens : FnP K "_item_tokens" s_item_tokens f_item_tokens fd_item_tokens
  m_item_tokens : mg "_item_tokens" = some (.ref f_item_tokens)
  b_item_tokens : Binds K fd_item_tokens ["item"] []
  f_use_tokens : Addr
  fd_use_tokens : FuncData
  F_use_tokens : FnP K "_use_tokens" s_use_tokens f_use_tokens fd_use_tokens
  m_use_tokens : mg "_use_tokens" = some (.ref f_use_tokens)
  b_use_tokens : Binds K fd_use_tokens ["item"] []
  f_state_tokens : Addr
  fd_state_tokens : FuncData
  F_state_tokens : FnP K "_state_tokens" s_state_tokens f_state_tokens fd_state_tokens
  m_state_tokens : mg "_state_tokens" = some (.ref f_state_tokens)
  b_state_tokens : Binds K fd_state_tokens ["state"] []
  f_turn_tokens : Addr
  fd_turn_tokens : FuncData
  F_turn_tokens : FnP K "_turn_tokens" s_turn_tokens f_turn_tokens fd_turn_tokens
  m_turn_tokens : mg "_turn_tokens" = some (.ref f_turn_tokens)
  b_turn_tokens : Binds K fd_turn_tokens ["word", "turn"] []
  f_expr_tokens : Addr
  fd_expr_tokens : FuncData
  F_expr_tokens : FunD K "expr_tokens" "expr_tokens" (defArgs s_expr_tokens) (defBody s_expr_tokens) (defScope s_expr_tokens) [V.int 1] [] f_expr_tokens fd_expr_tokens
  m_expr_tokens : mg "expr_tokens" = some (.ref f_expr_tokens)
  b_expr_tokens : Binds K fd_expr_tokens ["expr", "floor"] []
  ds_expr_tokens : List Value
  v1_expr_tokens : Vals [V.int 1] ds_expr_tokens
  b1_expr_tokens : Binds K fd_expr_tokens ["expr", "floor"] ds_expr_tokens
  f_front_operand : Addr
  fd_front_operand : FuncData
  F_front_operand : FnP K "_front_operand" s_front_operand f_front_operand fd_front_operand
  m_front_operand : mg "_front_operand" = some (.ref f_front_operand)
  b_front_operand : Binds K fd_front_operand ["word", "expr"] []
  f_bottom_tokens : Addr
  fd_bottom_tokens : FuncData
  F_bottom_tokens : FnP K "_bottom_tokens" s_bottom_tokens f_bottom_tokens fd_bottom_tokens
  m_bottom_tokens : mg "_bottom_tokens" = some (.ref f_bottom_tokens)
  b_bottom_tokens : Binds K fd_bottom_tokens ["expr"] []
  f_arguments : Addr
  fd_arguments : FuncData
  F_arguments : FnP K "_arguments" s_arguments f_arguments fd_arguments
  m_arguments : mg "_arguments" = some (.ref f_arguments)
  b_arguments : Binds K fd_arguments ["parts"] []
  f_value_tokens : Addr
  fd_value_tokens : FuncData
  F_value_tokens : FnP K "_value_tokens" s_value_tokens f_value_tokens fd_value_tokens
  m_value_tokens : mg "_value_tokens" = some (.ref f_value_tokens)
  b_value_tokens : Binds K fd_value_tokens ["value"] []
  f_other_arguments : Addr
  fd_other_arguments : FuncData
  F_other_arguments : FnP K "_other_arguments" s_other_arguments f_other_arguments fd_other_arguments
  m_other_arguments : mg "_other_arguments" = some (.ref f_other_arguments)
  b_other_arguments : Binds K fd_other_arguments ["expr"] []
  f_arm_tokens : Addr
  fd_arm_tokens : FuncData
  F_arm_tokens : FnP K "_arm_tokens" s_arm_tokens f_arm_tokens fd_arm_tokens
  m_arm_tokens : mg "_arm_tokens" = some (.ref f_arm_tokens)
  b_arm_tokens : Binds K fd_arm_tokens ["arm"] []
  f_layer_tokens : Addr
  fd_layer_tokens : FuncData
  F_layer_tokens : FnP K "_layer_tokens" s_layer_tokens f_layer_tokens fd_layer_tokens
  m_layer_tokens : mg "_layer_tokens" = some (.ref f_layer_tokens)
  b_layer_tokens : Binds K fd_layer_tokens ["layer"] []
  f_begin : Addr
  fd_begin : FuncData
  F_begin : FnP K "_law_begin" s_begin f_begin fd_begin
  m_begin : mg "_law_begin" = some (.ref f_begin)
  b_begin : Binds K fd_begin ["_law_script"] []
  f_mixed : Addr
  fd_mixed : FuncData
  F_mixed : FnP K "_law_mixed" s_mixed f_mixed fd_mixed
  m_mixed : mg "_law_mixed" = some (.ref f_mixed)
  b_mixed : Binds K fd_mixed ["_law_d", "_law_cell"] []
  f_draw : Addr
  fd_draw : FuncData
  F_draw : FnP K "_law_draw" s_draw f_draw fd_draw
  m_draw : mg "_law_draw" = some (.ref f_draw)
  b_draw : Binds K fd_draw ["_law_d", "_law_many"] []
  f_draw_digit : Addr
  fd_draw_digit : FuncData
  F_draw_digit : FnP K "_law_draw_digit" s_draw_digit f_draw_digit fd_draw_digit
  m_draw_digit : mg "_law_draw_digit" = some (.ref f_draw_digit)
  b_draw_digit : Binds K fd_draw_digit ["_law_d", "_law_many"] []
  f_pick : Addr
  fd_pick : FuncData
  F_pick : FnP K "_law_pick" s_pick f_pick fd_pick
  m_pick : mg "_law_pick" = some (.ref f_pick)
  b_pick : Binds K fd_pick ["_law_d", "_law_row"] []
  f_reserved : Addr
  fd_reserved : FuncData
  F_reserved : FnP K "_law_reserved" s_reserved f_reserved fd_reserved
  m_reserved : mg "_law_reserved" = some (.ref f_reserved)
  b_reserved : Binds K fd_reserved [] []
  f_drawn_name : Addr
  fd_drawn_name : FuncData
  F_drawn_name : FnP K "_law_drawn_name" s_drawn_name f_drawn_name fd_drawn_name
  m_drawn_name : mg "_law_drawn_name" = some (.ref f_drawn_name)
  b_drawn_name : Binds K fd_drawn_name ["_law_d"] []
  f_drawn_number : Addr
  fd_drawn_number : FuncData
  F_drawn_number : FnP K "_law_drawn_number" s_drawn_number f_drawn_number fd_drawn_number
  m_drawn_number : mg "_law_drawn_number" = some (.ref f_drawn_number)
  b_drawn_number : Binds K fd_drawn_number ["_law_d"] []
  f_made : Addr
  fd_made : FuncData
  F_made : FnP K "_law_made" s_made f_made fd_made
  m_made : mg "_law_made" = some (.ref f_made)
  b_made : Binds K fd_made ["_law_tree", "_law_parts"] []
  f_trees : Addr
  fd_trees : FuncData
  F_trees : FnP K "_law_trees" s_trees f_trees fd_trees
  m_trees : mg "_law_trees" = some (.ref f_trees)
  b_trees : Binds K fd_trees ["_law_parts"] []
  f_commas : Addr
  fd_commas : FuncData
  F_commas : FnP K "_law_commas" s_commas f_commas fd_commas
  m_commas : mg "_law_commas" = some (.ref f_commas)
  b_commas : Binds K fd_commas ["_law_parts"] []
  f_drawn_int : Addr
  fd_drawn_int : FuncData
  F_drawn_int : FnP K "_law_drawn_int" s_drawn_int f_drawn_int fd_drawn_int
  m_drawn_int : mg "_law_drawn_int" = some (.ref f_drawn_int)
  b_drawn_int : Binds K fd_drawn_int ["_law_d"] []
  f_drawn_num : Addr
  fd_drawn_num : FuncData
  F_drawn_num : FnP K "_law_drawn_num" s_drawn_num f_drawn_num fd_drawn_num
  m_drawn_num : mg "_law_drawn_num" = some (.ref f_drawn_num)
  b_drawn_num : Binds K fd_drawn_num ["_law_d"] []
  f_drawn_kind : Addr
  fd_drawn_kind : FuncData
  F_drawn_kind : FnP K "_law_drawn_kind" s_drawn_kind f_drawn_kind fd_drawn_kind
  m_drawn_kind : mg "_law_drawn_kind" = some (.ref f_drawn_kind)
  b_drawn_kind : Binds K fd_drawn_kind ["_law_d"] []
  f_drawn_case : Addr
  fd_drawn_case : FuncData
  F_drawn_case : FnP K "_law_drawn_case" s_drawn_case f_drawn_case fd_drawn_case
  m_drawn_case : mg "_law_drawn_case" = some (.ref f_drawn_case)
  b_drawn_case : Binds K fd_drawn_case ["_law_d"] []
  f_drawn_layer : Addr
  fd_drawn_layer : FuncData
  F_drawn_layer : FnP K "_law_drawn_layer" s_drawn_layer f_drawn_layer fd_drawn_layer
  m_drawn_layer : mg "_law_drawn_layer" = some (.ref f_drawn_layer)
  b_drawn_layer : Binds K fd_drawn_layer ["_law_d"] []
  f_drawn_leaf : Addr
  fd_drawn_leaf : FuncData
  F_drawn_leaf : FnP K "_law_drawn_leaf" s_drawn_leaf f_drawn_leaf fd_drawn_leaf
  m_drawn_leaf : mg "_law_drawn_leaf" = some (.ref f_drawn_leaf)
  b_drawn_leaf : Binds K fd_drawn_leaf ["_law_d"] []
  f_wrapped : Addr
  fd_wrapped : FuncData
  F_wrapped : FnP K "_law_wrapped" s_wrapped f_wrapped fd_wrapped
  m_wrapped : mg "_law_wrapped" = some (.ref f_wrapped)
  b_wrapped : Binds K fd_wrapped ["_law_d", "_law_part", "_law_least"] []
  f_fronted : Addr
  fd_fronted : FuncData
  F_fronted : FnP K "_law_fronted" s_fronted f_fronted fd_fronted
  m_fronted : mg "_law_fronted" = some (.ref f_fronted)
  b_fronted : Binds K fd_fronted ["_law_d", "_law_way", "_law_part"] []
  f_between : Addr
  fd_between : FuncData
  F_between : FnP K "_law_between" s_between f_between fd_between
  m_between : mg "_law_between" = some (.ref f_between)
  b_between : Binds K fd_between ["_law_d", "_law_way", "_law_left", "_law_right"] []
  f_drawn_sign : Addr
  fd_drawn_sign : FuncData
  F_drawn_sign : FnP K "_law_drawn_sign" s_drawn_sign f_drawn_sign fd_drawn_sign
  m_drawn_sign : mg "_law_drawn_sign" = some (.ref f_drawn_sign)
  b_drawn_sign : Binds K fd_drawn_sign ["_law_d", "_law_room"] []
  f_drawn_argument : Addr
  fd_drawn_argument : FuncData
  F_drawn_argument : FnP K "_law_drawn_argument" s_drawn_argument f_drawn_argument fd_drawn_argument
  m_drawn_argument : mg "_law_drawn_argument" = some (.ref f_drawn_argument)
  b_drawn_argument : Binds K fd_drawn_argument ["_law_d", "_law_sort", "_law_size", "_law_room"] []
  f_drawn_call : Addr
  fd_drawn_call : FuncData
  F_drawn_call : FnP K "_law_drawn_call" s_drawn_call f_drawn_call fd_drawn_call
  m_drawn_call : mg "_law_drawn_call" = some (.ref f_drawn_call)
  b_drawn_call : Binds K fd_drawn_call ["_law_d", "_law_size", "_law_room"] []
  f_drawn_expr : Addr
  fd_drawn_expr : FuncData
  F_drawn_expr : FnP K "_law_drawn_expr" s_drawn_expr f_drawn_expr fd_drawn_expr
  m_drawn_expr : mg "_law_drawn_expr" = some (.ref f_drawn_expr)
  b_drawn_expr : Binds K fd_drawn_expr ["_law_d", "_law_size", "_law_room"] []
  f_drawn_chain : Addr
  fd_drawn_chain : FuncData
  F_drawn_chain : FnP K "_law_drawn_chain" s_drawn_chain f_drawn_chain fd_drawn_chain
  m_drawn_chain : mg "_law_drawn_chain" = some (.ref f_drawn_chain)
  b_drawn_chain : Binds K fd_drawn_chain ["_law_d", "_law_room", "_law_most"] []
  f_drawn_root : Addr
  fd_drawn_root : FuncData
  F_drawn_root : FnP K "_law_drawn_root" s_drawn_root f_drawn_root fd_drawn_root
  m_drawn_root : mg "_law_drawn_root" = some (.ref f_drawn_root)
  b_drawn_root : Binds K fd_drawn_root ["_law_d", "_law_most", "_law_room"] []
  f_drawn_use : Addr
  fd_drawn_use : FuncData
  F_drawn_use : FnP K "_law_drawn_use" s_drawn_use f_drawn_use fd_drawn_use
  m_drawn_use : mg "_law_drawn_use" = some (.ref f_drawn_use)
  b_drawn_use : Binds K fd_drawn_use ["_law_d", "_law_room"] []
  f_drawn_turns : Addr
  fd_drawn_turns : FuncData
  F_drawn_turns : FnP K "_law_drawn_turns" s_drawn_turns f_drawn_turns fd_drawn_turns
  m_drawn_turns : mg "_law_drawn_turns" = some (.ref f_drawn_turns)
  b_drawn_turns : Binds K fd_drawn_turns ["_law_d", "_law_word", "_law_many", "_law_room"] []
  f_drawn_state : Addr
  fd_drawn_state : FuncData
  F_drawn_state : FnP K "_law_drawn_state" s_drawn_state f_drawn_state fd_drawn_state
  m_drawn_state : mg "_law_drawn_state" = some (.ref f_drawn_state)
  b_drawn_state : Binds K fd_drawn_state ["_law_d", "_law_deep", "_law_room"] []
  f_drawn_machine : Addr
  fd_drawn_machine : FuncData
  F_drawn_machine : FnP K "_law_drawn_machine" s_drawn_machine f_drawn_machine fd_drawn_machine
  m_drawn_machine : mg "_law_drawn_machine" = some (.ref f_drawn_machine)
  b_drawn_machine : Binds K fd_drawn_machine ["_law_d", "_law_deep", "_law_room"] []
  f_drawn_item : Addr
  fd_drawn_item : FuncData
  F_drawn_item : FnP K "_law_drawn_item" s_drawn_item f_drawn_item fd_drawn_item
  m_drawn_item : mg "_law_drawn_item" = some (.ref f_drawn_item)
  b_drawn_item : Binds K fd_drawn_item ["_law_d", "_law_deep", "_law_words", "_law_room"] []
  f_drawn_items : Addr
  fd_drawn_items : FuncData
  F_drawn_items : FnP K "_law_drawn_items" s_drawn_items f_drawn_items fd_drawn_items
  m_drawn_items : mg "_law_drawn_items" = some (.ref f_drawn_items)
  b_drawn_items : Binds K fd_drawn_items ["_law_d", "_law_many", "_law_deep", "_law_words", "_law_room"] []
  f_declared : Addr
  fd_declared : FuncData
  F_declared : FnP K "_law_declared" s_declared f_declared fd_declared
  m_declared : mg "_law_declared" = some (.ref f_declared)
  b_declared : Binds K fd_declared ["_law_d", "_law_word"] []
  f_drawn_unit : Addr
  fd_drawn_unit : FuncData
  F_drawn_unit : FnP K "_law_drawn_unit" s_drawn_unit f_drawn_unit fd_drawn_unit
  m_drawn_unit : mg "_law_drawn_unit" = some (.ref f_drawn_unit)
  b_drawn_unit : Binds K fd_drawn_unit ["_law_d", "_law_room"] []
  f_drawn_parts : Addr
  fd_drawn_parts : FuncData
  F_drawn_parts : FnP K "_law_drawn_parts" s_drawn_parts f_drawn_parts fd_drawn_parts
  m_drawn_parts : mg "_law_drawn_parts" = some (.ref f_drawn_parts)
  b_drawn_parts : Binds K fd_drawn_parts ["_law_d", "_law_room"] []
  f_whole_tree : Addr
  fd_whole_tree : FuncData
  F_whole_tree : FnP K "_law_whole_tree" s_whole_tree f_whole_tree fd_whole_tree
  m_whole_tree : mg "_law_whole_tree" = some (.ref f_whole_tree)
  b_whole_tree : Binds K fd_whole_tree ["_law_kinds", "_law_units"] []
  f_written_text : Addr
  fd_written_text : FuncData
  F_written_text : FnP K "_law_written_text" s_written_text f_written_text fd_written_text
  m_written_text : mg "_law_written_text" = some (.ref f_written_text)
  b_written_text : Binds K fd_written_text ["_law_tokens"] []
  f_law : Addr
  fd_law : FuncData
  F_law : FnP K "law" s_law f_law fd_law
  m_law : mg "law" = some (.ref f_law)
  b_law : Binds K fd_law ["_law_script"] []
  z_abs : mg "abs" = none
  z_divmod : mg "divmod" = none
  z_int : mg "int" = none
  z_isinstance : mg "isinstance" = none
  z_len : mg "len" = none
  z_max : mg "max" = none
  z_min : mg "min" = none
  z_range : mg "range" = none
  z_str : mg "str" = none
  z_tuple : mg "tuple" = none
  tk_THEN : Tok
  mg_THEN : mg "THEN" = some (.int 1 tk_THEN)
  tk_COMPARING : Tok
  mg_COMPARING : mg "COMPARING" = some (.int 5 tk_COMPARING)
  tk_FRONT : Tok
  mg_FRONT : mg "FRONT" = some (.int 8 tk_FRONT)
  tk_BOTTOM : Tok
  mg_BOTTOM : mg "BOTTOM" = some (.int 9 tk_BOTTOM)
  mg_LEVELS : mg "LEVELS" = some (.ref (He.ga K "LEVELS"))
  es_LEVELS : Array DictEntry
  n_LEVELS : Nat
  kx_LEVELS : KDict K w (He.ga K "LEVELS") es_LEVELS n_LEVELS
  kd_LEVELS : ∀ q ∈ tab_LEVELS, KDct K w (He.ga K "LEVELS") q.1 q.2
  no_LEVELS : ∀ z ∈ not_LEVELS, PySem.W.nsIn K (He.ga K "LEVELS") z = some none
  mg_SIGNS : mg "SIGNS" = some (.ref (He.ga K "SIGNS"))
  es_SIGNS : Array DictEntry
  n_SIGNS : Nat
  kx_SIGNS : KDict K w (He.ga K "SIGNS") es_SIGNS n_SIGNS
  kd_SIGNS : ∀ q ∈ tab_SIGNS, KDct K w (He.ga K "SIGNS") q.1 q.2
  no_SIGNS : ∀ z ∈ not_SIGNS, PySem.W.nsIn K (He.ga K "SIGNS") z = some none
  mg_FRONTS : mg "FRONTS" = some (.ref (He.ga K "FRONTS"))
  es_FRONTS : Array DictEntry
  n_FRONTS : Nat
  kx_FRONTS : KDict K w (He.ga K "FRONTS") es_FRONTS n_FRONTS
  kd_FRONTS : ∀ q ∈ tab_FRONTS, KDct K w (He.ga K "FRONTS") q.1 q.2
  no_FRONTS : ∀ z ∈ not_FRONTS, PySem.W.nsIn K (He.ga K "FRONTS") z = some none
  mg_CALLS : mg "CALLS" = some (.ref (He.ga K "CALLS"))
  es_CALLS : Array DictEntry
  n_CALLS : Nat
  kx_CALLS : KDict K w (He.ga K "CALLS") es_CALLS n_CALLS
  kd_CALLS : ∀ q ∈ tab_CALLS, KDct K w (He.ga K "CALLS") q.1 q.2
  no_CALLS : ∀ z ∈ not_CALLS, PySem.W.nsIn K (He.ga K "CALLS") z = some none
  mg_LINE_ENDS : mg "LINE_ENDS" = some (.ref (He.ga K "LINE_ENDS"))
  tp_LINE_ENDS : ∀ H : Hp, SqT K H (He.ga K "LINE_ENDS") [.str "{", .str "}", .str ";"]



/-! ### promises of defs with so many arguments -/
def sp0 (R : Hp → VK → Prop) : Sp := fun vs H Q _ => vs = [] ∧ R H Q
def sp1 (R : V → Hp → VK → Prop) : Sp := fun vs H Q _ => ∃ x, vs = [x] ∧ R x H Q
def sp2 (R : V → V → Hp → VK → Prop) : Sp := fun vs H Q _ => ∃ x y, vs = [x, y] ∧ R x y H Q
def sp3 (R : V → V → V → Hp → VK → Prop) : Sp := fun vs H Q _ => ∃ x y z, vs = [x, y, z] ∧ R x y z H Q
section
variable {P : Program} {w : World} {K : PySem.W.Frag} {mg : Str → Option Value} {base : Heap} {x : Str} {st : Stmt} {f : Addr} {fd : FuncData} {N ps : List Str} {k : Nat} {dvs : List V} {kws : List (Str × V)}
theorem okR {sp : Sp} (F : FunD K x x (defArgs st) (defBody st) (defScope st) dvs kws f fd) (S : FnScope N ps (defScope st)) (len : ∀ vs H Q E, sp vs H Q E → vs.length = ps.length)
    (body : ∀ (cdv : Value) (A : Around) (outer : List Env) (s : Shared) (H : Hp) (vs : List V) (Q : VK) (E : XK), Room k (A.deeper (envOfC x (defScope st) s.heap.objs.size f cdv)) → sp vs H Q E →
      ∃ t, PSs (cxOf CX0 P w K mg base N x (defScope st) f cdv A outer s H E).nox (defBody st) t ∧ t { nx := fun _ H' => Q .non H', rt := Q } (start N vs) H) : FnOk P w K mg base CX0 (k + 1) f fd ps sp := by
  refine F.ok S len fun cdv A outer s H vs Q E hr h => ?_
  obtain ⟨t, h1, h2⟩ := body cdv A outer s H vs Q E hr h
  exact ⟨t, h1.nox, h2⟩
theorem okR0 {R : Hp → VK → Prop} (F : FunD K x x (defArgs st) (defBody st) (defScope st) dvs kws f fd) (S : FnScope N ps (defScope st)) (hl : ps.length = 0)
    (body : ∀ (cdv : Value) (A : Around) (outer : List Env) (s : Shared) (H : Hp) (Q : VK) (E : XK), Room k (A.deeper (envOfC x (defScope st) s.heap.objs.size f cdv)) → R H Q →
      ∃ t, PSs (cxOf CX0 P w K mg base N x (defScope st) f cdv A outer s H E).nox (defBody st) t ∧ t { nx := fun _ H' => Q .non H', rt := Q } (start N []) H) : FnOk P w K mg base CX0 (k + 1) f fd ps (sp0 R) := by
  refine okR F S (fun vs H Q E h => ?_) fun cdv A outer s H vs Q E hr h => ?_
  · obtain ⟨rfl, _⟩ := h
    exact hl.symm
  · obtain ⟨rfl, h⟩ := h
    exact body cdv A outer s H Q E hr h
theorem okR1 {R : V → Hp → VK → Prop} (F : FunD K x x (defArgs st) (defBody st) (defScope st) dvs kws f fd) (S : FnScope N ps (defScope st)) (hl : ps.length = 1)
    (body : ∀ (cdv : Value) (A : Around) (outer : List Env) (s : Shared) (H : Hp) (Q : VK) (E : XK) (a : V), Room k (A.deeper (envOfC x (defScope st) s.heap.objs.size f cdv)) → R a H Q →
      ∃ t, PSs (cxOf CX0 P w K mg base N x (defScope st) f cdv A outer s H E).nox (defBody st) t ∧ t { nx := fun _ H' => Q .non H', rt := Q } (start N [a]) H) : FnOk P w K mg base CX0 (k + 1) f fd ps (sp1 R) := by
  refine okR F S (fun vs H Q E h => ?_) fun cdv A outer s H vs Q E hr h => ?_
  · obtain ⟨_, rfl, _⟩ := h
    exact hl.symm
  · obtain ⟨a, rfl, h⟩ := h
    exact body cdv A outer s H Q E a hr h
theorem okR2 {R : V → V → Hp → VK → Prop} (F : FunD K x x (defArgs st) (defBody st) (defScope st) dvs kws f fd) (S : FnScope N ps (defScope st)) (hl : ps.length = 2)
    (body : ∀ (cdv : Value) (A : Around) (outer : List Env) (s : Shared) (H : Hp) (Q : VK) (E : XK) (a b : V), Room k (A.deeper (envOfC x (defScope st) s.heap.objs.size f cdv)) → R a b H Q →
      ∃ t, PSs (cxOf CX0 P w K mg base N x (defScope st) f cdv A outer s H E).nox (defBody st) t ∧ t { nx := fun _ H' => Q .non H', rt := Q } (start N [a, b]) H) : FnOk P w K mg base CX0 (k + 1) f fd ps (sp2 R) := by
  refine okR F S (fun vs H Q E h => ?_) fun cdv A outer s H vs Q E hr h => ?_
  · obtain ⟨_, _, rfl, _⟩ := h
    exact hl.symm
  · obtain ⟨a, b, rfl, h⟩ := h
    exact body cdv A outer s H Q E a b hr h
theorem okR3 {R : V → V → V → Hp → VK → Prop} (F : FunD K x x (defArgs st) (defBody st) (defScope st) dvs kws f fd) (S : FnScope N ps (defScope st)) (hl : ps.length = 3)
    (body : ∀ (cdv : Value) (A : Around) (outer : List Env) (s : Shared) (H : Hp) (Q : VK) (E : XK) (a b c : V), Room k (A.deeper (envOfC x (defScope st) s.heap.objs.size f cdv)) → R a b c H Q →
      ∃ t, PSs (cxOf CX0 P w K mg base N x (defScope st) f cdv A outer s H E).nox (defBody st) t ∧ t { nx := fun _ H' => Q .non H', rt := Q } (start N [a, b, c]) H) : FnOk P w K mg base CX0 (k + 1) f fd ps (sp3 R) := by
  refine okR F S (fun vs H Q E h => ?_) fun cdv A outer s H vs Q E hr h => ?_
  · obtain ⟨_, _, _, rfl, _⟩ := h
    exact hl.symm
  · obtain ⟨a, b, c, rfl, h⟩ := h
    exact body cdv A outer s H Q E a b c hr h
end
/-! ### heaps: all but the object at d stays -/
def Keep (d : Addr) (H H' : Hp) : Prop := ∀ b o, H b = some o → b ≠ d → H' b = some o
theorem Keep.refl (d : Addr) (H : Hp) : Keep d H H := fun _ _ h _ => h
theorem Keep.trans {d : Addr} {H H1 H2 : Hp} (a : Keep d H H1) (b : Keep d H1 H2) : Keep d H H2 := fun c o h n => b c o (a c o h n) n
theorem Keep.of {d : Addr} {H H1 : Hp} (a : Same H H1) : Keep d H H1 := fun c o h _ => a c o h
theorem Keep.new {d p : Addr} {H : Hp} {o : HO} (h : H p = none) : Keep d H (upd H p o) := fun b u e _ => by
  rw [upd_ne (ne_of_none e h)]
  exact e
theorem Keep.at {d : Addr} {H : Hp} {o : HO} : Keep d H (upd H d o) := fun b u e n => by
  rw [upd_ne n]
  exact e
theorem same_new {H : Hp} {p : Addr} {o : HO} (h : H p = none) : Same H (upd H p o) := fun b u e => by
  rw [upd_ne (ne_of_none e h)]
  exact e
theorem upd_else {H : Hp} {a b : Addr} {o u : HO} (h : H b = some u) (n : b ≠ a) : upd H a o b = some u := by
  rw [upd_ne n]
  exact h
theorem sl (n : Nat) (h : n ≤ 1000 := by decide) : n ≤ sizeLine := Nat.le_of_lt (small1000 h)
/-- a list's item by a written place -/
theorem at_n {xs : List V} {v : V} (j : Nat) (h : xs[j]? = some v) : atI xs (j : Int) = some v := atI_nat h
theorem yes {σ : L2.St} {H : Hp} {A B : Hp → Prop} (h : A H) : tYes σ H fun b H' => if b = true then A H' else B H' := by
  show if true = true then A H else B H
  rw [if_pos rfl]
  exact h

/-! ### the law's draws: d holds the script's numbers (a list at c), a place and three numbers -/
def Dr (d c : Addr) (H : Hp) : Prop := ∃ (cells : List Int) (i : Nat) (big seed cnt : Int), H d = some (.lst [.ref c, .int i, .int big, .int seed, .int cnt]) ∧ H c = some (.lst (cells.map V.int)) ∧ c ≠ d
theorem Dr.same {d c : Addr} {H H' : Hp} (h : Dr d c H) (s : Same H H') : Dr d c H' := by
  obtain ⟨cells, i, big, seed, cnt, h1, h2, h3⟩ := h
  exact ⟨cells, i, big, seed, cnt, s _ _ h1, s _ _ h2, h3⟩
theorem Dr.new {d c p : Addr} {H : Hp} {o : HO} (h : Dr d c H) (n : H p = none) : Dr d c (upd H p o) := h.same (same_new n)
theorem Dr.there {d c : Addr} {H : Hp} (h : Dr d c H) : ∃ xs, H d = some (.lst xs) := by
  obtain ⟨cells, i, big, seed, cnt, h1, h2, h3⟩ := h
  exact ⟨_, h1⟩
theorem Dr.dne {d c p : Addr} {H : Hp} (h : Dr d c H) (n : H p = none) : p ≠ d := by
  obtain ⟨_, h1⟩ := h.there
  exact (ne_of_none h1 n).symm
theorem Dr.cne {d c p : Addr} {H : Hp} (h : Dr d c H) (n : H p = none) : p ≠ c := by
  obtain ⟨cells, i, big, seed, cnt, h1, h2, h3⟩ := h
  exact (ne_of_none h2 n).symm
/-- another object than d and c is written -/
theorem Dr.else {d c p : Addr} {H : Hp} {o : HO} (h : Dr d c H) (n1 : p ≠ d) (n2 : p ≠ c) : Dr d c (upd H p o) := by
  obtain ⟨cells, i, big, seed, cnt, h1, h2, h3⟩ := h
  exact ⟨cells, i, big, seed, cnt, upd_else h1 n1.symm, upd_else h2 n2.symm, h3⟩
def rBegin (K : PySem.W.Frag) : V → Hp → VK → Prop := fun x H Q => ∃ (a : Addr) (ns : List Int), x = .ref a ∧ SqL K H a (ns.map V.int) ∧ ns.length ≤ 63 ∧
  ∀ (d c : Addr) (H' : Hp), Dr d c H' → Same H H' → Q (.ref d) H'
def rMixed : V → V → Hp → VK → Prop := fun x y H Q => ∃ (d c : Addr) (z : Int), x = .ref d ∧ y = .int z ∧ Dr d c H ∧ ∀ (r : Int) (H' : Hp), Dr d c H' → Keep d H H' → Q (.int r) H'
def rDraw : V → V → Hp → VK → Prop := fun x y H Q => ∃ (d c : Addr) (m : Int), x = .ref d ∧ y = .int m ∧ Dr d c H ∧ 0 < m ∧ m < 1000000000 ∧ ∀ (r : Int) (H' : Hp), 0 ≤ r → r < m → Dr d c H' → Keep d H H' → Q (.int r) H'
def rRare : V → V → Hp → VK → Prop := fun x y H Q => ∃ (d c : Addr) (m : Int), x = .ref d ∧ y = .int m ∧ Dr d c H ∧ 4 < m ∧ m < 1000000000 ∧ ∀ (r : Bool) (H' : Hp), Dr d c H' → Keep d H H' → Q (.bl r) H'
section
variable {P : Program} {w : World} {K : PySem.W.Frag} {mg : Str → Option Value} {base : Heap}
theorem ok_begin (T : Tx K mg w) : FnOk P w K mg base CX0 1 T.f_begin T.fd_begin ["_law_script"] (sp1 (rBegin K)) := by
  refine okR1 T.F_begin sc_begin rfl fun cdv A outer s H Q E x hr h => ?_
  obtain ⟨a, ns, rfl, hS, h63, q⟩ := h
  refine ⟨_, pss_one (ps_ret (pe_lst (pa_cons (pe_lc (own := [("_law_cell", 1)]) (g := gName 1) (tt := tYes) rfl sc_begin.nd (pi_list (pv 0)) (blkOk_by (N := ["_law_script", "_law_cell"]) (sc := defScope s_begin) (by decide +kernel)) (fun _ _ _ _ _ => pg_name (i := 1) sc_begin.nd rfl (Or.inl rfl)) (fun _ _ _ _ _ => pts_nil) (fun _ _ _ _ _ => (pe_callTy call_int1 (by rfl) T.z_int (by decide +kernel) (pa_cons (pv 1) pa_nil)))) (pa_cons pe_int (pa_cons pe_int (pa_cons pe_int (pa_cons pe_int pa_nil))))))), ?_⟩
  refine ⟨_, rfl, a, rfl, ⟨_, hS⟩, fun D hD => lc_list (K := K) (a := a) (xs := ns.map V.int) (fun i H' => H' = upd H D (.lst ((ns.take i).map V.int))) rfl ?_ ?_ ?_⟩
  · rintro i H' _ rfl
    exact (same_new hD).seq hS
  · rintro i x H' hi rfl
    rw [List.getElem?_map] at hi
    obtain ⟨z, hz, rfl⟩ := Option.map_eq_some_iff.mp hi
    refine ⟨rfl, yes ?_⟩
    refine ⟨_, rfl, .inl ⟨_, rfl, ?_⟩⟩
    refine ⟨_, upd_same, ?_, ?_⟩
    · rw [List.length_map, List.length_take]
      exact small1000 (by omega)
    · rw [upd_upd, List.take_add_one, hz, List.map_append] <;> rfl
  · rintro H' rfl
    rw [show (List.map V.int ns).length = ns.length from List.length_map _, List.take_length]
    refine ⟨sl 5, fun p hp => ?_⟩
    have hDp : D ≠ p := ne_of_none upd_same hp
    exact q p D _ ⟨ns, 0, 0, 1234577, 0, upd_same, upd_else upd_same hDp, hDp⟩ ((same_new hD).trans (same_new hp))
theorem ok_mixed (T : Tx K mg w) : FnOk P w K mg base CX0 1 T.f_mixed T.fd_mixed ["_law_d", "_law_cell"] (sp2 rMixed) := by
  refine okR2 T.F_mixed sc_mixed rfl fun cdv A outer s H Q E x y hr h => ?_
  obtain ⟨d, c, z, rfl, rfl, ⟨cells, i, big, seed, cnt, h1, h2, hn⟩, q⟩ := h
  refine ⟨_, pss_cons (ps_asg (pe_op op_add (pe_ix ix_list (pv 0) pe_int (fun _ _ => rfl)) pe_int) (pg_sub (pv 0) pe_int set_list))
      (pss_cons (ps_asg (pe_op op_mod (pe_callTy call_int1 (by rfl) T.z_int (by decide +kernel) (pa_cons (pe_op op_add (pe_op op_add (pe_op op_mul (pe_ix ix_list (pv 0) pe_int (fun _ _ => rfl)) pe_int) (pe_op op_mul (pe_op op_add (pv 1) (pe_ix ix_list (pv 0) pe_int (fun _ _ => rfl))) pe_int)) pe_int) pa_nil)) pe_int) (pg_sub (pv 0) pe_int set_list))
      (pss_cons (ps_asg (pe_op op_mod (pe_callTy call_int1 (by rfl) T.z_int (by decide +kernel) (pa_cons (pe_op op_add (pe_op op_add (pe_op op_mul (pe_ix ix_list (pv 0) pe_int (fun _ _ => rfl)) pe_int) (pe_op op_mul (pe_ix ix_list (pv 0) pe_int (fun _ _ => rfl)) pe_int)) pe_int) pa_nil)) pe_int) (pg_sub (pv 0) pe_int set_list))
      (pss_one (ps_ret (pe_op op_fdiv (pe_ix ix_list (pv 0) pe_int (fun _ _ => rfl)) pe_int))))), ?_⟩
  refine ⟨_, rfl, d, _, _, _, rfl, rfl, SqL.of h1, at_n 4 rfl, _, _, rfl, rfl, _, rfl, d, _, _, 4, rfl, rfl, h1, rfl, ?_⟩
  refine ⟨_, rfl, d, _, _, _, rfl, rfl, SqL.of upd_same, at_n 3 rfl, _, _, rfl, rfl, .inr (by decide), _, rfl, _, rfl, d, _, _, _, rfl, rfl, SqL.of upd_same, at_n 4 rfl, _, _, rfl, rfl, _, _, rfl, rfl, .inr (by decide), _, _, rfl, rfl, _, _, rfl, rfl, .inl ⟨_, rfl, ?_⟩⟩
  refine ⟨_, _, rfl, rfl, (by show (0 : Int) < 2147483647; decide), _, rfl, d, _, _, 3, rfl, rfl, upd_same, rfl, ?_⟩
  rw [upd_upd]
  refine ⟨_, rfl, d, _, _, _, rfl, rfl, SqL.of upd_same, at_n 3 rfl, _, _, rfl, rfl, .inr (by decide), _, rfl, d, _, _, _, rfl, rfl, SqL.of upd_same, at_n 4 rfl, _, _, rfl, rfl, .inr (by decide), _, _, rfl, rfl, _, _, rfl, rfl, .inl ⟨_, rfl, ?_⟩⟩
  refine ⟨_, _, rfl, rfl, (by show (0 : Int) < 2147483629; decide), _, rfl, d, _, _, 3, rfl, rfl, upd_same, rfl, ?_⟩
  rw [upd_upd]
  refine ⟨_, rfl, d, _, _, _, rfl, rfl, SqL.of upd_same, at_n 3 rfl, _, _, rfl, rfl, ⟨by decide, by decide⟩, ?_⟩
  exact q _ _ ⟨cells, i, big, _, _, upd_same, upd_else h2 hn, hn⟩ Keep.at
theorem ok_draw_digit (T : Tx K mg w) : FnOk P w K mg base CX0 1 T.f_draw_digit T.fd_draw_digit ["_law_d", "_law_many"] (sp2 rDraw) := by
  refine okR2 T.F_draw_digit sc_draw_digit rfl fun cdv A outer s H Q E x y hr h => ?_
  obtain ⟨d, c, m, rfl, rfl, ⟨cells, i, big, seed, cnt, h1, h2, hn⟩, m0, m1, q⟩ := h
  refine ⟨_, pss_cons (ps_set (i := 2) sc_draw_digit.nd rfl (Or.inl rfl) (pe_callB call_divmod (by rfl) T.z_divmod (by decide +kernel) (pa_cons (pe_ix ix_list (pv 0) pe_int (fun _ _ => rfl)) (pa_cons (pv 1) pa_nil))))
      (pss_cons (ps_asg (pe_ix ix_tup (pv 2) pe_int (fun _ _ => rfl)) (pg_sub (pv 0) pe_int set_list))
      (pss_one (ps_ret (pe_ix ix_tup (pv 2) pe_int (fun _ _ => rfl))))), ?_⟩
  refine ⟨_, rfl, d, _, _, _, rfl, rfl, SqL.of h1, at_n 2 rfl, _, rfl, _, _, rfl, ⟨m0, by omega⟩, fun p hp => ?_⟩
  have hdp : d ≠ p := ne_of_none h1 hp
  have hcp : c ≠ p := ne_of_none h2 hp
  refine ⟨_, rfl, p, _, _, _, rfl, rfl, SqT.of upd_same, at_n 0 rfl, _, rfl, d, _, _, 2, rfl, rfl, upd_else h1 hdp, rfl, ?_⟩
  refine ⟨_, rfl, p, _, _, _, rfl, rfl, SqT.of (upd_else upd_same hdp.symm), at_n 1 rfl, ?_⟩
  refine q _ _ (Int.emod_nonneg _ (by omega)) (Int.emod_lt_of_pos _ m0) ⟨cells, i, _, seed, cnt, upd_same, upd_else (upd_else h2 hcp) hn, hn⟩ ((Keep.new hp).trans Keep.at)
theorem ok_draw (T : Tx K mg w) : FnOk P w K mg base CX0 2 T.f_draw T.fd_draw ["_law_d", "_law_many"] (sp2 rDraw) := by
  refine okR2 T.F_draw sc_draw rfl fun cdv A outer s H Q E x y hr h => ?_
  obtain ⟨d, c, m, rfl, rfl, ⟨cells, i, big, seed, cnt, h1, h2, hn⟩, m0, m1, q⟩ := h
  have dr : Dr d c H := ⟨cells, i, big, seed, cnt, h1, h2, hn⟩
  refine ⟨_, pss_cons (ps_if (pt_cmpR op_gt (pe_ix ix_list (pv 0) pe_int (fun _ _ => rfl)) pe_int (nomark _)) (pss_one (ps_ret (pe_call (ok_draw_digit T) (hr.mono (by decide)) rfl T.m_draw_digit T.F_draw_digit.kp T.b_draw_digit .nil pass0 (pa_cons (pv 0) (pa_cons (pv 1) pa_nil))))) pss_nil)
      (pss_cons (ps_if (pt_cmpR op_lt (pe_ix ix_list (pv 0) pe_int (fun _ _ => rfl)) (pe_callB call_len_seq (by rfl) T.z_len (by decide +kernel) (pa_cons (pe_ix ix_list (pv 0) pe_int (fun _ _ => rfl)) pa_nil)) (nomark _)) (pss_cons (ps_set (i := 2) sc_draw.nd rfl (Or.inl rfl) (pe_ix ix_list (pe_ix ix_list (pv 0) pe_int (fun _ _ => rfl)) (pe_ix ix_list (pv 0) pe_int (fun _ _ => rfl)) (fun _ _ => rfl)))
      (pss_cons (ps_asg (pe_op op_add (pe_ix ix_list (pv 0) pe_int (fun _ _ => rfl)) pe_int) (pg_sub (pv 0) pe_int set_list))
      (pss_cons (ps_if (pt_cmpR op_ge (pe_callB call_abs (by rfl) T.z_abs (by decide +kernel) (pa_cons (pv 2) pa_nil)) (pe_op op_pow pe_int pe_int) (nomark _)) (pss_cons (ps_asg (pe_op op_and (pe_op op_fdiv (pe_callB call_abs (by rfl) T.z_abs (by decide +kernel) (pa_cons (pv 2) pa_nil)) pe_int) (pe_op op_sub (pe_op op_shl pe_int pe_int) pe_int)) (pg_sub (pv 0) pe_int set_list))
      (pss_one (ps_ret (pe_call (ok_draw_digit T) (hr.mono (by decide)) rfl T.m_draw_digit T.F_draw_digit.kp T.b_draw_digit .nil pass0 (pa_cons (pv 0) (pa_cons (pv 1) pa_nil)))))) pss_nil)
      (pss_one (ps_ret (pe_op op_mod (pe_callTy call_int1 (by rfl) T.z_int (by decide +kernel) (pa_cons (pe_call (ok_mixed T) (hr.mono (by decide)) rfl T.m_mixed T.F_mixed.kp T.b_mixed .nil pass0 (pa_cons (pv 0) (pa_cons (pv 2) pa_nil))) pa_nil)) (pv 1))))))) pss_nil)
      (pss_one (ps_ret (pe_op op_mod (pe_callTy call_int1 (by rfl) T.z_int (by decide +kernel) (pa_cons (pe_call (ok_mixed T) (hr.mono (by decide)) rfl T.m_mixed T.F_mixed.kp T.b_mixed .nil pass0 (pa_cons (pv 0) (pa_cons pe_int pa_nil))) pa_nil)) (pv 1))))), ?_⟩
  -- if d[2] > 0
  refine ⟨_, rfl, d, _, _, _, rfl, rfl, SqL.of h1, at_n 2 rfl, _, _, rfl, rfl, _, rfl, ite2 (fun _ => ?_) (fun _ => ?_)⟩
  · exact ⟨_, rfl, _, rfl, _, _, rfl, d, c, m, rfl, rfl, dr, m0, m1, q⟩
  -- if d[1] < len(d[0])
  refine ⟨_, rfl, d, _, _, _, rfl, rfl, SqL.of h1, at_n 1 rfl, _, rfl, d, _, _, _, rfl, rfl, SqL.of h1, at_n 0 rfl, c, _, rfl, .inl (SqL.of h2), _, _, rfl, rfl, _, rfl, ite2 (fun hc => ?_) (fun _ => ?_)⟩
  · have hi : i < cells.length := by
      have e : (i : Int) < ((cells.map V.int).length : Int) := of_decide_eq_true hc
      rw [List.length_map] at e
      omega
    obtain ⟨z, hz⟩ : ∃ z, cells[i]? = some z := ⟨cells[i], List.getElem?_eq_getElem hi⟩
    have hz' : (cells.map V.int)[i]? = some (.int z) := by
      rw [List.getElem?_map, hz]
      rfl
    -- cell = d[0][d[1]]; d[1] = d[1] + 1
    refine ⟨_, rfl, d, _, _, _, rfl, rfl, SqL.of h1, at_n 0 rfl, _, rfl, d, _, _, _, rfl, rfl, SqL.of h1, at_n 1 rfl, c, _, _, _, rfl, rfl, SqL.of h2, at_n i hz', ?_⟩
    refine ⟨_, rfl, d, _, _, _, rfl, rfl, SqL.of h1, at_n 1 rfl, _, _, rfl, rfl, _, rfl, d, _, _, 1, rfl, rfl, h1, rfl, ?_⟩
    have dr1 : Dr d c (upd H d (.lst [.ref c, .int (i + 1), .int big, .int seed, .int cnt])) := ⟨cells, i + 1, big, seed, cnt, upd_same, upd_else h2 hn, hn⟩
    -- if abs(cell) >= 10 ** 18
    refine ⟨_, rfl, _, rfl, _, _, rfl, rfl, ⟨by decide, by decide, by decide⟩, _, _, rfl, rfl, _, rfl, ite2 (fun _ => ?_) (fun _ => ?_)⟩
    · refine ⟨_, rfl, _, rfl, _, _, rfl, rfl, ⟨by decide, by decide⟩, _, _, rfl, rfl, ⟨by decide, by decide, by decide⟩, _, _, rfl, rfl, _, _, rfl, rfl, _, rfl, d, _, _, 2, rfl, rfl, upd_same, rfl, ?_⟩
      rw [upd_upd]
      refine ⟨_, rfl, _, rfl, _, _, rfl, d, c, m, rfl, rfl, ⟨cells, i + 1, _, seed, cnt, upd_same, upd_else h2 hn, hn⟩, m0, m1, fun r H' r0 r1 dr' kp => ?_⟩
      exact q r H' r0 r1 dr' (Keep.at.trans kp)
    · refine ⟨_, rfl, _, rfl, _, _, rfl, d, c, z, rfl, rfl, dr1, fun r H' dr' kp => .inl ⟨_, rfl, ?_⟩⟩
      exact ⟨_, rfl, _, _, rfl, rfl, m0, q _ _ (Int.emod_nonneg _ (by omega)) (Int.emod_lt_of_pos _ m0) dr' (Keep.at.trans kp)⟩
  · refine ⟨_, rfl, _, _, rfl, d, c, 7, rfl, rfl, dr, fun r H' dr' kp => .inl ⟨_, rfl, ?_⟩⟩
    exact ⟨_, rfl, _, _, rfl, rfl, m0, q _ _ (Int.emod_nonneg _ (by omega)) (Int.emod_lt_of_pos _ m0) dr' kp⟩
end

/-! ### data of tuples, in a heap -/
mutual
def Td (H : Hp) : PyData → V → Prop
  | .none, v => v = .non
  | .bool b, v => v = .bl b
  | .int i, v => v = .int i
  | .str x, v => v = .str x
  | .tuple ds, v => ∃ a xs, v = .ref a ∧ H a = some (.tup xs) ∧ TdAll H ds xs
  | .list _, _ => False
  | .dict _, _ => False
def TdAll (H : Hp) : List PyData → List V → Prop
  | [], xs => xs = []
  | d :: ds, xs => ∃ v r, xs = v :: r ∧ Td H d v ∧ TdAll H ds r
end
/-- tuples stay -/
def TS (H H' : Hp) : Prop := ∀ b xs, H b = some (.tup xs) → H' b = some (.tup xs)
theorem TS.refl (H : Hp) : TS H H := fun _ _ e => e
theorem TS.of {H H' : Hp} (s : Same H H') : TS H H' := fun b xs e => s b _ e
theorem TS.keep {d : Addr} {H H' : Hp} (k : Keep d H H') (h : ∃ xs, H d = some (.lst xs)) : TS H H' := fun b xs e => by
  obtain ⟨ys, h⟩ := h
  refine k b _ e ?_
  rintro rfl
  rw [h] at e
  cases e
theorem TS.trans {H H1 H2 : Hp} (a : TS H H1) (b : TS H1 H2) : TS H H2 := fun c o h => b c o (a c o h)
theorem TS.wr {H : Hp} {l : Addr} {xs : List V} {o : HO} (h : H l = some (.lst xs)) : TS H (upd H l o) := fun b ys e => by
  refine upd_else e ?_
  rintro rfl
  rw [h] at e
  cases e
theorem TS.dict {H : Hp} {l : Addr} {xs : List (Key × V)} {o : HO} (h : H l = some (.dK xs)) : TS H (upd H l o) := fun b ys e => by
  refine upd_else e ?_
  rintro rfl
  rw [h] at e
  cases e
theorem TS.new {H : Hp} {p : Addr} {o : HO} (h : H p = none) : TS H (upd H p o) := TS.of (same_new h)
theorem TS.dr {d c : Addr} {H H' : Hp} (dr : Dr d c H) (k : Keep d H H') : TS H H' := TS.keep k dr.there
mutual
theorem Td.mono {H H' : Hp} (s : TS H H') : ∀ (d : PyData) (v : V), Td H d v → Td H' d v
  | .none, _, h => h
  | .bool _, _, h => h
  | .int _, _, h => h
  | .str _, _, h => h
  | .tuple ds, _, ⟨a, xs, e, h1, h2⟩ => ⟨a, xs, e, s _ _ h1, TdAll.mono s ds xs h2⟩
  | .list _, _, h => h
  | .dict _, _, h => h
theorem TdAll.mono {H H' : Hp} (s : TS H H') : ∀ (ds : List PyData) (xs : List V), TdAll H ds xs → TdAll H' ds xs
  | [], _, h => h
  | d :: ds, _, ⟨v, r, e, h1, h2⟩ => ⟨v, r, e, Td.mono s d v h1, TdAll.mono s ds r h2⟩
end
mutual
theorem Td.dp {K : PySem.W.Frag} {H : Hp} : ∀ (d : PyData) (v : V), Td H d v → Dp K H v d
  | .none, _, h => by cases h; exact .non
  | .bool b, _, h => by cases h; exact .bl b
  | .int i, _, h => by cases h; exact .int i
  | .str x, _, h => by cases h; exact .str x
  | .tuple ds, _, ⟨a, xs, e, h1, h2⟩ => by subst e; exact .tup (SqT.of h1) (TdAll.dp ds xs h2)
  | .list _, _, h => h.elim
  | .dict _, _, h => h.elim
theorem TdAll.dp {K : PySem.W.Frag} {H : Hp} : ∀ (ds : List PyData) (xs : List V), TdAll H ds xs → DpAll K H xs ds
  | [], _, h => by cases h; exact .nil
  | d :: ds, _, ⟨v, r, e, h1, h2⟩ => by subst e; exact .cons (Td.dp d v h1) (TdAll.dp ds r h2)
end
theorem TdAll.len {H : Hp} : ∀ (ds : List PyData) (xs : List V), TdAll H ds xs → xs.length = ds.length
  | [], _, h => by cases h; rfl
  | _ :: ds, _, ⟨v, r, e, _, h2⟩ => by subst e; exact congrArg Nat.succ (TdAll.len ds r h2)
theorem TdAll.app {H : Hp} : ∀ (ds es : List PyData) (xs ys : List V), TdAll H ds xs → TdAll H es ys → TdAll H (ds ++ es) (xs ++ ys)
  | [], _, _, _, h, k => by cases h; exact k
  | _ :: ds, es, _, ys, ⟨v, r, e, h1, h2⟩, k => by subst e; exact ⟨v, r ++ ys, rfl, h1, TdAll.app ds es r ys h2 k⟩
theorem TdAll.tk {H : Hp} : ∀ (n : Nat) (ds : List PyData) (xs : List V), TdAll H ds xs → TdAll H (ds.take n) (xs.take n)
  | 0, _, _, _ => by simp only [List.take_zero]; exact rfl
  | _ + 1, [], _, h => by cases h; exact rfl
  | n + 1, _ :: ds, _, ⟨v, r, e, h1, h2⟩ => by subst e; exact ⟨v, r.take n, rfl, h1, TdAll.tk n ds r h2⟩
theorem TdAll.dr {H : Hp} : ∀ (n : Nat) (ds : List PyData) (xs : List V), TdAll H ds xs → TdAll H (ds.drop n) (xs.drop n)
  | 0, _, _, h => h
  | _ + 1, [], _, h => by cases h; exact rfl
  | n + 1, _ :: ds, _, ⟨v, r, e, h1, h2⟩ => by subst e; exact TdAll.dr n ds r h2
theorem TdAll.at {H : Hp} : ∀ (i : Nat) (ds : List PyData) (xs : List V) (d : PyData), TdAll H ds xs → ds[i]? = some d → ∃ v, xs[i]? = some v ∧ Td H d v
  | _, [], _, _, _, e => by simp at e
  | 0, _ :: ds, _, d, ⟨v, r, e, h1, h2⟩, k => by
    subst e
    simp at k
    subst k
    exact ⟨v, rfl, h1⟩
  | i + 1, _ :: ds, _, d, ⟨v, r, e, h1, h2⟩, k => by
    subst e
    obtain ⟨u, e1, e2⟩ := TdAll.at i ds r d h2 (by simpa using k)
    exact ⟨u, by simpa using e1, e2⟩
mutual
def plainD : PyData → Bool
  | .none => true
  | .bool _ => false
  | .int _ => true
  | .str x => PyData.strOk x
  | .tuple ds => plainAll ds
  | .list _ => false
  | .dict _ => false
def plainAll : List PyData → Bool
  | [] => true
  | d :: ds => plainD d && plainAll ds
end
mutual
theorem plain_lay : ∀ d : PyData, plainD d = true → PyData.canLay0 d = true
  | .none, _ => rfl
  | .bool _, h => by cases h
  | .int _, _ => rfl
  | .str _, h => h
  | .tuple ds, h => plain_layAll ds h
  | .list _, h => by cases h
  | .dict _, h => by cases h
theorem plain_layAll : ∀ ds : List PyData, plainAll ds = true → PyData.canLayAll0 ds = true
  | [], _ => rfl
  | d :: ds, h => by
    have h' := Bool.and_eq_true_iff.mp h
    show (PyData.canLay0 d && PyData.canLayAll0 ds) = true
    rw [plain_lay d h'.1, plain_layAll ds h'.2]
    rfl
end
mutual
theorem eqv_eq : ∀ d e : PyData, plainD d = true → plainD e = true → PyData.eqv d e = true → d = e
  | .none, e, _, he, h => by cases e <;> first | rfl | cases h
  | .bool _, _, hd, _, _ => by cases hd
  | .int i, e, _, he, h => by
    cases e <;> first | cases h | cases he | skip
    have := beq_iff_eq.mp (show (i == _) = true from h)
    rw [this]
  | .str x, e, _, _, h => by
    cases e <;> first | cases h | skip
    have := beq_iff_eq.mp (show (x == _) = true from h)
    rw [this]
  | .tuple ds, e, hd, he, h => by
    cases e <;> first | cases h | skip
    exact congrArg PyData.tuple (eqvAll_eq ds _ hd he h)
  | .list _, _, hd, _, _ => by cases hd
  | .dict _, _, hd, _, _ => by cases hd
theorem eqvAll_eq : ∀ ds es : List PyData, plainAll ds = true → plainAll es = true → PyData.eqvAll ds es = true → ds = es
  | [], [], _, _, _ => rfl
  | [], _ :: _, _, _, h => by cases h
  | _ :: _, [], _, _, h => by cases h
  | d :: ds, e :: es, hd, he, h => by
    have h1 := Bool.and_eq_true_iff.mp hd
    have h2 := Bool.and_eq_true_iff.mp he
    have h3 := Bool.and_eq_true_iff.mp (show (PyData.eqv d e && PyData.eqvAll ds es) = true from h)
    rw [eqv_eq d e h1.1 h2.1 h3.1, eqvAll_eq ds es h1.2 h2.2 h3.2]
end
theorem eqv_iff {d e : PyData} (hd : plainD d = true) (he : plainD e = true) : PyData.eqv d e = true ↔ d = e :=
  ⟨eqv_eq d e hd he, fun h => by rw [h]; exact SeqAt.eqv_refl e (plain_lay e he)⟩
theorem eqvAll_iff {d e : List PyData} (hd : plainAll d = true) (he : plainAll e = true) : PyData.eqvAll d e = true ↔ d = e :=
  ⟨eqvAll_eq d e hd he, fun h => by
    have h2 := SeqAt.eqv_refl (.tuple e) (plain_layAll e he)
    rw [h]
    exact h2⟩

/-! ### slices and sums of tuples, as data -/
def cutD (ds : List PyData) (lo hi : Option Int) : List PyData := (ds.drop (HT.sIx ds.length 0 lo)).take (HT.sIx ds.length ds.length hi - HT.sIx ds.length 0 lo)
theorem slD {K : PySem.W.Frag} {H : Hp} {v : V} {ds : List PyData} {lo hi : Option Int} {Q : VK} (h : Td H (.tuple ds) v)
    (q : ∀ (p : V) (H' : Hp), Same H H' → Td H' (.tuple (cutD ds lo hi)) p → Q p H') : rSlA K v lo hi H Q := by
  obtain ⟨a, xs, rfl, ha, hx⟩ := h
  have hl := TdAll.len _ _ hx
  refine ⟨a, xs, rfl, SqT.of ha, fun w => ?_, fun _ p hp => ?_⟩
  · rw [hl] at w
    refine q (.ref a) H (Same.refl _) ⟨a, xs, rfl, ha, ?_⟩
    have e : cutD ds lo hi = ds := by
      unfold cutD
      rw [w.1, w.2, List.drop_zero, Nat.sub_zero, List.take_length]
    rw [e]
    exact hx
  · refine q (.ref p) _ (same_new hp) ⟨p, _, rfl, upd_same, ?_⟩
    have e : cutV xs lo hi = (xs.drop (HT.sIx ds.length 0 lo)).take (HT.sIx ds.length ds.length hi - HT.sIx ds.length 0 lo) := by
      unfold cutV
      rw [hl]
    rw [e]
    exact TdAll.mono (TS.new hp) _ _ (TdAll.tk _ _ _ (TdAll.dr _ _ _ hx))
theorem nil_of_len {α β : Type} {xs : List α} {ds : List β} (h : xs.length = ds.length) (e : xs = []) : ds = [] := by
  subst e
  cases ds with
  | nil => rfl
  | cons _ _ => cases h
theorem catD {K : PySem.W.Frag} {H : Hp} {x y : V} {ds es : List PyData} {Q : VK} (hx : Td H (.tuple ds) x) (hy : Td H (.tuple es) y) (hz : ds.length + es.length ≤ 1000)
    (q : ∀ (p : V) (H' : Hp), Same H H' → Td H' (.tuple (ds ++ es)) p → Q p H') : rCatA K x y H Q := by
  obtain ⟨a, xs, rfl, ha, h1⟩ := hx
  obtain ⟨b, ys, rfl, hb, h2⟩ := hy
  have l1 := TdAll.len _ _ h1
  have l2 := TdAll.len _ _ h2
  refine ⟨a, b, xs, ys, rfl, rfl, SqT.of ha, SqT.of hb, Nat.le_of_lt (small1000 (by omega)), fun e => ?_, fun _ e => ?_, fun _ _ p hp => ?_⟩
  · rw [nil_of_len l1 e] at q
    exact q _ H (Same.refl _) ⟨b, ys, rfl, hb, h2⟩
  · rw [nil_of_len l2 e, List.append_nil] at q
    exact q _ H (Same.refl _) ⟨a, xs, rfl, ha, h1⟩
  · exact q _ _ (same_new hp) ⟨p, _, rfl, upd_same, TdAll.mono (TS.new hp) _ _ (TdAll.app _ _ _ _ h1 h2)⟩
theorem slFD {K : PySem.W.Frag} {σ : L2.St} {H : Hp} {v : V} {ds : List PyData} {lo : Option Int} {Q : VK} (h : Td H (.tuple ds) v)
    (q : ∀ (p : V) (H' : Hp), Same H H' → Td H' (.tuple (cutD ds lo none)) p → Q p H') : tNoPart σ H fun u H' => rSlA K v lo u H' Q := slD h q
theorem cut_tail (d : PyData) (ks : List PyData) : cutD (d :: ks) (some 1) none = ks := by
  unfold cutD
  rw [show (some (1 : Int)) = some (((1 : Nat) : Int)) from rfl, HT.sIx_nat, List.length_cons, Nat.min_eq_left (by omega)]
  show ((ks.take (ks.length + 1 - 1))) = ks
  rw [Nat.add_sub_cancel, List.take_length]
theorem or_both {a : Bool} {A B T : Prop} (hA : A) (hT : A → ¬ a = true → T) : if a = true then (if true = true then A else B) else T := by
  by_cases h : a = true
  · rw [if_pos h, if_pos rfl]
    exact hA
  · rw [if_neg h]
    exact hT hA h

/-! ### texts as lists of codes -/
def tx (l : List Nat) : Str := ⟨l.toArray⟩
theorem tx_cps (l : List Nat) : (tx l).cps.toList = l := rfl
theorem tx_len (l : List Nat) : (tx l).length = l.length := by
  show l.toArray.size = l.length
  exact List.size_toArray
theorem len_cps (z : Str) : z.length = z.cps.toList.length := by
  show z.cps.size = _
  rw [Array.length_toList]
theorem tx_eta (z : Str) : tx z.cps.toList = z := by
  obtain ⟨a⟩ := z
  show (⟨a.toList.toArray⟩ : Str) = ⟨a⟩
  rw [Array.toArray_toList]
theorem tx_app (a b : List Nat) : tx a ++ tx b = tx (a ++ b) := by
  show (⟨a.toArray ++ b.toArray⟩ : Str) = ⟨(a ++ b).toArray⟩
  rw [List.append_toArray]
theorem tx_inj {a b : List Nat} (h : tx a = tx b) : a = b := by
  have e : (tx a).cps.toList = (tx b).cps.toList := by rw [h]
  exact e
theorem tx_one (c : Nat) : (⟨#[c]⟩ : Str) = tx [c] := rfl
theorem app_len (a b : Str) : (a ++ b).length = a.length + b.length := by
  show (a.cps ++ b.cps).size = _
  rw [Array.size_append]
  rfl
theorem app_cps (a b : Str) : (a ++ b).cps.toList = a.cps.toList ++ b.cps.toList := by
  show (a.cps ++ b.cps).toList = _
  rw [Array.toList_append]
theorem str_ext {a b : Str} (h : a.cps.toList = b.cps.toList) : a = b := by
  rw [← tx_eta a, ← tx_eta b, h]
theorem sgn (z : Str) (i : Nat) {c : Nat} (h : z.cps.toList[i]? = some c) : atI z.cps.toList (i : Int) = some c := atI_nat h
theorem cut_tx (z : Str) (i j : Nat) (hij : i ≤ j) (hj : i ≤ z.length) : cutS z (some (i : Int)) (some (j : Int)) = tx ((z.cps.toList.drop i).take (j - i)) := by
  unfold cutS
  rw [HT.sIx_nat, HT.sIx_nat, Nat.min_eq_left hj]
  refine congrArg (fun q => (⟨q⟩ : Str)) ?_
  refine congrArg List.toArray ?_
  by_cases h : j ≤ z.length
  · rw [Nat.min_eq_left h]
  · rw [Nat.min_eq_right (by omega), List.take_of_length_le (by rw [List.length_drop, len_cps]; exact Nat.le_refl _), List.take_of_length_le (by rw [List.length_drop, ← len_cps]; omega)]
theorem inV_str (x : Str) (xs : List Str) : inV (.str x) (xs.map V.str) = decide (x ∈ xs) := by
  induction xs with
  | nil => rfl
  | cons y r ih =>
    have e : inV (.str x) ((y :: r).map V.str) = ((y == x) || inV (.str x) (r.map V.str)) := rfl
    rw [e, ih]
    by_cases h : y = x
    · rw [h]
      simp
    · have h2 : ¬ x = y := fun q => h q.symm
      simp [h, h2]
/-- every code is one that a text may have -/
def okB (z : Str) : Bool := z.cps.toList.all fun c => decide (c < 1114112)
theorem okB_app {a b : Str} (h1 : okB a = true) (h2 : okB b = true) : okB (a ++ b) = true := by
  unfold okB at *
  rw [app_cps, List.all_append, h1, h2]
  rfl
theorem okB_mem {z : Str} (h : okB z = true) {c : Nat} (hc : c ∈ z.cps.toList) : okB ⟨#[c]⟩ = true := by
  unfold okB at h
  have h2 := List.all_eq_true.mp h c hc
  show ([c].all fun c => decide (c < 1114112)) = true
  rw [List.all_cons, h2]
  rfl

theorem at_in {xs : List V} {r : Int} (h0 : 0 ≤ r) (h1 : r < (xs.length : Int)) : ∃ v, atI xs r = some v ∧ v ∈ xs := by
  obtain ⟨j, rfl⟩ := Int.eq_ofNat_of_zero_le h0
  exact ⟨xs[j], at_n j (List.getElem?_eq_getElem (by omega)), List.getElem_mem _⟩
theorem at_int {ns : List Int} {r : Int} (h0 : 0 ≤ r) (h1 : r < (ns.length : Int)) : ∃ n, atI (ns.map V.int) r = some (.int n) ∧ n ∈ ns := by
  obtain ⟨v, h, hm⟩ := at_in (xs := ns.map V.int) h0 (by rw [List.length_map]; exact h1)
  obtain ⟨n, hn, rfl⟩ := List.mem_map.mp hm
  exact ⟨n, h, hn⟩
theorem bl_eq {a b : Int} : decide (V.int a = V.int b) = decide (a = b) := decide_eq_decide.mpr ⟨V.int.inj, fun h => by rw [h]⟩

/-! ### promises of defs with four and five arguments -/
def sp4 (R : V → V → V → V → Hp → VK → Prop) : Sp := fun vs H Q _ => ∃ x y z u, vs = [x, y, z, u] ∧ R x y z u H Q
def sp5 (R : V → V → V → V → V → Hp → VK → Prop) : Sp := fun vs H Q _ => ∃ x y z u v, vs = [x, y, z, u, v] ∧ R x y z u v H Q

/-! ### tokens of kinds and exprs -/
def sI (i : Int) : Str := (toString i : String)
def intT (i : Int) : List Str := if i < 0 then (["-", sI (-i)] : List Str) else [sI i]
def wr (b : Bool) (ts : List Str) : List Str := if b = true then (["("] : List Str) ++ ts ++ ([")"] : List Str) else ts
def comL : List (List Str) → List Str
  | [] => []
  | t :: r => t ++ (r.map fun u => ("," : Str) :: u).flatten
def okN (s : Str) : Prop := s.length ≤ 12
def okI (i : Int) : Prop := i.natAbs ≤ 2000
def KB (d : PyData) (ts : List Str) : Prop := (d = .tuple [.str "bool"] ∧ ts = (["bool"] : List Str)) ∨ (∃ s, okN s ∧ d = .tuple [.str "named", .str s] ∧ ts = [s]) ∨
  (∃ ns : List Str, (∀ s ∈ ns, okN s) ∧ ns ≠ [] ∧ ns.length ≤ 20 ∧ d = .tuple [.str "mode", .tuple (ns.map PyData.str)] ∧ ts = (["mode", "("] : List Str) ++ comL (ns.map fun s => [s]) ++ ([")"] : List Str)) ∨
  (∃ (lo hi per : Int) (how : Str), okI lo ∧ okI hi ∧ okI per ∧ 0 ≤ per ∧ okN how ∧ d = .tuple [.str "num", .int lo, .int hi, .int per, .str how] ∧ ts = (["num"] : List Str) ++ intT lo ++ ([".."] : List Str) ++ intT hi ++ (if per = 1 then [] else (["per", sI per] : List Str)) ++ [how])
def KT : Nat → PyData → List Str → Prop
  | 0, d, ts => KB d ts
  | n + 1, d, ts => KB d ts ∨ ∃ (k : PyData) (m : Int) (t : List Str), KT n k t ∧ okI m ∧ 0 ≤ m ∧ d = .tuple [.str "row", k, .int m] ∧ ts = (["row", sI m, "of"] : List Str) ++ t
def VT (d : PyData) (ts : List Str) : Prop := (∃ b : Int, (b = 0 ∨ b = 1) ∧ d = .tuple [.str "truth", .int b] ∧ ts = ([if b = 1 then "true" else "false"] : List Str)) ∨
  ∃ s t : Str, okN s ∧ okN t ∧ d = .tuple [.str "value", .str s, .str t] ∧ ts = ([s, ".", t] : List Str)
def LT (d : PyData) (ts : List Str) : Prop := (∃ n k : Int, okI n ∧ okI k ∧ 0 ≤ n ∧ 0 ≤ k ∧ d = .tuple [.str "every", .int n, .int k] ∧ ts = (["every", sI n, "from", sI k] : List Str)) ∨
  ∃ (s : Str) (v : PyData) (t : List Str), okN s ∧ VT v t ∧ d = .tuple [.str "is", .str s, v] ∧ ts = ([s, "is"] : List Str) ++ t
def sgs : List (Str × Str × Nat) := [("then", "then", 0), ("or", "or", 1), ("xor", "xor", 2), ("and", "and", 3), ("eq", "==", 4), ("ne", "!=", 4), ("lt", "<", 4), ("le", "<=", 4), ("add", "+", 5), ("sub", "-", 5), ("mul", "*", 6), ("div", "/", 6)]
def frs : List (Str × Str) := [("not", "not"), ("last", "last"), ("neg", "-")]
def nary : List Str := ["pick", "mid", "vote", "put", "min", "max", "at", "sum", "any", "all", "row", "weave"]
def lefL (l : Nat) : Nat := if l = 0 ∨ l = 4 then l + 1 else l
def rigL (l : Nat) : Nat := if l = 0 then 0 else l + 1
def nonneg : PyData → Bool
  | .tuple [.str w, .int i] => decide (w = "int") && decide (0 ≤ i)
  | _ => false
def flst (w : Str) (d : PyData) : Nat := if w = "neg" ∧ nonneg d = true then 9 else 7
def All2 {α β : Type} (R : α → β → Prop) : List α → List β → Prop
  | [], [] => True
  | a :: as, b :: bs => R a b ∧ All2 R as bs
  | _, _ => False
/-- the parts of a word with parts in parentheses; R: what an expr's tokens are -/
def AT (R : PyData → List Str → Prop) (w : Str) (ds : List PyData) (tss : List (List Str)) : Prop :=
  (w ∈ nary ∧ ds ≠ [] ∧ ds.length ≤ 7 ∧ All2 R ds tss) ∨
  (w = "as" ∧ ∃ d k t u, R d t ∧ KT 2 k u ∧ ds = [d, k] ∧ tss = [t, u]) ∨
  (w = "when" ∧ ∃ d y t u, R d t ∧ LT y u ∧ ds = [d, y] ∧ tss = [t, u]) ∨
  (w = "held" ∧ ∃ d e y t u v, R d t ∧ R e u ∧ LT y v ∧ ds = [d, e, y] ∧ tss = [t, u, v]) ∨
  (w = "merge" ∧ ∃ (s : Str) (as : List PyData) (us : List (List Str)), okN s ∧ as.length ≤ 5 ∧ All2 (fun a u => ∃ v e t x, VT v t ∧ R e x ∧ a = .tuple [v, e] ∧ u = t ++ ([":"] : List Str) ++ x) as us ∧ ds = [.str s, .tuple as] ∧ tss = [s] :: us) ∨
  (w = "here" ∧ ∃ s : Str, okN s ∧ ds = [.str s] ∧ tss = [[s]]) ∨
  (w = "else" ∧ ∃ (s : Str) (d : PyData) (t : List Str), okN s ∧ R d t ∧ ds = [.str s, d] ∧ tss = [[s], t]) ∨
  (w = "fresh" ∧ ∃ (s : Str) (m : Int) (d : PyData) (t : List Str), okN s ∧ okI m ∧ 0 ≤ m ∧ R d t ∧ ds = [.str s, .int m, d] ∧ tss = [[s], [sI m], t])
def ET : Nat → PyData → List Str → Nat → Prop
  | 0, _, _, _ => False
  | n + 1, d, ts, l =>
    (∃ i : Int, okI i ∧ d = .tuple [.str "int", .int i] ∧ ts = intT i ∧ l = if i < 0 then 7 else 8) ∨
    (∃ s : Str, okN s ∧ d = .tuple [.str "name", .str s] ∧ ts = [s] ∧ l = 8) ∨
    (VT d ts ∧ l = 8) ∨
    (∃ (g : Str × Str × Nat) (d1 d2 : PyData) (t1 t2 : List Str) (l1 l2 : Nat), g ∈ sgs ∧ ET n d1 t1 l1 ∧ ET n d2 t2 l2 ∧ d = .tuple [.str g.1, d1, d2] ∧ l = g.2.2 ∧ ts = wr (decide (l1 < lefL g.2.2)) t1 ++ [g.2.1] ++ wr (decide (l2 < rigL g.2.2)) t2) ∨
    (∃ (g : Str × Str) (d1 : PyData) (t1 : List Str) (l1 : Nat), g ∈ frs ∧ ET n d1 t1 l1 ∧ d = .tuple [.str g.1, d1] ∧ l = 7 ∧ ts = [g.2] ++ wr (decide (l1 < flst g.1 d1)) t1) ∨
    (∃ (w : Str) (ds : List PyData) (tss : List (List Str)), AT (fun d t => ∃ l, ET n d t l) w ds tss ∧ d = .tuple (.str w :: ds) ∧ l = 8 ∧ ts = [w] ++ ((["("] : List Str) ++ comL tss ++ ([")"] : List Str)))
theorem intT_ne (i : Int) : intT i ≠ [] := by
  unfold intT
  by_cases h : i < 0
  · rw [if_pos h]; exact List.cons_ne_nil _ _
  · rw [if_neg h]; exact List.cons_ne_nil _ _
theorem VT.ne {d : PyData} {ts : List Str} (h : VT d ts) : ts ≠ [] := by
  rcases h with ⟨_, _, _, rfl⟩ | ⟨_, _, _, _, _, rfl⟩ <;> exact List.cons_ne_nil _ _
theorem LT.ne {d : PyData} {ts : List Str} (h : LT d ts) : ts ≠ [] := by
  rcases h with ⟨_, _, _, _, _, _, _, rfl⟩ | ⟨_, _, _, _, _, _, rfl⟩ <;> exact List.cons_ne_nil _ _
theorem wr_ne {b : Bool} {ts : List Str} (h : ts ≠ []) : wr b ts ≠ [] := by
  unfold wr
  cases b with
  | true => exact List.cons_ne_nil _ _
  | false => exact h
theorem KB.ne {d : PyData} {ts : List Str} (h : KB d ts) : ts ≠ [] := by
  rcases h with ⟨_, rfl⟩ | ⟨_, _, _, rfl⟩ | ⟨_, _, _, _, _, rfl⟩ | ⟨_, _, _, _, _, _, _, _, _, _, rfl⟩ <;> exact List.cons_ne_nil _ _
theorem KT.ne : ∀ {n : Nat} {d : PyData} {ts : List Str}, KT n d ts → ts ≠ []
  | 0, _, _, h => KB.ne h
  | n + 1, _, _, h => by
    rcases h with h | ⟨_, _, _, _, _, _, _, rfl⟩
    · exact KB.ne h
    · exact List.cons_ne_nil _ _
theorem ET.ne : ∀ {n : Nat} {d : PyData} {ts : List Str} {l : Nat}, ET n d ts l → ts ≠ []
  | n + 1, _, _, _, h => by
    rcases h with ⟨i, _, _, rfl, _⟩ | ⟨_, _, _, rfl, _⟩ | ⟨h, _⟩ | ⟨g, _, _, t1, t2, _, _, _, h1, _, _, _, rfl⟩ | ⟨_, _, _, _, _, _, _, _, rfl⟩ | ⟨_, _, _, _, _, _, rfl⟩
    · exact intT_ne i
    · exact List.cons_ne_nil _ _
    · exact h.ne
    · have := wr_ne (b := decide (‹Nat› < lefL g.2.2)) (ET.ne h1)
      simp
    · exact List.cons_ne_nil _ _
    · exact List.cons_ne_nil _ _
theorem ET.mono : ∀ {n : Nat} {d : PyData} {ts : List Str} {l : Nat}, ET n d ts l → ET (n + 1) d ts l := by
  intro n
  induction n with
  | zero => intro d ts l h; exact h.elim
  | succ n ih =>
    intro d ts l h
    have all : ∀ {ds : List PyData} {tss : List (List Str)}, All2 (fun d t => ∃ l, ET n d t l) ds tss → All2 (fun d t => ∃ l, ET (n + 1) d t l) ds tss := fun {ds tss} => by
      induction ds generalizing tss with
      | nil => intro h; cases tss with
        | nil => trivial
        | cons _ _ => exact h
      | cons a as ihl => intro h; cases tss with
        | nil => exact h
        | cons b bs =>
          obtain ⟨⟨l, h1⟩, h2⟩ := h
          exact ⟨⟨l, ih h1⟩, ihl h2⟩
    have arms : ∀ {ds : List PyData} {tss : List (List Str)}, All2 (fun a u => ∃ v e t x, VT v t ∧ (∃ l, ET n e x l) ∧ a = .tuple [v, e] ∧ u = t ++ ([":"] : List Str) ++ x) ds tss → All2 (fun a u => ∃ v e t x, VT v t ∧ (∃ l, ET (n + 1) e x l) ∧ a = .tuple [v, e] ∧ u = t ++ ([":"] : List Str) ++ x) ds tss := fun {ds tss} => by
      induction ds generalizing tss with
      | nil => intro h; cases tss with
        | nil => trivial
        | cons _ _ => exact h
      | cons a as ihl => intro h; cases tss with
        | nil => exact h
        | cons b bs =>
          obtain ⟨⟨v, e, t, x, h1, ⟨l, h2⟩, h3⟩, h4⟩ := h
          exact ⟨⟨v, e, t, x, h1, ⟨l, ih h2⟩, h3⟩, ihl h4⟩
    rcases h with h | h | h | ⟨g, d1, d2, t1, t2, l1, l2, h0, h1, h2, h3⟩ | ⟨g, d1, t1, l1, h0, h1, h3⟩ | ⟨w, ds, tss, h1, h3⟩
    · exact .inl h
    · exact .inr (.inl h)
    · exact .inr (.inr (.inl h))
    · exact .inr (.inr (.inr (.inl ⟨g, d1, d2, t1, t2, l1, l2, h0, ih h1, ih h2, h3⟩)))
    · exact .inr (.inr (.inr (.inr (.inl ⟨g, d1, t1, l1, h0, ih h1, h3⟩))))
    · refine .inr (.inr (.inr (.inr (.inr ⟨w, ds, tss, ?_, h3⟩))))
      rcases h1 with ⟨a, b, c, h⟩ | ⟨a, d, k, t, u, ⟨l, h⟩, r⟩ | ⟨a, d, y, t, u, ⟨l, h⟩, r⟩ | ⟨a, d, e, y, t, u, v, ⟨l, h⟩, ⟨m, k⟩, r⟩ | ⟨a, s, as, us, b, c, h, r⟩ | h | ⟨a, s, d, t, b, ⟨l, h⟩, r⟩ | ⟨a, s, m, d, t, b, c, e, ⟨l, h⟩, r⟩
      · exact .inl ⟨a, b, c, all h⟩
      · exact .inr (.inl ⟨a, d, k, t, u, ⟨l, ih h⟩, r⟩)
      · exact .inr (.inr (.inl ⟨a, d, y, t, u, ⟨l, ih h⟩, r⟩))
      · exact .inr (.inr (.inr (.inl ⟨a, d, e, y, t, u, v, ⟨l, ih h⟩, ⟨m, ih k⟩, r⟩)))
      · exact .inr (.inr (.inr (.inr (.inl ⟨a, s, as, us, b, c, arms h, r⟩))))
      · exact .inr (.inr (.inr (.inr (.inr (.inl h)))))
      · exact .inr (.inr (.inr (.inr (.inr (.inr (.inl ⟨a, s, d, t, b, ⟨l, ih h⟩, r⟩))))))
      · exact .inr (.inr (.inr (.inr (.inr (.inr (.inr ⟨a, s, m, d, t, b, c, e, ⟨l, ih h⟩, r⟩))))))
theorem ET.up {n m : Nat} {d : PyData} {ts : List Str} {l : Nat} (h : ET n d ts l) (k : n ≤ m) : ET m d ts l := by
  induction m with
  | zero =>
    obtain rfl : n = 0 := by omega
    exact h
  | succ m ih =>
    rcases Nat.lt_or_ge m n with g | g
    · obtain rfl : n = m + 1 := by omega
      exact h
    · exact (ih g).mono
/-- as the program joins parts: a comma behind what is there already -/
def lstF : List Str → List (List Str) → List Str
  | acc, [] => acc
  | acc, t :: r => lstF (if acc = [] then t else acc ++ ("," : Str) :: t) r
theorem lstF_app : ∀ (r : List (List Str)) (acc : List Str), acc ≠ [] → lstF acc r = acc ++ (r.map fun u => ("," : Str) :: u).flatten
  | [], acc, _ => by simp [lstF]
  | t :: r, acc, h => by
    show lstF (if acc = [] then t else acc ++ ("," : Str) :: t) r = _
    rw [if_neg h, lstF_app r _ (by simp [h])]
    simp [List.append_assoc]
theorem lstF_com {tss : List (List Str)} (h : ∀ t ∈ tss, t ≠ []) : lstF [] tss = comL tss := by
  cases tss with
  | nil => rfl
  | cons t r =>
    show lstF (if ([] : List Str) = [] then t else [] ++ ("," : Str) :: t) r = _
    rw [if_pos rfl, lstF_app r t (h t (by simp))]
    rfl

def SL (H : Hp) (p : Addr) (ts : List Str) : Prop := H p = some (.lst (ts.map V.str))
theorem catS {H : Hp} {a b : Addr} {ts us : List Str} {Q : VK} (ha : SL H a ts) (hb : SL H b us) (hl : ts.length + us.length ≤ 300000) (q : ∀ (p : Addr) (H' : Hp), Same H H' → SL H' p (ts ++ us) → Q (.ref p) H') : rCat (.ref a) (.ref b) H Q :=
  ⟨a, b, _, _, rfl, rfl, ha, hb, by rw [List.length_map, List.length_map, sizeLine_eq]; omega, fun p hp => q p _ (same_new hp) (by unfold SL; rw [upd_same, List.map_append])⟩
theorem SL.same {H H' : Hp} {p : Addr} {ts : List Str} (h : SL H p ts) (s : Same H H') : SL H' p ts := s _ _ h
def Parts (H : Hp) (vs : List V) (tss : List (List Str)) : Prop := All2 (fun v ts => ∃ a, v = .ref a ∧ SL H a ts) vs tss
theorem All2.imp {α β : Type} {R S : α → β → Prop} (h : ∀ a b, R a b → S a b) : ∀ {as : List α} {bs : List β}, All2 R as bs → All2 S as bs
  | [], [], _ => trivial
  | [], _ :: _, z => z.elim
  | _ :: _, [], z => z.elim
  | _ :: _, _ :: _, z => ⟨h _ _ z.1, All2.imp h z.2⟩
theorem All2.len {α β : Type} {R : α → β → Prop} : ∀ {as : List α} {bs : List β}, All2 R as bs → as.length = bs.length
  | [], [], _ => rfl
  | [], _ :: _, z => z.elim
  | _ :: _, [], z => z.elim
  | _ :: _, _ :: _, z => congrArg Nat.succ (All2.len z.2)
theorem All2.at {α β : Type} {R : α → β → Prop} : ∀ {as : List α} {bs : List β} {i : Nat} {a : α}, All2 R as bs → as[i]? = some a → ∃ b, bs[i]? = some b ∧ R a b
  | [], [], _, _, _, h => by simp at h
  | [], _ :: _, _, _, z, _ => z.elim
  | _ :: _, [], _, _, z, _ => z.elim
  | a :: _, b :: _, 0, _, z, h => by
    cases h
    exact ⟨b, rfl, z.1⟩
  | _ :: as, _ :: bs, i + 1, _, z, h => All2.at z.2 (i := i) h
theorem All2.snoc {α β : Type} {R : α → β → Prop} {a : α} {b : β} (h : R a b) : ∀ {as : List α} {bs : List β}, All2 R as bs → All2 R (as ++ [a]) (bs ++ [b])
  | [], [], _ => ⟨h, trivial⟩
  | [], _ :: _, z => z.elim
  | _ :: _, [], z => z.elim
  | _ :: _, _ :: _, z => ⟨z.1, All2.snoc h z.2⟩
theorem Parts.same {H H' : Hp} {vs : List V} {tss : List (List Str)} (h : Parts H vs tss) (s : Same H H') : Parts H' vs tss := All2.imp (fun _ _ ⟨a, e, k⟩ => ⟨a, e, k.same s⟩) h
theorem lstF_le : ∀ (r : List (List Str)) (acc : List Str), acc.length ≤ (lstF acc r).length
  | [], _ => Nat.le_refl _
  | t :: r, acc => by
    refine Nat.le_trans ?_ (lstF_le r (if acc = [] then t else acc ++ ("," : Str) :: t))
    by_cases h : acc = []
    · rw [h]
      exact Nat.zero_le _
    · rw [if_neg h, List.length_append]
      omega
theorem log_ok {i : Int} (h : okI i) : i.natAbs.log2 < 1920 := by
  have h' : i.natAbs ≤ 2000 := h
  have : i.natAbs.log2 ≤ i.natAbs := Nat.log2_le_self _
  by_cases z : i.natAbs < 1920
  · omega
  · have h2 : i.natAbs.log2 < 11 := (Nat.log2_lt (by omega)).mpr (by omega)
    omega
def rInt : V → Hp → VK → Prop := fun x H Q => ∃ i : Int, x = .int i ∧ okI i ∧ ∀ (p : Addr) (H' : Hp), Same H H' → SL H' p (intT i) → Q (.ref p) H'
def rListed : V → Hp → VK → Prop := fun x H Q => ∃ (p : Addr) (vs : List V) (tss : List (List Str)), x = .ref p ∧ H p = some (.lst vs) ∧ Parts H vs tss ∧ (lstF [] tss).length ≤ 200000 ∧ ∀ (p : Addr) (H' : Hp), Same H H' → SL H' p (lstF [] tss) → Q (.ref p) H'
def rArgs : V → Hp → VK → Prop := fun x H Q => ∃ (p : Addr) (vs : List V) (tss : List (List Str)), x = .ref p ∧ H p = some (.lst vs) ∧ Parts H vs tss ∧ (lstF [] tss).length ≤ 200000 ∧ ∀ (p : Addr) (H' : Hp), Same H H' → SL H' p ((["("] : List Str) ++ lstF [] tss ++ ([")"] : List Str)) → Q (.ref p) H'
def rVal : V → Hp → VK → Prop := fun x H Q => ∃ (d : PyData) (ts : List Str), Td H d x ∧ VT d ts ∧ ∀ (p : Addr) (H' : Hp), Same H H' → SL H' p ts → Q (.ref p) H'
def rLay : V → Hp → VK → Prop := fun x H Q => ∃ (d : PyData) (ts : List Str), Td H d x ∧ LT d ts ∧ ∀ (p : Addr) (H' : Hp), Same H H' → SL H' p ts → Q (.ref p) H'
theorem st_ne {a b : Str} (h : ¬ a = b) : ¬ decide (V.str a = V.str b) = true := fun z => h (V.str.inj (of_decide_eq_true z))
section
variable {P : Program} {w : World} {K : PySem.W.Frag} {mg : Str → Option Value} {base : Heap}
theorem ok_int_tokens (T : Tx K mg w) : FnOk P w K mg base CX0 1 T.f_int_tokens T.fd_int_tokens ["number"] (sp1 rInt) := by
  refine okR1 T.F_int_tokens sc_int_tokens rfl fun cdv A outer s H Q EE x hr h => ?_
  obtain ⟨i, rfl, hi, q⟩ := h
  refine ⟨_, pss_one (ps_ret (pe_ifExp (pt_cmpR op_lt (pv 0) pe_int (nomark _)) (pe_lst (pa_cons pe_str (pa_cons (pe_callTy call_str_int (by rfl) T.z_str (by decide +kernel) (pa_cons (pe_un un_neg (pv 0)) pa_nil)) pa_nil))) (pe_lst (pa_cons (pe_callTy call_str_int (by rfl) T.z_str (by decide +kernel) (pa_cons (pv 0) pa_nil)) pa_nil)))), ?_⟩
  unfold intT at q
  refine ⟨_, rfl, _, _, rfl, rfl, _, rfl, ite2 (fun h => ?_) (fun h => ?_)⟩
  · have h' : i < 0 := of_decide_eq_true h
    rw [if_pos h'] at q
    exact ⟨_, rfl, _, rfl, _, rfl, log_ok (by show (-i).natAbs ≤ 2000; rw [Int.natAbs_neg]; exact hi), sl 2, fun p hp => q p _ (same_new hp) upd_same⟩
  · have h' : ¬ i < 0 := fun z => h (decide_eq_true z)
    rw [if_neg h'] at q
    exact ⟨_, rfl, _, rfl, log_ok hi, sl 1, fun p hp => q p _ (same_new hp) upd_same⟩
theorem ok_listed (T : Tx K mg w) : FnOk P w K mg base CX0 1 T.f_listed T.fd_listed ["parts"] (sp1 rListed) := by
  refine okR1 T.F_listed sc_listed rfl fun cdv A outer s H Q EE x hr h => ?_
  obtain ⟨p, vs, tss, rfl, hp, hps, len, q⟩ := h
  refine ⟨_, pss_cons (ps_set (i := 1) sc_listed.nd rfl (Or.inl rfl) (pe_lst pa_nil))
      (pss_cons (ps_for PassesOwn.never rfl (pi_list (pv 0)) (pg_name (i := 2) sc_listed.nd rfl (Or.inl rfl))
      (pss_cons (ps_if (pt_truth (pv 1) (by intro _; rfl)) (pss_one (ps_expr (pe_bm PySem.F.plainAttrs_list PySem.F.slot_list_append PySem.F.type_list_append mt_append (pv 1) (pa_cons pe_str pa_nil)))) pss_nil)
      (pss_one (ps_expr (pe_bm PySem.F.plainAttrs_list PySem.F.slot_list_extend PySem.F.type_list_extend mt_extend (pv 1) (pa_cons (pv 2) pa_nil))))))
      (pss_one (ps_ret (pv 1)))), ?_⟩
  have lv := All2.len hps
  refine ⟨sl 0, fun t ht => ?_⟩
  refine ⟨_, rfl, p, rfl, ⟨_, SqL.of (same_new ht _ _ hp)⟩, for_list (K := K) (a := p) (xs := vs) (fun i σ H' => ∃ (acc : List Str) (v2 : Option V), σ = [some (.ref p), some (.ref t), v2] ∧ Same H H' ∧ SL H' t acc ∧ lstF acc (tss.drop i) = lstF [] tss)
    ⟨[], none, rfl, same_new ht, upd_same, rfl⟩ ?_ ?_ ?_⟩
  · rintro i σ H' _ ⟨acc, v2, rfl, sm, _⟩
    exact SqL.of (sm _ _ hp)
  · rintro i v σ H' hi ⟨acc, v2, rfl, sm, ha, el⟩
    obtain ⟨u, hu, a, rfl, hau⟩ := All2.at (hps.same sm) hi
    have hil : i < tss.length := (List.getElem?_eq_some_iff.mp hu).1
    have eu : tss[i] = u := (List.getElem?_eq_some_iff.mp hu).2
    rw [List.drop_eq_getElem_cons hil, eu] at el
    have nt : ∀ {b : Addr} {o : HO}, H b = some o → b ≠ t := fun e => ne_of_none e ht
    obtain ⟨_, _, _, _, ha0⟩ := All2.at hps hi
    have at_ : a ≠ t := by
      rename_i e0
      cases e0
      exact nt ha0
    have l1 := lstF_le (tss.drop (i + 1)) (if acc = [] then u else acc ++ ("," : Str) :: u)
    have l0 : (lstF (if acc = [] then u else acc ++ ("," : Str) :: u) (tss.drop (i + 1))).length ≤ 200000 := by
      have e2 : lstF acc (u :: tss.drop (i + 1)) = lstF (if acc = [] then u else acc ++ ("," : Str) :: u) (tss.drop (i + 1)) := rfl
      rw [← e2, el]
      exact len
    refine ⟨_, rfl, _, .inl ⟨acc.map V.str, SqL.of ha, rfl⟩, ?_⟩
    cases acc with
    | nil =>
      refine iteF ⟨_, rfl, .inl ⟨rfl, _, SqL.of ha⟩, _, rfl, t, a, _, _, rfl, rfl, ha, hau, ?_, ?_⟩
      · rw [if_pos rfl] at l0 l1
        rw [List.length_map, List.length_map, sizeLine_eq, List.length_nil]
        omega
      · exact ⟨u, _, rfl, fun b o hb => upd_else (sm _ _ hb) (nt hb), upd_same, el⟩
    | cons z zs =>
      refine iteT ⟨_, rfl, .inl ⟨rfl, _, SqL.of ha⟩, t, _, _, rfl, rfl, ha, ?_, ?_⟩
      · rw [if_neg (List.cons_ne_nil z zs)] at l0 l1
        rw [List.length_append, List.length_cons, List.length_cons] at l1
        rw [List.length_map, sizeLine_eq, List.length_cons]
        omega
      have sm2 : Same H (upd H' t (.lst ((z :: zs).map V.str ++ [.str ","]))) := fun b o hb => upd_else (sm _ _ hb) (nt hb)
      have h2 : SL (upd H' t (.lst ((z :: zs).map V.str ++ [.str ","]))) t ((z :: zs) ++ ([","] : List Str)) := by
        unfold SL
        rw [upd_same, List.map_append]
        rfl
      have hau2 : SL (upd H' t (.lst ((z :: zs).map V.str ++ [.str ","]))) a u := upd_else hau at_
      generalize upd H' t (.lst ((z :: zs).map V.str ++ [.str ","])) = H2 at sm2 h2 hau2
      refine ⟨_, rfl, .inl ⟨rfl, _, SqL.of h2⟩, _, rfl, t, a, _, _, rfl, rfl, h2, hau2, ?_, ?_⟩
      · rw [if_neg (List.cons_ne_nil z zs)] at l0 l1
        rw [List.length_append, List.length_cons, List.length_cons] at l1
        rw [List.length_map, List.length_map, List.length_append, sizeLine_eq, List.length_cons, List.length_cons, List.length_nil]
        omega
      · refine ⟨(z :: zs) ++ ("," : Str) :: u, _, rfl, fun b o hb => upd_else (sm2 _ _ hb) (nt hb), ?_, ?_⟩
        · unfold SL
          rw [upd_same, ← List.map_append, List.append_assoc]
          rfl
        · have e2 : lstF (z :: zs) (u :: tss.drop (i + 1)) = lstF (if (z :: zs) = [] then u else (z :: zs) ++ ("," : Str) :: u) (tss.drop (i + 1)) := rfl
          rw [e2, if_neg (by simp)] at el
          exact el
  · rintro σ H' ⟨acc, v2, rfl, sm, ha, el⟩
    rw [lv, List.drop_length] at el
    have el' : acc = lstF [] tss := el
    rw [← el'] at q
    exact ⟨_, rfl, q t H' sm ha⟩
theorem ok_arguments (T : Tx K mg w) : FnOk P w K mg base CX0 2 T.f_arguments T.fd_arguments ["parts"] (sp1 rArgs) := by
  refine okR1 T.F_arguments sc_arguments rfl fun cdv A outer s H Q EE x hr h => ?_
  obtain ⟨p, vs, tss, rfl, hp, hps, len, q⟩ := h
  refine ⟨_, pss_one (ps_ret (pe_op op_cat (pe_op op_cat (pe_lst (pa_cons pe_str pa_nil)) (pe_call (ok_listed T) (hr.mono (by decide)) rfl T.m_listed T.F_listed.kp T.b_listed .nil pass0 (pa_cons (pv 0) pa_nil))) (pe_lst (pa_cons pe_str pa_nil)))), ?_⟩
  refine ⟨sl 1, fun l hl => ?_⟩
  have s0 := same_new (o := .lst [V.str "("]) hl
  have h0 : SL (upd H l (.lst [V.str "("])) l (["("] : List Str) := upd_same
  refine ⟨_, rfl, _, rfl, p, vs, tss, rfl, s0 _ _ hp, hps.same s0, len, fun p1 H1 s1 h1 => ?_⟩
  refine catS (h0.same s1) h1 (by simp; omega) fun p2 H2 s2 h2 => ?_
  refine ⟨sl 1, fun l3 hl3 => ?_⟩
  have s3 := same_new (o := .lst [V.str ")"]) hl3
  have h3 : SL (upd H2 l3 (.lst [V.str ")"])) l3 ([")"] : List Str) := upd_same
  exact catS (h2.same s3) h3 (by simp; omega) fun p4 H4 s4 h4 => q p4 H4 ((((s0.trans s1).trans s2).trans s3).trans s4) h4
theorem ok_value_tokens (T : Tx K mg w) : FnOk P w K mg base CX0 1 T.f_value_tokens T.fd_value_tokens ["value"] (sp1 rVal) := by
  refine okR1 T.F_value_tokens sc_value_tokens rfl fun cdv A outer s H Q EE x hr h => ?_
  obtain ⟨d, ts, hx, hv, q⟩ := h
  refine ⟨_, pss_cons (ps_if (pt_cmpR op_eq (pe_ix ix_tup (pv 0) pe_int (fun _ _ => rfl)) pe_str (nomark _)) (pss_one (ps_ret (pe_lst (pa_cons (pe_ix ix_tup (pv 0) pe_int (fun _ _ => rfl)) (pa_cons pe_str (pa_cons (pe_ix ix_tup (pv 0) pe_int (fun _ _ => rfl)) pa_nil)))))) pss_nil)
      (pss_one (ps_ret (pe_lst (pa_cons (pe_ifExp (pt_cmpR op_eq (pe_ix ix_tup (pv 0) pe_int (fun _ _ => rfl)) pe_int (nomark _)) pe_str pe_str) pa_nil)))), ?_⟩
  rcases hv with ⟨b0, hb0, rfl, rfl⟩ | ⟨s1, s2, o1, o2, rfl, rfl⟩
  · obtain ⟨b, xs, rfl, hb, _, _, rfl, rfl, _, _, rfl, rfl, rfl⟩ := id hx
    refine ⟨_, rfl, b, _, _, _, rfl, rfl, SqT.of hb, at_n 0 rfl, rfl, _, rfl, iteF ?_⟩
    refine ⟨_, rfl, b, _, _, _, rfl, rfl, SqT.of hb, at_n 1 rfl, rfl, _, rfl, ?_⟩
    rcases hb0 with rfl | rfl
    · exact iteF ⟨sl 1, fun p hp => q p _ (same_new hp) upd_same⟩
    · exact iteT ⟨sl 1, fun p hp => q p _ (same_new hp) upd_same⟩
  · obtain ⟨b, xs, rfl, hb, _, _, rfl, rfl, _, _, rfl, rfl, _, _, rfl, rfl, rfl⟩ := id hx
    refine ⟨_, rfl, b, _, _, _, rfl, rfl, SqT.of hb, at_n 0 rfl, rfl, _, rfl, iteT ?_⟩
    exact ⟨_, rfl, b, _, _, _, rfl, rfl, SqT.of hb, at_n 1 rfl, _, rfl, b, _, _, _, rfl, rfl, SqT.of hb, at_n 2 rfl, sl 3, fun p hp => q p _ (same_new hp) upd_same⟩
theorem ok_layer_tokens (T : Tx K mg w) : FnOk P w K mg base CX0 2 T.f_layer_tokens T.fd_layer_tokens ["layer"] (sp1 rLay) := by
  refine okR1 T.F_layer_tokens sc_layer_tokens rfl fun cdv A outer s H Q EE x hr h => ?_
  obtain ⟨d, ts, hx, hv, q⟩ := h
  refine ⟨_, pss_cons (ps_if (pt_cmpR op_eq (pe_ix ix_tup (pv 0) pe_int (fun _ _ => rfl)) pe_str (nomark _)) (pss_one (ps_ret (pe_lst (pa_cons pe_str (pa_cons (pe_callTy call_str_int (by rfl) T.z_str (by decide +kernel) (pa_cons (pe_ix ix_tup (pv 0) pe_int (fun _ _ => rfl)) pa_nil)) (pa_cons pe_str (pa_cons (pe_callTy call_str_int (by rfl) T.z_str (by decide +kernel) (pa_cons (pe_ix ix_tup (pv 0) pe_int (fun _ _ => rfl)) pa_nil)) pa_nil))))))) pss_nil)
      (pss_one (ps_ret (pe_op op_cat (pe_lst (pa_cons (pe_ix ix_tup (pv 0) pe_int (fun _ _ => rfl)) (pa_cons pe_str pa_nil))) (pe_call (ok_value_tokens T) (hr.mono (by decide)) rfl T.m_value_tokens T.F_value_tokens.kp T.b_value_tokens .nil pass0 (pa_cons (pe_ix ix_tup (pv 0) pe_int (fun _ _ => rfl)) pa_nil))))), ?_⟩
  rcases hv with ⟨n, k, on, ok, n0, k0, rfl, rfl⟩ | ⟨s1, v1, t1, o1, hv1, rfl, rfl⟩
  · obtain ⟨b, xs, rfl, hb, _, _, rfl, rfl, _, _, rfl, rfl, _, _, rfl, rfl, rfl⟩ := id hx
    refine ⟨_, rfl, b, _, _, _, rfl, rfl, SqT.of hb, at_n 0 rfl, rfl, _, rfl, iteT ?_⟩
    exact ⟨_, rfl, b, _, _, _, rfl, rfl, SqT.of hb, at_n 1 rfl, _, rfl, log_ok on, _, rfl, b, _, _, _, rfl, rfl, SqT.of hb, at_n 2 rfl, _, rfl, log_ok ok, sl 4, fun p hp => q p _ (same_new hp) upd_same⟩
  · obtain ⟨b, xs, rfl, hb, _, _, rfl, rfl, _, _, rfl, rfl, vv, _, rfl, hvv, rfl⟩ := id hx
    refine ⟨_, rfl, b, _, _, _, rfl, rfl, SqT.of hb, at_n 0 rfl, rfl, _, rfl, iteF ?_⟩
    refine ⟨_, rfl, b, _, _, _, rfl, rfl, SqT.of hb, at_n 1 rfl, sl 2, fun l hl => ?_⟩
    have s0 := same_new (o := .lst [V.str s1, V.str "is"]) hl
    have h0 : SL (upd H l (.lst [V.str s1, V.str "is"])) l ([s1, "is"] : List Str) := upd_same
    refine ⟨_, rfl, b, _, _, _, rfl, rfl, SqT.of (s0 _ _ hb), at_n 2 rfl, _, rfl, v1, t1, Td.mono (TS.of s0) _ _ hvv, hv1, fun p1 H1 s2 h1 => ?_⟩
    have lt : t1.length ≤ 3 := by
      rcases hv1 with ⟨_, _, _, rfl⟩ | ⟨_, _, _, _, _, rfl⟩ <;> simp
    exact catS (h0.same s2) h1 (by simp; omega) fun p4 H4 s4 h4 => q p4 H4 ((s0.trans s2).trans s4) h4
end

/-- a list made of parts, from a tuple -/
theorem parts_comp {K : PySem.W.Frag} {a : Addr} {xs : List V} {g : TG} {te : TE} {vs : List Nat} {σ : L2.St} {H1 : Hp} {D : Addr} {Qd : Hp → Prop} {tss : List (List Str)} (ha : H1 a = some (.tup xs)) (hD : H1 D = none) (hl : xs.length = tss.length) (hs : xs.length ≤ 1000) (ne : ∀ t ∈ tss, t ≠ [])
    (step : ∀ (i : Nat) (x : V) (ts : List Str) (H : Hp) (C : VK) (C2 : Hp → Prop), xs[i]? = some x → tss[i]? = some ts → Same H1 H → (∀ p H4, Same H H4 → SL H4 p ts → C (.ref p) H4) → g x (wipe σ vs) H fun σ2 H2 => wipe σ2 vs = wipe σ vs ∧ tYes σ2 H2 fun b H3 => if b = true then te σ2 H3 C else C2 H3)
    (hd : ∀ H acc, Same H1 H → H D = some (.lst acc) → Parts H acc tss → Qd H) :
    ∃ W : Nat → Nat → Hp → Prop, (∃ m, W 0 m (upd H1 D (.lst []))) ∧ ∀ i m H, W i m H →
      ((Itt K a).stop i H ∧ Qd H) ∨ ((Itt K a).go i H ∧ ∃ Nx : Hp → Prop, (∀ H', Nx H' → ∃ m', m' < m ∧ W (i + 1) m' H') ∧ ∀ x H', (Itt K a).yld i H x H' → g x (wipe σ vs) H' fun σ2 H2 => wipe σ2 vs = wipe σ vs ∧ tYes σ2 H2 fun b H3 =>
        if b = true then te σ2 H3 fun y H4 => ∃ acc, H4 D = some (.lst acc) ∧ acc.length < sizeLine ∧ Nx (upd H4 D (.lst (acc ++ [y]))) else Nx H3) := by
  refine lc_tup (K := K) (a := a) (xs := xs) (fun i H' => Same H1 H' ∧ ∃ acc, H' D = some (.lst acc) ∧ acc.length = i ∧ All2 (fun v t => ∃ b, v = .ref b ∧ b ≠ D ∧ SL H' b t) acc (tss.take i)) ⟨same_new hD, [], upd_same, rfl, by simp [All2]⟩ ?_ ?_ ?_
  · rintro i H' _ ⟨s2, _⟩
    exact SqT.of (s2 _ _ ha)
  · rintro i v H' hi ⟨s2, acc, hacc, la, al⟩
    have hil : i < tss.length := by
      have := (List.getElem?_eq_some_iff.mp hi).1
      omega
    refine step i v (tss[i]) H' _ _ hi (List.getElem?_eq_getElem hil) s2 fun p H4 s4 h4 => ?_
    have pD : p ≠ D := by
      rintro rfl
      have e := (s4 _ _ hacc).symm.trans h4
      have e2 : acc = (tss[i]).map V.str := by injection (Option.some.inj e)
      have n1 := ne _ (List.getElem_mem hil)
      cases acc with
      | nil => exact n1 (List.map_eq_nil_iff.mp e2.symm)
      | cons z zs =>
        cases hts : tss.take i with
        | nil => rw [hts] at al; exact al
        | cons t r =>
          rw [hts] at al
          obtain ⟨⟨b, rfl, _⟩, _⟩ := al
          cases htt : tss[i] with
          | nil => exact n1 htt
          | cons w ws =>
            rw [htt, List.map_cons] at e2
            injection e2 with e3
            cases e3
    have hai : acc.length ≤ 1000 := by
      have := (List.getElem?_eq_some_iff.mp hi).1
      omega
    refine ⟨acc, s4 _ _ hacc, small1000 hai, fun b u e => upd_else (s4 _ _ (s2 _ _ e)) (ne_of_none e hD), _, upd_same, by rw [List.length_append, la]; rfl, ?_⟩
    rw [List.take_succ, List.getElem?_eq_getElem hil]
    refine All2.snoc ⟨p, rfl, pD, upd_else h4 pD⟩ (All2.imp ?_ al)
    rintro z t ⟨b, rfl, nb, hb⟩
    exact ⟨b, rfl, nb, upd_else (s4 _ _ hb) nb⟩
  · rintro H' ⟨s2, acc, hacc, la, al⟩
    rw [hl, List.take_length] at al
    exact hd H' acc s2 hacc (All2.imp (fun z t ⟨b, e, _, hb⟩ => ⟨b, e, hb⟩) al)
theorem KT.cases {n : Nat} {d : PyData} {ts : List Str} (h : KT n d ts) : KB d ts ∨ ∃ (m : Nat) (k : PyData) (i : Int) (t : List Str), n = m + 1 ∧ KT m k t ∧ okI i ∧ 0 ≤ i ∧ d = .tuple [.str "row", k, .int i] ∧ ts = (["row", sI i, "of"] : List Str) ++ t := by
  cases n with
  | zero => exact .inl h
  | succ m =>
    rcases h with h | ⟨k, i, t, h1, h2, h3, h4, h5⟩
    · exact .inl h
    · exact .inr ⟨m, k, i, t, rfl, h1, h2, h3, h4, h5⟩
theorem com_ones : ∀ (ns : List Str), (comL (ns.map fun s => [s])).length ≤ 2 * ns.length
  | [] => Nat.le_refl _
  | s :: r => by
    show (([s] : List Str) ++ ((r.map fun s => [s]).map fun u => ("," : Str) :: u).flatten).length ≤ _
    have : ∀ r : List Str, (((r.map fun s => [s]).map fun u => ("," : Str) :: u).flatten).length = 2 * r.length := by
      intro r
      induction r with
      | nil => rfl
      | cons t r ih =>
        rw [List.map_cons, List.map_cons, List.flatten_cons, List.length_append, ih]
        simp
        omega
    rw [List.length_append, this]
    simp
    omega
theorem intT_len (i : Int) : (intT i).length ≤ 2 := by
  unfold intT
  by_cases h : i < 0
  · rw [if_pos h]; exact Nat.le_refl _
  · rw [if_neg h]; exact Nat.le_succ _
theorem KB.len {d : PyData} {ts : List Str} (h : KB d ts) : ts.length ≤ 60 := by
  rcases h with ⟨_, rfl⟩ | ⟨_, _, _, rfl⟩ | ⟨ns, _, _, h, _, rfl⟩ | ⟨lo, hi, per, _, _, _, _, _, _, _, rfl⟩
  · exact Nat.le_of_ble_eq_true rfl
  · exact Nat.le_of_ble_eq_true rfl
  · have := com_ones ns
    simp only [List.length_append, List.length_cons, List.length_nil]
    omega
  · have h1 := intT_len lo
    have h2 := intT_len hi
    have h3 : (if per = 1 then ([] : List Str) else (["per", sI per] : List Str)).length ≤ 2 := by
      by_cases h : per = 1
      · rw [if_pos h]; exact Nat.zero_le _
      · rw [if_neg h]; exact Nat.le_refl _
    simp only [List.length_append, List.length_cons, List.length_nil]
    omega
theorem KT.len : ∀ {n : Nat} {d : PyData} {ts : List Str}, KT n d ts → ts.length ≤ 60 + 3 * n
  | 0, _, _, h => KB.len h
  | n + 1, _, _, h => by
    rcases h with h | ⟨_, _, t, h, _, _, _, rfl⟩
    · have := KB.len h
      omega
    · have := KT.len h
      rw [List.length_append]
      simp only [List.length_cons, List.length_nil]
      omega
def rKind : V → Hp → VK → Prop := fun x H Q => ∃ (d : PyData) (n : Nat) (ts : List Str), Td H d x ∧ KT n d ts ∧ n ≤ 2 ∧ ∀ (p : Addr) (H' : Hp), Same H H' → SL H' p ts → Q (.ref p) H'
theorem TdAll.strs {H : Hp} : ∀ {ns : List Str} {ys : List V}, TdAll H (ns.map PyData.str) ys → ys = ns.map V.str
  | [], _, h => h
  | s :: r, _, ⟨v, u, e, h1, h2⟩ => by
    subst e
    rw [TdAll.strs h2]
    exact congrArg (· :: r.map V.str) h1
section
variable {P : Program} {w : World} {K : PySem.W.Frag} {mg : Str → Option Value} {base : Heap}
theorem ok_kind_tokens (T : Tx K mg w) : FnOk P w K mg base CX0 2 T.f_kind_tokens T.fd_kind_tokens ["kind"] (sp1 rKind) := by
  refine okR1 T.F_kind_tokens sc_kind_tokens rfl fun cdv A outer s H Q EE x hr h => ?_
  obtain ⟨d, n, ts, hx, hk, hn, q⟩ := h
  refine ⟨_, pss_cons (ps_set (i := 1) sc_kind_tokens.nd rfl (Or.inl rfl) (pe_lst pa_nil))
      (pss_cons (ps_while PassesOwn.never (pt_cmpR op_eq (pe_ix ix_tup (pv 0) pe_int (fun _ _ => rfl)) pe_str (nomark _)) (pss_cons (ps_expr (pe_bm PySem.F.plainAttrs_list PySem.F.slot_list_extend PySem.F.type_list_extend mt_extend (pv 1) (pa_cons (pe_lst (pa_cons pe_str (pa_cons (pe_callTy call_str_int (by rfl) T.z_str (by decide +kernel) (pa_cons (pe_ix ix_tup (pv 0) pe_int (fun _ _ => rfl)) pa_nil)) (pa_cons pe_str pa_nil)))) pa_nil)))
      (pss_one (ps_set (i := 0) sc_kind_tokens.nd rfl (Or.inl rfl) (pe_ix ix_tup (pv 0) pe_int (fun _ _ => rfl))))))
      (pss_cons (ps_if (pt_cmpR op_eq (pe_ix ix_tup (pv 0) pe_int (fun _ _ => rfl)) pe_str (nomark _)) (pss_one (ps_ret (pe_op op_cat (pv 1) (pe_lst (pa_cons pe_str pa_nil))))) pss_nil)
      (pss_cons (ps_if (pt_cmpR op_eq (pe_ix ix_tup (pv 0) pe_int (fun _ _ => rfl)) pe_str (nomark _)) (pss_one (ps_ret (pe_op op_cat (pv 1) (pe_lst (pa_cons (pe_ix ix_tup (pv 0) pe_int (fun _ _ => rfl)) pa_nil))))) pss_nil)
      (pss_cons (ps_if (pt_cmpR op_eq (pe_ix ix_tup (pv 0) pe_int (fun _ _ => rfl)) pe_str (nomark _)) (pss_one (ps_ret (pe_op op_cat (pe_op op_cat (pe_op op_cat (pv 1) (pe_lst (pa_cons pe_str (pa_cons pe_str pa_nil)))) (pe_call (ok_listed T) (hr.mono (by decide)) rfl T.m_listed T.F_listed.kp T.b_listed .nil pass0 (pa_cons (pe_lc (own := [("name", 8)]) (g := gName 8) (tt := tYes) rfl sc_kind_tokens.nd (pi_tup (pe_ix ix_tup (pv 0) pe_int (fun _ _ => rfl))) (blkOk_by (N := ["kind", "tokens", "_", "low", "high", "per", "how", "slow", "name"]) (sc := defScope s_kind_tokens) (by decide +kernel)) (fun _ _ _ _ _ => pg_name (i := 8) sc_kind_tokens.nd rfl (Or.inl rfl)) (fun _ _ _ _ _ => pts_nil) (fun _ _ _ _ _ => (pe_lst (pa_cons (pv 8) pa_nil)))) pa_nil))) (pe_lst (pa_cons pe_str pa_nil))))) pss_nil)
      (pss_cons (ps_asg (pv 0) (pg_tup rfl (pgs_cons (pg_name (i := 2) sc_kind_tokens.nd rfl (Or.inl rfl)) (pgs_cons (pg_name (i := 3) sc_kind_tokens.nd rfl (Or.inl rfl)) (pgs_cons (pg_name (i := 4) sc_kind_tokens.nd rfl (Or.inl rfl)) (pgs_cons (pg_name (i := 5) sc_kind_tokens.nd rfl (Or.inl rfl)) (pgs_cons (pg_name (i := 6) sc_kind_tokens.nd rfl (Or.inl rfl)) pgs_nil)))))))
      (pss_cons (ps_set (i := 7) sc_kind_tokens.nd rfl (Or.inl rfl) (pe_ifExp (pt_cmpR op_eq (pv 5) pe_int (nomark _)) (pe_lst pa_nil) (pe_lst (pa_cons pe_str (pa_cons (pe_callTy call_str_int (by rfl) T.z_str (by decide +kernel) (pa_cons (pv 5) pa_nil)) pa_nil)))))
      (pss_one (ps_ret (pe_op op_cat (pe_op op_cat (pe_op op_cat (pe_op op_cat (pe_op op_cat (pe_op op_cat (pv 1) (pe_lst (pa_cons pe_str pa_nil))) (pe_call (ok_int_tokens T) (hr.mono (by decide)) rfl T.m_int_tokens T.F_int_tokens.kp T.b_int_tokens .nil pass0 (pa_cons (pv 3) pa_nil))) (pe_lst (pa_cons pe_str pa_nil))) (pe_call (ok_int_tokens T) (hr.mono (by decide)) rfl T.m_int_tokens T.F_int_tokens.kp T.b_int_tokens .nil pass0 (pa_cons (pv 4) pa_nil))) (pv 7)) (pe_lst (pa_cons (pv 6) pa_nil))))))))))), ?_⟩
  have len := KT.len hk
  refine ⟨sl 0, fun t ht => ?_⟩
  refine ⟨fun m σ H' => ∃ v d acc us, σ = [some v, some (.ref t), none, none, none, none, none, none, none] ∧ Same H H' ∧ SL H' t acc ∧ Td H' d v ∧ KT m d us ∧ acc ++ us = ts, ⟨n, x, d, [], ts, rfl, same_new ht, upd_same, Td.mono (TS.new ht) _ _ hx, hk, rfl⟩, ?_⟩
  rintro m σ H' ⟨v, d, acc, us, rfl, sm, ha, hv, hk, e⟩
  have e' := congrArg List.length e
  rw [List.length_append] at e'
  rcases KT.cases hk with hb | ⟨m, k, i, u, rfl, hku, hi, h0, rfl, rfl⟩
  · rcases hb with ⟨rfl, rfl⟩ | ⟨nm, o1, rfl, rfl⟩ | ⟨ns, o1, o2, o3, rfl, rfl⟩ | ⟨lo, hi, per, how, ol, oh, op, p0, ow, rfl, rfl⟩
    · obtain ⟨b, xs, rfl, hb, _, _, rfl, rfl, rfl⟩ := id hv
      refine ⟨_, rfl, b, _, _, _, rfl, rfl, SqT.of hb, at_n 0 rfl, rfl, _, rfl, iteF ?_⟩
      refine ⟨_, rfl, b, _, _, _, rfl, rfl, SqT.of hb, at_n 0 rfl, rfl, _, rfl, iteT ?_⟩
      refine ⟨_, rfl, sl 1, fun l hl => ?_⟩
      have s1 := same_new (o := .lst [V.str "bool"]) hl
      exact catS (ha.same s1) (us := ["bool"]) upd_same (by rw [List.length_cons, List.length_nil]; omega) fun p2 H2 s2 h2 => q p2 H2 ((sm.trans s1).trans s2) (e ▸ h2)
    · obtain ⟨b, xs, rfl, hb, _, _, rfl, rfl, _, _, rfl, rfl, rfl⟩ := id hv
      refine ⟨_, rfl, b, _, _, _, rfl, rfl, SqT.of hb, at_n 0 rfl, rfl, _, rfl, iteF ?_⟩
      refine ⟨_, rfl, b, _, _, _, rfl, rfl, SqT.of hb, at_n 0 rfl, rfl, _, rfl, iteF ?_⟩
      refine ⟨_, rfl, b, _, _, _, rfl, rfl, SqT.of hb, at_n 0 rfl, rfl, _, rfl, iteT ?_⟩
      refine ⟨_, rfl, ⟨_, rfl, b, _, _, _, rfl, rfl, SqT.of hb, at_n 1 rfl, sl 1, fun l hl => ?_⟩⟩
      have s1 := same_new (o := .lst [V.str nm]) hl
      exact catS (ha.same s1) (us := [nm]) upd_same (by rw [List.length_cons, List.length_nil]; omega) fun p2 H2 s2 h2 => q p2 H2 ((sm.trans s1).trans s2) (e ▸ h2)
    · obtain ⟨b, xs, rfl, hb, _, _, rfl, rfl, _, _, rfl, ⟨c, ys, rfl, hc, hys⟩, rfl⟩ := id hv
      refine ⟨_, rfl, b, _, _, _, rfl, rfl, SqT.of hb, at_n 0 rfl, rfl, _, rfl, iteF ?_⟩
      refine ⟨_, rfl, b, _, _, _, rfl, rfl, SqT.of hb, at_n 0 rfl, rfl, _, rfl, iteF ?_⟩
      refine ⟨_, rfl, b, _, _, _, rfl, rfl, SqT.of hb, at_n 0 rfl, rfl, _, rfl, iteF ?_⟩
      refine ⟨_, rfl, b, _, _, _, rfl, rfl, SqT.of hb, at_n 0 rfl, rfl, _, rfl, iteT ?_⟩
      have lv := TdAll.len _ _ hys
      rw [List.length_map] at lv
      refine ⟨_, rfl, sl 2, fun l hl => ?_⟩
      have s1 := same_new (o := .lst [V.str "mode", V.str "("]) hl
      have hl1 : SL (upd H' l (.lst [V.str "mode", V.str "("])) l (["mode", "("] : List Str) := upd_same
      generalize upd H' l (.lst [V.str "mode", V.str "("]) = H1 at s1 hl1
      simp only [List.length_append, List.length_cons, List.length_nil] at e'
      have cne : ∀ t ∈ ns.map (fun s => [s]), t ≠ ([] : List Str) := fun t ht => by
        obtain ⟨s, _, rfl⟩ := List.mem_map.mp ht
        exact List.cons_ne_nil _ _
      have eqc := lstF_com cne
      refine catS (ha.same s1) hl1 (by rw [List.length_cons, List.length_cons, List.length_nil]; omega) fun p2 H2 s2 h2 => ?_
      refine ⟨_, rfl, b, _, _, _, rfl, rfl, SqT.of (s2 _ _ (s1 _ _ hb)), at_n 1 rfl, ?_⟩
      have hc2 := s2 _ _ (s1 _ _ hc)
      refine ⟨c, rfl, ⟨_, SqT.of hc2⟩, fun D hD => parts_comp hc2 hD (tss := ns.map fun s => [s]) (by rw [List.length_map]; exact lv) (by omega) cne ?_ ?_⟩
      · intro i v u H4 C C2 hi ht sm4 k
        rw [TdAll.strs hys, List.getElem?_map] at hi
        rw [List.getElem?_map] at ht
        cases hn : ns[i]? with
        | none => rw [hn] at hi; cases hi
        | some s =>
          rw [hn] at hi ht
          cases hi
          cases ht
          exact ⟨rfl, yes ⟨_, rfl, sl 1, fun p hp => k p _ (same_new hp) upd_same⟩⟩
      · intro H4 acc s4 h4 hps
        refine ⟨_, rfl, D, acc, _, rfl, h4, hps, by rw [eqc]; omega, fun p5 H5 s5 h5 => ?_⟩
        rw [eqc] at h5
        refine catS ((h2.same s4).same s5) h5 (by simp only [List.length_append, List.length_cons, List.length_nil]; omega) fun p6 H6 s6 h6 => ?_
        refine ⟨sl 1, fun l7 hl7 => ?_⟩
        have s7 := same_new (o := .lst [V.str ")"]) hl7
        refine catS (h6.same s7) (us := [")"]) upd_same (by simp only [List.length_append, List.length_cons, List.length_nil]; omega) fun p8 H8 s8 h8 => ?_
        refine q p8 H8 (((((((sm.trans s1).trans s2).trans s4).trans s5).trans s6).trans s7).trans s8) ?_
        rw [← e]
        simpa only [List.append_assoc] using h8
    · obtain ⟨b, xs, rfl, hb, _, _, rfl, rfl, _, _, rfl, rfl, _, _, rfl, rfl, _, _, rfl, rfl, _, _, rfl, rfl, rfl⟩ := id hv
      refine ⟨_, rfl, b, _, _, _, rfl, rfl, SqT.of hb, at_n 0 rfl, rfl, _, rfl, iteF ?_⟩
      refine ⟨_, rfl, b, _, _, _, rfl, rfl, SqT.of hb, at_n 0 rfl, rfl, _, rfl, iteF ?_⟩
      refine ⟨_, rfl, b, _, _, _, rfl, rfl, SqT.of hb, at_n 0 rfl, rfl, _, rfl, iteF ?_⟩
      refine ⟨_, rfl, b, _, _, _, rfl, rfl, SqT.of hb, at_n 0 rfl, rfl, _, rfl, iteF ?_⟩
      generalize hsw : (if per = 1 then ([] : List Str) else (["per", sI per] : List Str)) = sw at e e'
      refine ⟨_, rfl, b, _, rfl, SqT.of hb, rfl, _, _, rfl, _, _, rfl, _, _, rfl, _, _, rfl, _, _, rfl, rfl, ?_⟩
      refine ⟨_, rfl, rfl, _, rfl, ite2 (fun h => ⟨sl 0, fun p hp => ?_⟩) (fun h => ⟨_, rfl, _, rfl, log_ok op, sl 2, fun p hp => ?_⟩)⟩
      · have s1 := same_new (o := .lst []) hp
        have h1 : SL (upd H' p (.lst [])) p sw := by
          rw [← hsw, if_pos (V.int.inj (of_decide_eq_true h))]
          exact upd_same
        generalize upd H' p (.lst []) = H1 at s1 h1 ⊢
        refine ⟨_, rfl, sl 1, fun l2 hl2 => ?_⟩
        have s2 := same_new (o := .lst [V.str "num"]) hl2
        simp only [List.length_append, List.length_cons, List.length_nil] at e'
        refine catS ((ha.same s1).same s2) (us := ["num"]) upd_same (by simp only [List.length_append, List.length_cons, List.length_nil]; omega) fun p3 H3 s3 h3 => ?_
        refine ⟨_, rfl, _, rfl, lo, rfl, ol, fun p4 H4 s4 h4 => ?_⟩
        refine catS (h3.same s4) h4 (by simp only [List.length_append, List.length_cons, List.length_nil]; omega) fun p5 H5 s5 h5 => ?_
        refine ⟨sl 1, fun l6 hl6 => ?_⟩
        have s6 := same_new (o := .lst [V.str ".."]) hl6
        refine catS (h5.same s6) (us := [".."]) upd_same (by simp only [List.length_append, List.length_cons, List.length_nil]; omega) fun p7 H7 s7 h7 => ?_
        refine ⟨_, rfl, _, rfl, hi, rfl, oh, fun p8 H8 s8 h8 => ?_⟩
        refine catS (h7.same s8) h8 (by simp only [List.length_append, List.length_cons, List.length_nil]; omega) fun p9 H9 s9 h9 => ?_
        refine ⟨_, rfl, ?_⟩
        have h1z : SL H9 p sw := ((((((((h1.same s2).same s3).same s4).same s5).same s6).same s7).same s8).same s9)
        refine catS h9 h1z (by simp only [List.length_append, List.length_cons, List.length_nil]; omega) fun pa Ha sa ha_ => ?_
        refine ⟨_, rfl, sl 1, fun lb hlb => ?_⟩
        have sb := same_new (o := .lst [V.str how]) hlb
        refine catS (ha_.same sb) (us := [how]) upd_same (by simp only [List.length_append, List.length_cons, List.length_nil]; omega) fun pc Hc sc hc => ?_
        refine q pc Hc ((((((((((((sm.trans s1).trans s2).trans s3).trans s4).trans s5).trans s6).trans s7).trans s8).trans s9).trans sa).trans sb).trans sc) ?_
        rw [← e]
        simpa only [List.append_assoc] using hc
      · have s1 := same_new (o := .lst [V.str "per", V.str (sI per)]) hp
        have h1 : SL (upd H' p (.lst [V.str "per", V.str (sI per)])) p sw := by
          rw [← hsw, if_neg (fun z => h (decide_eq_true (congrArg V.int z)))]
          exact upd_same
        have h1' : SL (upd H' p (.lst [V.str "per", .str (toString per : String)])) p sw := h1
        have s1' : Same H' (upd H' p (.lst [V.str "per", .str (toString per : String)])) := s1
        clear h1 s1
        generalize upd H' p (.lst [V.str "per", .str (toString per : String)]) = H1 at s1' h1' ⊢
        have s1 := s1'
        have h1 := h1'
        refine ⟨_, rfl, sl 1, fun l2 hl2 => ?_⟩
        have s2 := same_new (o := .lst [V.str "num"]) hl2
        simp only [List.length_append, List.length_cons, List.length_nil] at e'
        refine catS ((ha.same s1).same s2) (us := ["num"]) upd_same (by simp only [List.length_append, List.length_cons, List.length_nil]; omega) fun p3 H3 s3 h3 => ?_
        refine ⟨_, rfl, _, rfl, lo, rfl, ol, fun p4 H4 s4 h4 => ?_⟩
        refine catS (h3.same s4) h4 (by simp only [List.length_append, List.length_cons, List.length_nil]; omega) fun p5 H5 s5 h5 => ?_
        refine ⟨sl 1, fun l6 hl6 => ?_⟩
        have s6 := same_new (o := .lst [V.str ".."]) hl6
        refine catS (h5.same s6) (us := [".."]) upd_same (by simp only [List.length_append, List.length_cons, List.length_nil]; omega) fun p7 H7 s7 h7 => ?_
        refine ⟨_, rfl, _, rfl, hi, rfl, oh, fun p8 H8 s8 h8 => ?_⟩
        refine catS (h7.same s8) h8 (by simp only [List.length_append, List.length_cons, List.length_nil]; omega) fun p9 H9 s9 h9 => ?_
        refine ⟨_, rfl, ?_⟩
        have h1z : SL H9 p sw := ((((((((h1.same s2).same s3).same s4).same s5).same s6).same s7).same s8).same s9)
        refine catS h9 h1z (by simp only [List.length_append, List.length_cons, List.length_nil]; omega) fun pa Ha sa ha_ => ?_
        refine ⟨_, rfl, sl 1, fun lb hlb => ?_⟩
        have sb := same_new (o := .lst [V.str how]) hlb
        refine catS (ha_.same sb) (us := [how]) upd_same (by simp only [List.length_append, List.length_cons, List.length_nil]; omega) fun pc Hc sc hc => ?_
        refine q pc Hc ((((((((((((sm.trans s1).trans s2).trans s3).trans s4).trans s5).trans s6).trans s7).trans s8).trans s9).trans sa).trans sb).trans sc) ?_
        rw [← e]
        simpa only [List.append_assoc] using hc
  · obtain ⟨b, xs, rfl, hb, _, _, rfl, rfl, kv, _, rfl, hkv, _, _, rfl, rfl, rfl⟩ := id hv
    refine ⟨_, rfl, b, _, _, _, rfl, rfl, SqT.of hb, at_n 0 rfl, rfl, _, rfl, iteT ⟨_, fun σ' H1 z => ⟨m, Nat.lt_succ_self _, z⟩, ?_⟩⟩
    refine ⟨_, rfl, .inl ⟨rfl, _, SqL.of ha⟩, _, rfl, b, _, _, _, rfl, rfl, SqT.of hb, at_n 2 rfl, _, rfl, log_ok hi, sl 3, fun l hl => ?_⟩
    have s1 := same_new (o := .lst [V.str "row", V.str (sI i), V.str "of"]) hl
    have h1 : SL (upd H' l (.lst [V.str "row", V.str (sI i), V.str "of"])) l (["row", sI i, "of"] : List Str) := upd_same
    refine ⟨t, l, _, _, rfl, rfl, ha.same s1, h1, by rw [List.length_map, sizeLine_eq]; simp only [List.length_append, List.length_cons, List.length_nil, List.length_map] at *; omega, ?_⟩
    have bt : b ≠ t := by
      rintro rfl
      unfold SL at ha
      rw [hb] at ha
      cases ha
    have ts2 : TS H' (upd (upd H' l (.lst [V.str "row", V.str (sI i), V.str "of"])) t (.lst (acc.map V.str ++ [V.str "row", V.str (sI i), V.str "of"]))) := (TS.of s1).trans (TS.wr (ha.same s1))
    have s2 : Same H (upd (upd H' l (.lst [V.str "row", V.str (sI i), V.str "of"])) t (.lst (acc.map V.str ++ [V.str "row", V.str (sI i), V.str "of"]))) := fun c o h => upd_else ((sm.trans s1) _ _ h) (ne_of_none h ht)
    have h2 : SL (upd (upd H' l (.lst [V.str "row", V.str (sI i), V.str "of"])) t (.lst (acc.map V.str ++ [V.str "row", V.str (sI i), V.str "of"]))) t (acc ++ (["row", sI i, "of"] : List Str)) := by
      unfold SL
      rw [upd_same, List.map_append]
      rfl
    refine ⟨_, rfl, b, _, _, _, rfl, rfl, SqT.of (ts2 _ _ hb), at_n 1 rfl, ?_⟩
    exact ⟨kv, k, _, u, rfl, s2, h2, Td.mono ts2 _ _ hkv, hku, by rw [List.append_assoc]; exact e⟩
end

theorem wr_no {b : Bool} {ts : List Str} (h : b = false) : wr b ts = ts := by
  rw [h]
  rfl
theorem com_mem : ∀ {tss : List (List Str)} {t : List Str}, t ∈ tss → t.length ≤ (comL tss).length
  | [], _, h => by cases h
  | u :: r, t, h => by
    show t.length ≤ (u ++ (r.map fun u => ("," : Str) :: u).flatten).length
    rw [List.length_append]
    rcases List.mem_cons.mp h with rfl | h
    · exact Nat.le_add_right _ _
    · have : ∀ r : List (List Str), t ∈ r → t.length ≤ ((r.map fun u => ("," : Str) :: u).flatten).length := by
        intro r
        induction r with
        | nil => intro h; cases h
        | cons v r ih =>
          intro h
          rw [List.map_cons, List.flatten_cons, List.length_append, List.length_cons]
          rcases List.mem_cons.mp h with rfl | h
          · omega
          · have := ih h
            omega
      have := this r h
      omega
theorem ET.lv : ∀ {n : Nat} {d : PyData} {ts : List Str} {l : Nat}, ET n d ts l → l ≤ 8
  | n + 1, _, _, _, h => by
    rcases h with ⟨i, _, _, _, rfl⟩ | ⟨_, _, _, _, rfl⟩ | ⟨_, rfl⟩ | ⟨g, _, _, _, _, _, _, h, _, _, _, rfl, _⟩ | ⟨_, _, _, _, _, _, _, rfl, _⟩ | ⟨_, _, _, _, _, rfl, _⟩
    · by_cases h : i < 0
      · rw [if_pos h]; omega
      · rw [if_neg h]; omega
    · omega
    · omega
    · have : ∀ g ∈ sgs, g.2.2 ≤ 8 := by decide +kernel
      exact this g h
    · omega
    · omega
def AO (R : PyData → List Str → Prop) (w : Str) (ds : List PyData) (tss : List (List Str)) : Prop :=
  (w = "as" ∧ ∃ d k t u, R d t ∧ KT 2 k u ∧ ds = [d, k] ∧ tss = [t, u]) ∨
  (w = "when" ∧ ∃ d y t u, R d t ∧ LT y u ∧ ds = [d, y] ∧ tss = [t, u]) ∨
  (w = "held" ∧ ∃ d e y t u v, R d t ∧ R e u ∧ LT y v ∧ ds = [d, e, y] ∧ tss = [t, u, v]) ∨
  (w = "merge" ∧ ∃ (s : Str) (as : List PyData) (us : List (List Str)), okN s ∧ as.length ≤ 5 ∧ All2 (fun a u => ∃ v e t x, VT v t ∧ R e x ∧ a = .tuple [v, e] ∧ u = t ++ ([":"] : List Str) ++ x) as us ∧ ds = [.str s, .tuple as] ∧ tss = [s] :: us) ∨
  (w = "here" ∧ ∃ s : Str, okN s ∧ ds = [.str s] ∧ tss = [[s]]) ∨
  (w = "else" ∧ ∃ (s : Str) (d : PyData) (t : List Str), okN s ∧ R d t ∧ ds = [.str s, d] ∧ tss = [[s], t]) ∨
  (w = "fresh" ∧ ∃ (s : Str) (m : Int) (d : PyData) (t : List Str), okN s ∧ okI m ∧ 0 ≤ m ∧ R d t ∧ ds = [.str s, .int m, d] ∧ tss = [[s], [sI m], t])
/-- what is written with the bottom's words -/
def BT (n : Nat) (d : PyData) (ts : List Str) : Prop :=
  (∃ i : Int, okI i ∧ d = .tuple [.str "int", .int i] ∧ ts = intT i) ∨
  (∃ s : Str, okN s ∧ d = .tuple [.str "name", .str s] ∧ ts = [s]) ∨ VT d ts ∨
  (∃ (w : Str) (ds : List PyData) (tss : List (List Str)), w ∈ nary ∧ ds.length ≤ 7 ∧ All2 (fun d t => ∃ l, ET n d t l) ds tss ∧ d = .tuple (.str w :: ds) ∧ ts = [w] ++ ((["("] : List Str) ++ comL tss ++ ([")"] : List Str))) ∨
  (∃ (w : Str) (ds : List PyData) (tss : List (List Str)), AO (fun d t => ∃ l, ET n d t l) w ds tss ∧ d = .tuple (.str w :: ds) ∧ ts = [w] ++ ((["("] : List Str) ++ comL tss ++ ([")"] : List Str)))
def rEx (n : Nat) : V → V → Hp → VK → Prop := fun x f H Q => ∃ (d : PyData) (ts : List Str) (l fl : Nat), f = .int (fl : Int) ∧ 1 ≤ fl ∧ fl ≤ 8 ∧ Td H d x ∧ ET n d ts l ∧ ts.length ≤ 100000 ∧ ∀ (p : Addr) (H' : Hp), Same H H' → SL H' p (wr (decide (l + 1 < fl)) ts) → Q (.ref p) H'
def rArm (n : Nat) : V → Hp → VK → Prop := fun x H Q => ∃ (v e : PyData) (t u : List Str) (l : Nat), Td H (.tuple [v, e]) x ∧ VT v t ∧ ET n e u l ∧ u.length ≤ 100000 ∧ ∀ (p : Addr) (H' : Hp), Same H H' → SL H' p (t ++ ([":"] : List Str) ++ u) → Q (.ref p) H'
def rFront (n : Nat) : V → V → Hp → VK → Prop := fun x y H Q => ∃ (w : Str) (d : PyData) (ts : List Str) (l : Nat), x = .str w ∧ Td H d y ∧ ET n d ts l ∧ ts.length ≤ 100000 ∧ ∀ (p : Addr) (H' : Hp), Same H H' → SL H' p (wr (decide (l < flst w d)) ts) → Q (.ref p) H'
def rOther (n : Nat) : V → Hp → VK → Prop := fun x H Q => ∃ (w : Str) (ds : List PyData) (tss : List (List Str)), Td H (.tuple (.str w :: ds)) x ∧ AO (fun d t => ∃ l, ET n d t l) w ds tss ∧ (comL tss).length ≤ 100000 ∧ ∀ (p : Addr) (H' : Hp) (vs : List V), Same H H' → H' p = some (.lst vs) → Parts H' vs tss → Q (.ref p) H'
def rBot (n : Nat) : V → Hp → VK → Prop := fun x H Q => ∃ (d : PyData) (ts : List Str), Td H d x ∧ BT n d ts ∧ ts.length ≤ 100000 ∧ ∀ (p : Addr) (H' : Hp), Same H H' → SL H' p ts → Q (.ref p) H'
section
variable {P : Program} {w : World} {K : PySem.W.Frag} {mg : Str → Option Value} {base : Heap}
theorem rEx.one {n : Nat} {H : Hp} {x : V} {d : PyData} {ts : List Str} {l : Nat} {Q : VK} (hx : Td H d x) (he : ET n d ts l) (hl : ts.length ≤ 100000) (q : ∀ (p : Addr) (H' : Hp), Same H H' → SL H' p ts → Q (.ref p) H') : ∃ a b, ([x, .int 1] : List V) = [a, b] ∧ rEx n a b H Q :=
  ⟨_, _, rfl, d, ts, l, 1, rfl, by omega, by omega, hx, he, hl, fun p H' s h => q p H' s (by rw [wr_no (decide_eq_false (by omega))] at h; exact h)⟩
theorem rec_arm (T : Tx K mg w) (n : Nat) (ih : FnOk P w K mg base CX0 (4 * n + 3) T.f_expr_tokens T.fd_expr_tokens ["expr", "floor"] (sp2 (rEx n))) : FnOk P w K mg base CX0 (4 * n + 4) T.f_arm_tokens T.fd_arm_tokens ["arm"] (sp1 (rArm n)) := by
  refine okR1 T.F_arm_tokens sc_arm_tokens rfl fun cdv A outer s H Q EE x hr h => ?_
  obtain ⟨v, e, t, u, l, hx, hv, he, len, q⟩ := h
  refine ⟨_, pss_cons (ps_asg (pv 0) (pg_tup rfl (pgs_cons (pg_name (i := 1) sc_arm_tokens.nd rfl (Or.inl rfl)) (pgs_cons (pg_name (i := 2) sc_arm_tokens.nd rfl (Or.inl rfl)) pgs_nil))))
      (pss_one (ps_ret (pe_op op_cat (pe_op op_cat (pe_call (ok_value_tokens T) (hr.mono (by omega)) rfl T.m_value_tokens T.F_value_tokens.kp T.b_value_tokens .nil pass0 (pa_cons (pv 1) pa_nil)) (pe_lst (pa_cons pe_str pa_nil))) (pe_call ih (hr.mono (by omega)) rfl T.m_expr_tokens T.F_expr_tokens.kp T.b1_expr_tokens T.v1_expr_tokens pass0 (pa_cons (pv 2) pa_nil))))), ?_⟩
  obtain ⟨b, xs, rfl, hb, vv, _, rfl, hvv, ev, _, rfl, hev, rfl⟩ := id hx
  refine ⟨_, rfl, b, _, rfl, SqT.of hb, rfl, _, _, rfl, _, _, rfl, rfl, ?_⟩
  have lt : t.length ≤ 3 := by
    rcases hv with ⟨_, _, _, rfl⟩ | ⟨_, _, _, _, _, rfl⟩ <;> simp
  refine ⟨_, rfl, _, rfl, v, t, hvv, hv, fun p1 H1 s1 h1 => ?_⟩
  refine ⟨sl 1, fun l2 hl2 => ?_⟩
  have s2 := same_new (o := .lst [V.str ":"]) hl2
  refine catS (h1.same s2) (us := [":"]) upd_same (by simp only [List.length_cons, List.length_nil]; omega) fun p3 H3 s3 h3 => ?_
  have s13 := (s1.trans s2).trans s3
  refine ⟨_, rfl, rEx.one (Td.mono (TS.of s13) _ _ hev) he len fun p4 H4 s4 h4 => ?_⟩
  refine catS (h3.same s4) h4 (by simp only [List.length_append, List.length_cons, List.length_nil]; omega) fun p5 H5 s5 h5 => ?_
  exact q p5 H5 ((s13.trans s4).trans s5) h5
theorem nonneg_no {w : Str} {ds : List PyData} (h : ¬ w = "int") : nonneg (.tuple (.str w :: ds)) = false := by
  cases ds with
  | nil => rfl
  | cons e r =>
    cases r with
    | cons _ _ => cases e <;> rfl
    | nil =>
      cases e <;> try rfl
      show (decide (w = "int") && _) = false
      rw [decide_eq_false h]
      rfl
theorem AO.word {R : PyData → List Str → Prop} {w : Str} {ds : List PyData} {tss : List (List Str)} (h : AO R w ds tss) : w ∈ (["as", "when", "held", "merge", "here", "else", "fresh"] : List Str) := by
  rcases h with ⟨rfl, _⟩ | ⟨rfl, _⟩ | ⟨rfl, _⟩ | ⟨rfl, _⟩ | ⟨rfl, _⟩ | ⟨rfl, _⟩ | ⟨rfl, _⟩ <;> simp
theorem ET.head : ∀ {n : Nat} {d : PyData} {ts : List Str} {l : Nat}, ET n d ts l → ∃ (w : Str) (ds : List PyData), d = .tuple (.str w :: ds) ∧ ((∃ i : Int, okI i ∧ w = "int" ∧ ds = [.int i] ∧ l = if i < 0 then 7 else 8) ∨ ¬ w = "int")
  | n + 1, _, _, _, h => by
    rcases h with ⟨i, h, rfl, _, rfl⟩ | ⟨s, _, rfl, _, rfl⟩ | ⟨⟨b, _, rfl, _⟩ | ⟨_, _, _, _, rfl, _⟩, rfl⟩ | ⟨g, _, _, _, _, _, _, hg, _, _, rfl, rfl, _⟩ | ⟨g, _, _, _, hg, _, rfl, rfl, _⟩ | ⟨w, ds, _, hw, rfl, rfl, _⟩
    · exact ⟨_, _, rfl, .inl ⟨i, h, rfl, rfl, rfl⟩⟩
    · exact ⟨_, _, rfl, .inr (by decide +kernel)⟩
    · exact ⟨_, _, rfl, .inr (by decide +kernel)⟩
    · exact ⟨_, _, rfl, .inr (by decide +kernel)⟩
    · exact ⟨_, _, rfl, .inr ((show ∀ g ∈ sgs, ¬ g.1 = "int" by decide +kernel) g hg)⟩
    · exact ⟨_, _, rfl, .inr ((show ∀ g ∈ frs, ¬ g.1 = "int" by decide +kernel) g hg)⟩
    · refine ⟨_, _, rfl, .inr ?_⟩
      rcases hw with ⟨h, _⟩ | h
      · exact (show ∀ w ∈ nary, ¬ w = "int" by decide +kernel) w h
      · exact (show ∀ w ∈ (["as", "when", "held", "merge", "here", "else", "fresh"] : List Str), ¬ w = "int" by decide +kernel) w (AO.word h)
theorem rec_front (T : Tx K mg w) (n : Nat) (ih : FnOk P w K mg base CX0 (4 * n + 3) T.f_expr_tokens T.fd_expr_tokens ["expr", "floor"] (sp2 (rEx n))) : FnOk P w K mg base CX0 (4 * n + 4) T.f_front_operand T.fd_front_operand ["word", "expr"] (sp2 (rFront n)) := by
  refine okR2 T.F_front_operand sc_front_operand rfl fun cdv A outer s H Q EE x y hr h => ?_
  obtain ⟨z, d, ts, l, rfl, hx, he, len, q⟩ := h
  refine ⟨_, pss_cons (ps_if (PW.pt (pw_and (pt_cmpR op_eq (pv 0) pe_str (nomark _)) (pw_and (pt_cmpR op_eq (pe_ix ix_tup (pv 1) pe_int (fun _ _ => rfl)) pe_str (nomark _)) (pw_and1 (pt_cmpR op_ge (pe_ix ix_tup (pv 1) pe_int (fun _ _ => rfl)) pe_int (nomark _)))))) (pss_one (ps_ret (pe_op op_cat (pe_op op_cat (pe_lst (pa_cons pe_str pa_nil)) (pe_call ih (hr.mono (by omega)) rfl T.m_expr_tokens T.F_expr_tokens.kp T.b1_expr_tokens T.v1_expr_tokens pass0 (pa_cons (pv 1) pa_nil))) (pe_lst (pa_cons pe_str pa_nil))))) pss_nil)
      (pss_one (ps_ret (pe_call ih (hr.mono (by omega)) rfl T.m_expr_tokens T.F_expr_tokens.kp T.b_expr_tokens .nil pass0 (pa_cons (pv 1) (pa_cons (pe_glob (v := .int 8) rfl T.mg_FRONT ⟨_, rfl⟩) pa_nil))))), ?_⟩
  obtain ⟨w0, ds, rfl, hd⟩ := ET.head he
  obtain ⟨b, xs, rfl, hb, _, r, rfl, rfl, hr'⟩ := id hx
  have last : ∀ (fl : flst z (.tuple (.str w0 :: ds)) = 7), ∃ a c, ([.ref b, .int 8] : List V) = [a, c] ∧ rEx n a c H Q := fun fl =>
    ⟨_, _, rfl, _, ts, l, 8, rfl, by omega, by omega, hx, he, len, fun p H' s h => q p H' s (by
      rw [fl]
      rw [show decide (l < 7) = decide (l + 1 < 8) from decide_eq_decide.mpr (by omega)]
      exact h)⟩
  refine ⟨_, rfl, rfl, _, rfl, ?_⟩
  by_cases hz : z = "neg"
  · subst hz
    refine iteT ⟨_, rfl, b, _, _, _, rfl, rfl, SqT.of hb, at_n 0 rfl, rfl, _, rfl, ?_⟩
    rcases hd with ⟨i, oi, rfl, rfl, hl⟩ | hd
    · obtain ⟨_, _, rfl, rfl, rfl⟩ := hr'
      refine iteT ⟨_, rfl, b, _, _, _, rfl, rfl, SqT.of hb, at_n 1 rfl, _, _, rfl, rfl, _, rfl, ?_⟩
      have ni : nonneg (.tuple [.str "int", .int i]) = decide (0 ≤ i) := by
        show (decide (("int" : Str) = "int") && decide (0 ≤ i)) = _
        rw [decide_eq_true rfl, Bool.true_and]
      refine ite2 (fun h => ?_) (fun h => ⟨_, rfl, last (by unfold flst; rw [ni, show decide (0 ≤ i) = false from Bool.eq_false_iff.mpr h]; rfl)⟩)
      have nn : nonneg (.tuple [.str "int", .int i]) = true := by
        rw [ni]
        exact h
      refine ⟨sl 1, fun l1 hl1 => ?_⟩
      have s1 := same_new (o := .lst [V.str "("]) hl1
      have h1 : SL (upd H l1 (.lst [V.str "("])) l1 (["("] : List Str) := upd_same
      refine ⟨_, rfl, rEx.one (Td.mono (TS.of s1) _ _ hx) he len fun p2 H2 s2 h2 => ?_⟩
      refine catS (h1.same s2) h2 (by simp only [List.length_cons, List.length_nil]; omega) fun p3 H3 s3 h3 => ?_
      refine ⟨sl 1, fun l4 hl4 => ?_⟩
      have s4 := same_new (o := .lst [V.str ")"]) hl4
      refine catS (h3.same s4) (us := [")"]) upd_same (by simp only [List.length_append, List.length_cons, List.length_nil]; omega) fun p5 H5 s5 h5 => ?_
      refine q p5 H5 ((((s1.trans s2).trans s3).trans s4).trans s5) ?_
      have lv := ET.lv he
      have f9 : flst "neg" (.tuple [.str "int", .int i]) = 9 := by
        unfold flst
        exact if_pos ⟨rfl, nn⟩
      rw [f9, show decide (l < 9) = true from decide_eq_true (by omega)]
      exact h5
    · refine ite2 (fun h => absurd h (st_ne hd)) (fun _ => iteF ?_)
      exact ⟨_, rfl, last (by unfold flst; rw [nonneg_no hd]; rfl)⟩
  · refine ite2 (fun h => absurd h (st_ne hz)) (fun _ => iteF ?_)
    exact ⟨_, rfl, last (by unfold flst; rw [if_neg (fun h => hz h.1)])⟩
theorem All2.mem {α β : Type} {R : α → β → Prop} : ∀ {as : List α} {bs : List β} {b : β}, All2 R as bs → b ∈ bs → ∃ a, a ∈ as ∧ R a b
  | [], [], _, _, h => by cases h
  | [], _ :: _, _, z, _ => z.elim
  | _ :: _, [], _, z, _ => z.elim
  | a :: as, b :: bs, c, z, h => by
    rcases List.mem_cons.mp h with rfl | h
    · exact ⟨a, List.mem_cons_self, z.1⟩
    · obtain ⟨x, hx, r⟩ := All2.mem z.2 h
      exact ⟨x, List.mem_cons_of_mem _ hx, r⟩
theorem rec_other (T : Tx K mg w) (n : Nat) (ih : FnOk P w K mg base CX0 (4 * n + 3) T.f_expr_tokens T.fd_expr_tokens ["expr", "floor"] (sp2 (rEx n))) : FnOk P w K mg base CX0 (4 * n + 5) T.f_other_arguments T.fd_other_arguments ["expr"] (sp1 (rOther n)) := by
  have ihA := rec_arm (P := P) (base := base) T n ih
  refine okR1 T.F_other_arguments sc_other_arguments rfl fun cdv A outer s H Q EE x hr h => ?_
  obtain ⟨z, ds, tss, hx, ao, len, q⟩ := h
  refine ⟨_, pss_cons (ps_set (i := 1) sc_other_arguments.nd rfl (Or.inl rfl) (pe_ix ix_tup (pv 0) pe_int (fun _ _ => rfl)))
      (pss_cons (ps_if (pt_cmpR op_eq (pv 1) pe_str (nomark _)) (pss_one (ps_ret (pe_lst (pa_cons (pe_call ih (hr.mono (by omega)) rfl T.m_expr_tokens T.F_expr_tokens.kp T.b1_expr_tokens T.v1_expr_tokens pass0 (pa_cons (pe_ix ix_tup (pv 0) pe_int (fun _ _ => rfl)) pa_nil)) (pa_cons (pe_call (ok_kind_tokens T) (hr.mono (by omega)) rfl T.m_kind_tokens T.F_kind_tokens.kp T.b_kind_tokens .nil pass0 (pa_cons (pe_ix ix_tup (pv 0) pe_int (fun _ _ => rfl)) pa_nil)) pa_nil))))) pss_nil)
      (pss_cons (ps_if (pt_cmpR op_eq (pv 1) pe_str (nomark _)) (pss_one (ps_ret (pe_lst (pa_cons (pe_call ih (hr.mono (by omega)) rfl T.m_expr_tokens T.F_expr_tokens.kp T.b1_expr_tokens T.v1_expr_tokens pass0 (pa_cons (pe_ix ix_tup (pv 0) pe_int (fun _ _ => rfl)) pa_nil)) (pa_cons (pe_call (ok_layer_tokens T) (hr.mono (by omega)) rfl T.m_layer_tokens T.F_layer_tokens.kp T.b_layer_tokens .nil pass0 (pa_cons (pe_ix ix_tup (pv 0) pe_int (fun _ _ => rfl)) pa_nil)) pa_nil))))) pss_nil)
      (pss_cons (ps_if (pt_cmpR op_eq (pv 1) pe_str (nomark _)) (pss_one (ps_ret (pe_lst (pa_cons (pe_call ih (hr.mono (by omega)) rfl T.m_expr_tokens T.F_expr_tokens.kp T.b1_expr_tokens T.v1_expr_tokens pass0 (pa_cons (pe_ix ix_tup (pv 0) pe_int (fun _ _ => rfl)) pa_nil)) (pa_cons (pe_call ih (hr.mono (by omega)) rfl T.m_expr_tokens T.F_expr_tokens.kp T.b1_expr_tokens T.v1_expr_tokens pass0 (pa_cons (pe_ix ix_tup (pv 0) pe_int (fun _ _ => rfl)) pa_nil)) (pa_cons (pe_call (ok_layer_tokens T) (hr.mono (by omega)) rfl T.m_layer_tokens T.F_layer_tokens.kp T.b_layer_tokens .nil pass0 (pa_cons (pe_ix ix_tup (pv 0) pe_int (fun _ _ => rfl)) pa_nil)) pa_nil)))))) pss_nil)
      (pss_cons (ps_if (pt_cmpR op_eq (pv 1) pe_str (nomark _)) (pss_one (ps_ret (pe_op op_cat (pe_lst (pa_cons (pe_lst (pa_cons (pe_ix ix_tup (pv 0) pe_int (fun _ _ => rfl)) pa_nil)) pa_nil)) (pe_lc (own := [("arm", 2)]) (g := gName 2) (tt := tYes) rfl sc_other_arguments.nd (pi_tup (pe_ix ix_tup (pv 0) pe_int (fun _ _ => rfl))) (blkOk_by (N := ["expr", "word", "arm"]) (sc := defScope s_other_arguments) (by decide +kernel)) (fun _ _ _ _ _ => pg_name (i := 2) sc_other_arguments.nd rfl (Or.inl rfl)) (fun _ _ _ _ _ => pts_nil) (fun _ _ _ _ _ => (pe_call ihA (hr.mono (by omega)) rfl T.m_arm_tokens T.F_arm_tokens.kp T.b_arm_tokens .nil pass0 (pa_cons (pv 2) pa_nil))))))) pss_nil)
      (pss_cons (ps_if (pt_cmpR op_eq (pv 1) pe_str (nomark _)) (pss_one (ps_ret (pe_lst (pa_cons (pe_lst (pa_cons (pe_ix ix_tup (pv 0) pe_int (fun _ _ => rfl)) pa_nil)) pa_nil)))) pss_nil)
      (pss_cons (ps_if (pt_cmpR op_eq (pv 1) pe_str (nomark _)) (pss_one (ps_ret (pe_lst (pa_cons (pe_lst (pa_cons (pe_ix ix_tup (pv 0) pe_int (fun _ _ => rfl)) pa_nil)) (pa_cons (pe_call ih (hr.mono (by omega)) rfl T.m_expr_tokens T.F_expr_tokens.kp T.b1_expr_tokens T.v1_expr_tokens pass0 (pa_cons (pe_ix ix_tup (pv 0) pe_int (fun _ _ => rfl)) pa_nil)) pa_nil))))) pss_nil)
      (pss_one (ps_ret (pe_lst (pa_cons (pe_lst (pa_cons (pe_ix ix_tup (pv 0) pe_int (fun _ _ => rfl)) pa_nil)) (pa_cons (pe_lst (pa_cons (pe_callTy call_str_int (by rfl) T.z_str (by decide +kernel) (pa_cons (pe_ix ix_tup (pv 0) pe_int (fun _ _ => rfl)) pa_nil)) pa_nil)) (pa_cons (pe_call ih (hr.mono (by omega)) rfl T.m_expr_tokens T.F_expr_tokens.kp T.b1_expr_tokens T.v1_expr_tokens pass0 (pa_cons (pe_ix ix_tup (pv 0) pe_int (fun _ _ => rfl)) pa_nil)) pa_nil)))))))))))), ?_⟩
  have lens : ∀ t ∈ tss, t.length ≤ 100000 := fun t h => Nat.le_trans (com_mem h) len
  obtain ⟨b, xs, rfl, hb, _, r, rfl, rfl, hr'⟩ := id hx
  refine ⟨_, rfl, b, _, _, _, rfl, rfl, SqT.of hb, at_n 0 rfl, ?_⟩
  rcases ao with ⟨rfl, d, k, t, u, ⟨l, he⟩, hk, rfl, rfl⟩ | ⟨rfl, d, y, t, u, ⟨l, he⟩, hy, rfl, rfl⟩ | ⟨rfl, d, e, y, t, u, v, ⟨l, he⟩, ⟨m, hf⟩, hy, rfl, rfl⟩ | ⟨rfl, nm, as, us, on, la, h2, rfl, rfl⟩ | ⟨rfl, nm, on, rfl, rfl⟩ | ⟨rfl, nm, d, t, on, ⟨l, he⟩, rfl, rfl⟩ | ⟨rfl, nm, m, d, t, on, om, m0, ⟨l, he⟩, rfl, rfl⟩
  · obtain ⟨v1, _, rfl, hv1, v2, _, rfl, hv2, rfl⟩ := hr'
    refine ⟨_, rfl, rfl, _, rfl, iteT ?_⟩
    refine ⟨_, rfl, b, _, _, _, rfl, rfl, SqT.of hb, at_n 1 rfl, rEx.one hv1 he (lens _ (by simp)) fun p1 H1 s1 h1 => ?_⟩
    refine ⟨_, rfl, b, _, _, _, rfl, rfl, SqT.of (s1 _ _ hb), at_n 2 rfl, _, rfl, k, 2, u, Td.mono (TS.of s1) _ _ hv2, hk, by omega, fun p2 H2 s2 h2 => ?_⟩
    refine ⟨sl 2, fun p hp => q p _ _ ((s1.trans s2).trans (same_new hp)) upd_same ?_⟩
    exact ⟨⟨p1, rfl, (h1.same s2).same (same_new hp)⟩, ⟨p2, rfl, h2.same (same_new hp)⟩, trivial⟩
  · obtain ⟨v1, _, rfl, hv1, v2, _, rfl, hv2, rfl⟩ := hr'
    refine ⟨_, rfl, rfl, _, rfl, iteF ?_⟩
    refine ⟨_, rfl, rfl, _, rfl, iteT ?_⟩
    refine ⟨_, rfl, b, _, _, _, rfl, rfl, SqT.of hb, at_n 1 rfl, rEx.one hv1 he (lens _ (by simp)) fun p1 H1 s1 h1 => ?_⟩
    refine ⟨_, rfl, b, _, _, _, rfl, rfl, SqT.of (s1 _ _ hb), at_n 2 rfl, _, rfl, y, u, Td.mono (TS.of s1) _ _ hv2, hy, fun p2 H2 s2 h2 => ?_⟩
    refine ⟨sl 2, fun p hp => q p _ _ ((s1.trans s2).trans (same_new hp)) upd_same ?_⟩
    exact ⟨⟨p1, rfl, (h1.same s2).same (same_new hp)⟩, ⟨p2, rfl, h2.same (same_new hp)⟩, trivial⟩
  · obtain ⟨v1, _, rfl, hv1, v2, _, rfl, hv2, v3, _, rfl, hv3, rfl⟩ := hr'
    refine ⟨_, rfl, rfl, _, rfl, iteF ?_⟩
    refine ⟨_, rfl, rfl, _, rfl, iteF ?_⟩
    refine ⟨_, rfl, rfl, _, rfl, iteT ?_⟩
    refine ⟨_, rfl, b, _, _, _, rfl, rfl, SqT.of hb, at_n 1 rfl, rEx.one hv1 he (lens _ (by simp)) fun p1 H1 s1 h1 => ?_⟩
    refine ⟨_, rfl, b, _, _, _, rfl, rfl, SqT.of (s1 _ _ hb), at_n 2 rfl, rEx.one (Td.mono (TS.of s1) _ _ hv2) hf (lens _ (by simp)) fun p2 H2 s2 h2 => ?_⟩
    refine ⟨_, rfl, b, _, _, _, rfl, rfl, SqT.of (s2 _ _ (s1 _ _ hb)), at_n 3 rfl, _, rfl, y, v, Td.mono (TS.of (s1.trans s2)) _ _ hv3, hy, fun p3 H3 s3 h3 => ?_⟩
    refine ⟨sl 3, fun p hp => q p _ _ (((s1.trans s2).trans s3).trans (same_new hp)) upd_same ?_⟩
    exact ⟨⟨p1, rfl, ((h1.same s2).same s3).same (same_new hp)⟩, ⟨p2, rfl, (h2.same s3).same (same_new hp)⟩, ⟨p3, rfl, h3.same (same_new hp)⟩, trivial⟩
  · obtain ⟨_, _, rfl, rfl, v2, _, rfl, ⟨c, ys, rfl, hc, hys⟩, rfl⟩ := hr'
    refine ⟨_, rfl, rfl, _, rfl, iteF ?_⟩
    refine ⟨_, rfl, rfl, _, rfl, iteF ?_⟩
    refine ⟨_, rfl, rfl, _, rfl, iteF ?_⟩
    refine ⟨_, rfl, rfl, _, rfl, iteT ?_⟩
    refine ⟨_, rfl, b, _, _, _, rfl, rfl, SqT.of hb, at_n 1 rfl, sl 1, fun l1 hl1 => ⟨sl 1, fun l2 hl2 => ?_⟩⟩
    have s1 := same_new (o := .lst [V.str nm]) hl1
    have h1 : SL (upd H l1 (.lst [V.str nm])) l1 ([nm] : List Str) := upd_same
    generalize upd H l1 (.lst [V.str nm]) = H1 at s1 h1 hl2 ⊢
    have s2 := same_new (o := .lst [V.ref l1]) hl2
    have g2 : upd H1 l2 (.lst [V.ref l1]) l2 = some (.lst [V.ref l1]) := upd_same
    generalize upd H1 l2 (.lst [V.ref l1]) = H2 at s2 g2 ⊢
    have s12 := s1.trans s2
    have lv := TdAll.len _ _ hys
    have lw := All2.len h2
    refine ⟨_, rfl, b, _, _, _, rfl, rfl, SqT.of (s12 _ _ hb), at_n 2 rfl, ?_⟩
    refine ⟨c, rfl, ⟨_, SqT.of (s12 _ _ hc)⟩, fun D hD => parts_comp (s12 _ _ hc) hD (tss := us) (by omega) (by omega) ?_ ?_ ?_⟩
    · intro t ht
      obtain ⟨_, _, v, e, t, x, _, _, _, rfl⟩ := All2.mem h2 ht
      simp
    · intro i v u H4 C C2 hi ht sm4 k
      have hil : i < as.length := by
        have := (List.getElem?_eq_some_iff.mp hi).1
        omega
      obtain ⟨u', hu', v3, e, t, x, hv, ⟨l, he⟩, ea, rfl⟩ := All2.at h2 (List.getElem?_eq_getElem hil)
      rw [ht] at hu'
      cases hu'
      obtain ⟨v', hv1, hv2⟩ := TdAll.at i _ _ _ hys (List.getElem?_eq_getElem hil)
      rw [hi] at hv1
      cases hv1
      rw [ea] at hv2
      have ll := lens _ (List.mem_cons_of_mem _ (List.mem_of_getElem? ht))
      rw [List.length_append, List.length_append] at ll
      exact ⟨rfl, yes ⟨_, rfl, _, rfl, v3, e, t, x, l, Td.mono (TS.of (s12.trans sm4)) _ _ hv2, hv, he, by omega, k⟩⟩
    · intro H4 acc s4 h4 hps
      have lp := All2.len hps
      refine ⟨l2, D, _, _, rfl, rfl, s4 _ _ g2, h4, by rw [sizeLine_eq]; simp only [List.length_cons, List.length_nil]; omega, fun p hp => q p _ _ ((s12.trans s4).trans (same_new hp)) upd_same ?_⟩
      exact ⟨⟨l1, rfl, ((h1.same s2).same s4).same (same_new hp)⟩, hps.same (same_new hp)⟩
  · obtain ⟨_, _, rfl, rfl, rfl⟩ := hr'
    refine ⟨_, rfl, rfl, _, rfl, iteF ?_⟩
    refine ⟨_, rfl, rfl, _, rfl, iteF ?_⟩
    refine ⟨_, rfl, rfl, _, rfl, iteF ?_⟩
    refine ⟨_, rfl, rfl, _, rfl, iteF ?_⟩
    refine ⟨_, rfl, rfl, _, rfl, iteT ?_⟩
    refine ⟨_, rfl, b, _, _, _, rfl, rfl, SqT.of hb, at_n 1 rfl, sl 1, fun l1 hl1 => ⟨sl 1, fun l2 hl2 => ?_⟩⟩
    refine q l2 _ _ ((same_new hl1).trans (same_new hl2)) upd_same ?_
    exact ⟨⟨l1, rfl, SL.same (ts := [nm]) upd_same (same_new hl2)⟩, trivial⟩
  · obtain ⟨_, _, rfl, rfl, v2, _, rfl, hv2, rfl⟩ := hr'
    refine ⟨_, rfl, rfl, _, rfl, iteF ?_⟩
    refine ⟨_, rfl, rfl, _, rfl, iteF ?_⟩
    refine ⟨_, rfl, rfl, _, rfl, iteF ?_⟩
    refine ⟨_, rfl, rfl, _, rfl, iteF ?_⟩
    refine ⟨_, rfl, rfl, _, rfl, iteF ?_⟩
    refine ⟨_, rfl, rfl, _, rfl, iteT ?_⟩
    refine ⟨_, rfl, b, _, _, _, rfl, rfl, SqT.of hb, at_n 1 rfl, sl 1, fun l1 hl1 => ?_⟩
    have s1 := same_new (o := .lst [V.str nm]) hl1
    have h1 : SL (upd H l1 (.lst [V.str nm])) l1 ([nm] : List Str) := upd_same
    refine ⟨_, rfl, b, _, _, _, rfl, rfl, SqT.of (s1 _ _ hb), at_n 2 rfl, rEx.one (Td.mono (TS.of s1) _ _ hv2) he (lens _ (by simp)) fun p2 H2 s2 h2 => ?_⟩
    refine ⟨sl 2, fun p hp => q p _ _ ((s1.trans s2).trans (same_new hp)) upd_same ?_⟩
    exact ⟨⟨l1, rfl, (h1.same s2).same (same_new hp)⟩, ⟨p2, rfl, h2.same (same_new hp)⟩, trivial⟩
  · obtain ⟨_, _, rfl, rfl, _, _, rfl, rfl, v3, _, rfl, hv3, rfl⟩ := hr'
    refine ⟨_, rfl, rfl, _, rfl, iteF ?_⟩
    refine ⟨_, rfl, rfl, _, rfl, iteF ?_⟩
    refine ⟨_, rfl, rfl, _, rfl, iteF ?_⟩
    refine ⟨_, rfl, rfl, _, rfl, iteF ?_⟩
    refine ⟨_, rfl, rfl, _, rfl, iteF ?_⟩
    refine ⟨_, rfl, rfl, _, rfl, iteF ?_⟩
    refine ⟨_, rfl, b, _, _, _, rfl, rfl, SqT.of hb, at_n 1 rfl, sl 1, fun l1 hl1 => ?_⟩
    have s1 := same_new (o := .lst [V.str nm]) hl1
    have h1 : SL (upd H l1 (.lst [V.str nm])) l1 ([nm] : List Str) := upd_same
    generalize upd H l1 (.lst [V.str nm]) = H1 at s1 h1 ⊢
    refine ⟨_, rfl, b, _, _, _, rfl, rfl, SqT.of (s1 _ _ hb), at_n 2 rfl, _, rfl, log_ok om, sl 1, fun l2 hl2 => ?_⟩
    have s2 := same_new (o := .lst [V.str (sI m)]) hl2
    have h2 : SL (upd H1 l2 (.lst [V.str (sI m)])) l2 ([sI m] : List Str) := upd_same
    refine ⟨_, rfl, b, _, _, _, rfl, rfl, SqT.of (s2 _ _ (s1 _ _ hb)), at_n 3 rfl, rEx.one (Td.mono (TS.of (s1.trans s2)) _ _ hv3) he (lens _ (by simp)) fun p3 H3 s3 h3 => ?_⟩
    refine ⟨sl 3, fun p hp => q p _ _ (((s1.trans s2).trans s3).trans (same_new hp)) upd_same ?_⟩
    exact ⟨⟨l1, rfl, ((h1.same s2).same s3).same (same_new hp)⟩, ⟨l2, rfl, (h2.same s3).same (same_new hp)⟩, ⟨p3, rfl, h3.same (same_new hp)⟩, trivial⟩
end

section
variable {P : Program} {w : World} {K : PySem.W.Frag} {mg : Str → Option Value} {base : Heap}
theorem no_in {z a b : Str} (h1 : ¬ z = a) (h2 : ¬ z = b) : inV (.str z) [.str a, .str b] = false := by
  have e := inV_str z [a, b]
  rw [show ([a, b] : List Str).map V.str = [.str a, .str b] from rfl] at e
  rw [e]
  exact decide_eq_false (by simp [h1, h2])
theorem KDct.in_ {d : Addr} {z : Str} {v : V} (h : KDct K w d z v) : ∃ u, PySem.W.nsIn K d z = some (some u) := by
  obtain ⟨_, _, u, _, _, e, _⟩ := h
  exact ⟨u, e⟩
theorem tab_calls : ∀ z ∈ nary, ∃ v, (z, v) ∈ tab_CALLS := by
  intro z hz
  obtain ⟨q, hq, rfl⟩ := List.mem_map.mp ((show ∀ z ∈ nary, z ∈ tab_CALLS.map (·.1) by decide +kernel) z hz)
  exact ⟨q.2, hq⟩
theorem AO.ne {R : PyData → List Str → Prop} (hR : ∀ d t, R d t → t ≠ []) {z : Str} {ds : List PyData} {tss : List (List Str)} (h : AO R z ds tss) : ∀ t ∈ tss, t ≠ [] := by
  have one : ∀ s : Str, ([s] : List Str) ≠ [] := fun s => List.cons_ne_nil _ _
  rcases h with ⟨_, d, k, t, u, h1, h2, _, rfl⟩ | ⟨_, d, k, t, u, h1, h2, _, rfl⟩ | ⟨_, d, e, k, t, u, v, h1, h2, h3, _, rfl⟩ | ⟨_, s, as, us, _, _, h2, _, rfl⟩ | ⟨_, s, _, _, rfl⟩ | ⟨_, s, d, t, _, h1, _, rfl⟩ | ⟨_, s, m, d, t, _, _, _, h1, _, rfl⟩ <;> intro x hx
  · simp only [List.mem_cons, List.not_mem_nil, or_false] at hx
    rcases hx with rfl | rfl
    · exact hR _ _ h1
    · exact KT.ne h2
  · simp only [List.mem_cons, List.not_mem_nil, or_false] at hx
    rcases hx with rfl | rfl
    · exact hR _ _ h1
    · exact LT.ne h2
  · simp only [List.mem_cons, List.not_mem_nil, or_false] at hx
    rcases hx with rfl | rfl | rfl
    · exact hR _ _ h1
    · exact hR _ _ h2
    · exact LT.ne h3
  · rcases List.mem_cons.mp hx with rfl | hx
    · exact one s
    · obtain ⟨_, _, v, e, t, y, _, _, _, rfl⟩ := All2.mem h2 hx
      simp
  · simp only [List.mem_cons, List.not_mem_nil, or_false] at hx
    rw [hx]
    exact one s
  · simp only [List.mem_cons, List.not_mem_nil, or_false] at hx
    rcases hx with rfl | rfl
    · exact one s
    · exact hR _ _ h1
  · simp only [List.mem_cons, List.not_mem_nil, or_false] at hx
    rcases hx with rfl | rfl | rfl
    · exact one s
    · exact one _
    · exact hR _ _ h1
theorem rec_bot (T : Tx K mg w) (n : Nat) (ih : FnOk P w K mg base CX0 (4 * n + 3) T.f_expr_tokens T.fd_expr_tokens ["expr", "floor"] (sp2 (rEx n))) : FnOk P w K mg base CX0 (4 * n + 6) T.f_bottom_tokens T.fd_bottom_tokens ["expr"] (sp1 (rBot n)) := by
  have ihO := rec_other (P := P) (base := base) T n ih
  refine okR1 T.F_bottom_tokens sc_bottom_tokens rfl fun cdv A outer s H Q EE x hr h => ?_
  obtain ⟨d, ts, hx, hb, len, q⟩ := h
  refine ⟨_, pss_cons (ps_set (i := 1) sc_bottom_tokens.nd rfl (Or.inl rfl) (pe_ix ix_tup (pv 0) pe_int (fun _ _ => rfl)))
      (pss_cons (ps_if (pt_cmpR op_eq (pv 1) pe_str (nomark _)) (pss_one (ps_ret (pe_call (ok_int_tokens T) (hr.mono (by omega)) rfl T.m_int_tokens T.F_int_tokens.kp T.b_int_tokens .nil pass0 (pa_cons (pe_ix ix_tup (pv 0) pe_int (fun _ _ => rfl)) pa_nil)))) pss_nil)
      (pss_cons (ps_if (pt_cmpR op_eq (pv 1) pe_str (nomark _)) (pss_one (ps_ret (pe_lst (pa_cons (pe_ix ix_tup (pv 0) pe_int (fun _ _ => rfl)) pa_nil)))) pss_nil)
      (pss_cons (ps_if (pt_cmpR op_in_seq (pv 1) (pe_tup (pa_cons pe_str (pa_cons pe_str pa_nil))) (by rfl)) (pss_one (ps_ret (pe_call (ok_value_tokens T) (hr.mono (by omega)) rfl T.m_value_tokens T.F_value_tokens.kp T.b_value_tokens .nil pass0 (pa_cons (pv 0) pa_nil)))) pss_nil)
      (pss_cons (ps_if (pt_cmpR (op_in_kd T.kx_CALLS) (pv 1) (pe_glob (v := .ref (He.ga K "CALLS")) rfl T.mg_CALLS rfl) (by rfl)) (pss_one (ps_ret (pe_op op_cat (pe_lst (pa_cons (pv 1) pa_nil)) (pe_call (ok_arguments T) (hr.mono (by omega)) rfl T.m_arguments T.F_arguments.kp T.b_arguments .nil pass0 (pa_cons (pe_lc (own := [("part", 2)]) (g := gName 2) (tt := tYes) rfl sc_bottom_tokens.nd (pi_tup (pe_slice sl_tupA (pv 0) (po_some pe_int) po_none)) (blkOk_by (N := ["expr", "word", "part"]) (sc := defScope s_bottom_tokens) (by decide +kernel)) (fun _ _ _ _ _ => pg_name (i := 2) sc_bottom_tokens.nd rfl (Or.inl rfl)) (fun _ _ _ _ _ => pts_nil) (fun _ _ _ _ _ => (pe_call ih (hr.mono (by omega)) rfl T.m_expr_tokens T.F_expr_tokens.kp T.b1_expr_tokens T.v1_expr_tokens pass0 (pa_cons (pv 2) pa_nil)))) pa_nil))))) pss_nil)
      (pss_one (ps_ret (pe_op op_cat (pe_lst (pa_cons (pv 1) pa_nil)) (pe_call (ok_arguments T) (hr.mono (by omega)) rfl T.m_arguments T.F_arguments.kp T.b_arguments .nil pass0 (pa_cons (pe_call ihO (hr.mono (by omega)) rfl T.m_other_arguments T.F_other_arguments.kp T.b_other_arguments .nil pass0 (pa_cons (pv 0) pa_nil)) pa_nil))))))))), ?_⟩
  rcases hb with ⟨i, oi, rfl, rfl⟩ | ⟨nm, on, rfl, rfl⟩ | hv | ⟨z, ds, tss, hz, l7, h2, rfl, rfl⟩ | ⟨z, ds, tss, ao, rfl, rfl⟩
  · obtain ⟨b, xs, rfl, hb, _, r, rfl, rfl, _, _, rfl, rfl, rfl⟩ := id hx
    refine ⟨_, rfl, b, _, _, _, rfl, rfl, SqT.of hb, at_n 0 rfl, ?_⟩
    refine ⟨_, rfl, rfl, _, rfl, iteT ?_⟩
    exact ⟨_, rfl, b, _, _, _, rfl, rfl, SqT.of hb, at_n 1 rfl, _, rfl, i, rfl, oi, q⟩
  · obtain ⟨b, xs, rfl, hb, _, r, rfl, rfl, _, _, rfl, rfl, rfl⟩ := id hx
    refine ⟨_, rfl, b, _, _, _, rfl, rfl, SqT.of hb, at_n 0 rfl, ?_⟩
    refine ⟨_, rfl, rfl, _, rfl, iteF ?_⟩
    refine ⟨_, rfl, rfl, _, rfl, iteT ?_⟩
    exact ⟨_, rfl, b, _, _, _, rfl, rfl, SqT.of hb, at_n 1 rfl, sl 1, fun p hp => q p _ (same_new hp) upd_same⟩
  · have hw : ∃ (z : Str) (ds : List PyData), d = .tuple (.str z :: ds) ∧ (z = "truth" ∨ z = "value") := by
      rcases hv with ⟨_, _, rfl, _⟩ | ⟨_, _, _, _, rfl, _⟩
      · exact ⟨_, _, rfl, .inl rfl⟩
      · exact ⟨_, _, rfl, .inr rfl⟩
    obtain ⟨z, ds, rfl, hz⟩ := hw
    obtain ⟨b, xs, rfl, hb, _, r, rfl, rfl, hr'⟩ := id hx
    refine ⟨_, rfl, b, _, _, _, rfl, rfl, SqT.of hb, at_n 0 rfl, ?_⟩
    have z1 : ¬ z = "int" := by rcases hz with rfl | rfl <;> decide +kernel
    have z2 : ¬ z = "name" := by rcases hz with rfl | rfl <;> decide +kernel
    refine ⟨_, rfl, rfl, _, rfl, ite2 (fun h => absurd h (st_ne z1)) (fun _ => ?_)⟩
    refine ⟨_, rfl, rfl, _, rfl, ite2 (fun h => absurd h (st_ne z2)) (fun _ => ?_)⟩
    refine ⟨_, rfl, sl 2, fun p hp => ⟨p, _, rfl, .inr (SqT.of upd_same), rfl, rfl, _, rfl, ?_⟩⟩
    have sp := same_new (o := .tup [V.str "truth", V.str "value"]) hp
    have hx2 := Td.mono (TS.of sp) _ _ hx
    rcases hz with rfl | rfl
    · exact iteT ⟨_, rfl, _, rfl, _, ts, hx2, hv, fun p4 H4 s4 h4 => q p4 H4 (sp.trans s4) h4⟩
    · exact iteT ⟨_, rfl, _, rfl, _, ts, hx2, hv, fun p4 H4 s4 h4 => q p4 H4 (sp.trans s4) h4⟩
  · obtain ⟨b, xs, rfl, hb, _, r, rfl, rfl, hr'⟩ := id hx
    refine ⟨_, rfl, b, _, _, _, rfl, rfl, SqT.of hb, at_n 0 rfl, ?_⟩
    have z1 := (show ∀ z ∈ nary, ¬ z = "int" by decide +kernel) z hz
    have z2 := (show ∀ z ∈ nary, ¬ z = "name" by decide +kernel) z hz
    have z3 := (show ∀ z ∈ nary, ¬ z = "truth" by decide +kernel) z hz
    have z4 := (show ∀ z ∈ nary, ¬ z = "value" by decide +kernel) z hz
    refine ⟨_, rfl, rfl, _, rfl, ite2 (fun h => absurd h (st_ne z1)) (fun _ => ?_)⟩
    refine ⟨_, rfl, rfl, _, rfl, ite2 (fun h => absurd h (st_ne z2)) (fun _ => ?_)⟩
    refine ⟨_, rfl, sl 2, fun p hp => ⟨p, _, rfl, .inr (SqT.of upd_same), rfl, rfl, _, rfl, ite2 (fun h => absurd ((no_in z3 z4).symm.trans h) (by decide)) (fun _ => ?_)⟩⟩
    have sp := same_new (o := .tup [V.str "truth", V.str "value"]) hp
    have hx2 := Td.mono (TS.of sp) _ _ hx
    generalize upd H p (.tup [V.str "truth", V.str "value"]) = H0 at sp hx2 ⊢
    obtain ⟨v, hv⟩ := tab_calls z hz
    obtain ⟨u, hu⟩ := KDct.in_ (T.kd_CALLS _ hv)
    refine ⟨_, rfl, z, some u, rfl, rfl, hu, _, rfl, iteT ?_⟩
    refine ⟨_, rfl, sl 1, fun l1 hl1 => ?_⟩
    have s1 := same_new (o := .lst [V.str z]) hl1
    have h1 : SL (upd H0 l1 (.lst [V.str z])) l1 ([z] : List Str) := upd_same
    have hx3 := Td.mono (TS.of s1) _ _ hx2
    generalize upd H0 l1 (.lst [V.str z]) = H1 at s1 h1 hx3 ⊢
    simp only [List.length_append, List.length_cons, List.length_nil] at len
    have lens : ∀ t ∈ tss, t.length ≤ 100000 := fun t h => Nat.le_trans (com_mem h) (by omega)
    have ne : ∀ t ∈ tss, t ≠ [] := fun t ht => by
      obtain ⟨d, _, l, he⟩ := All2.mem h2 ht
      exact ET.ne he
    refine ⟨_, rfl, _, rfl, slFD hx3 fun p5 H5 s5 hp5 => ?_⟩
    rw [cut_tail] at hp5
    obtain ⟨a, vs, rfl, ha, hvs⟩ := hp5
    have lv := TdAll.len _ _ hvs
    have lw := All2.len h2
    refine ⟨a, rfl, ⟨_, SqT.of ha⟩, fun D hD => parts_comp ha hD (tss := tss) (by omega) (by omega) ne ?_ ?_⟩
    · intro i v u H4 C C2 hi ht sm4 k
      have hil : i < ds.length := by
        have := (List.getElem?_eq_some_iff.mp hi).1
        omega
      obtain ⟨u', hu', l, he⟩ := All2.at h2 (List.getElem?_eq_getElem hil)
      rw [ht] at hu'
      cases hu'
      obtain ⟨v', hv1, hv2⟩ := TdAll.at i _ _ _ hvs (List.getElem?_eq_getElem hil)
      rw [hi] at hv1
      cases hv1
      exact ⟨rfl, yes ⟨_, rfl, rEx.one (Td.mono (TS.of sm4) _ _ hv2) he (lens _ (List.mem_of_getElem? ht)) k⟩⟩
    · intro H6 acc s6 h6 hps
      refine ⟨_, rfl, D, acc, tss, rfl, h6, hps, by rw [lstF_com ne]; omega, fun p7 H7 s7 h7 => ?_⟩
      rw [lstF_com ne] at h7
      refine catS (((h1.same s5).same s6).same s7) h7 (by simp only [List.length_append, List.length_cons, List.length_nil]; omega) fun p8 H8 s8 h8 => ?_
      exact q p8 H8 (((((sp.trans s1).trans s5).trans s6).trans s7).trans s8) h8
  · have hz := AO.word ao
    obtain ⟨b, xs, rfl, hb, _, r, rfl, rfl, hr'⟩ := id hx
    refine ⟨_, rfl, b, _, _, _, rfl, rfl, SqT.of hb, at_n 0 rfl, ?_⟩
    have z1 := (show ∀ z ∈ (["as", "when", "held", "merge", "here", "else", "fresh"] : List Str), ¬ z = "int" by decide +kernel) z hz
    have z2 := (show ∀ z ∈ (["as", "when", "held", "merge", "here", "else", "fresh"] : List Str), ¬ z = "name" by decide +kernel) z hz
    have z3 := (show ∀ z ∈ (["as", "when", "held", "merge", "here", "else", "fresh"] : List Str), ¬ z = "truth" by decide +kernel) z hz
    have z4 := (show ∀ z ∈ (["as", "when", "held", "merge", "here", "else", "fresh"] : List Str), ¬ z = "value" by decide +kernel) z hz
    refine ⟨_, rfl, rfl, _, rfl, ite2 (fun h => absurd h (st_ne z1)) (fun _ => ?_)⟩
    refine ⟨_, rfl, rfl, _, rfl, ite2 (fun h => absurd h (st_ne z2)) (fun _ => ?_)⟩
    refine ⟨_, rfl, sl 2, fun p hp => ⟨p, _, rfl, .inr (SqT.of upd_same), rfl, rfl, _, rfl, ite2 (fun h => absurd ((no_in z3 z4).symm.trans h) (by decide)) (fun _ => ?_)⟩⟩
    have sp := same_new (o := .tup [V.str "truth", V.str "value"]) hp
    have hx2 := Td.mono (TS.of sp) _ _ hx
    generalize upd H p (.tup [V.str "truth", V.str "value"]) = H0 at sp hx2 ⊢
    have hn := T.no_CALLS z ((show ∀ z ∈ (["as", "when", "held", "merge", "here", "else", "fresh"] : List Str), z ∈ not_CALLS by decide +kernel) z hz)
    refine ⟨_, rfl, z, none, rfl, rfl, hn, _, rfl, iteF ?_⟩
    refine ⟨_, rfl, sl 1, fun l1 hl1 => ?_⟩
    have s1 := same_new (o := .lst [V.str z]) hl1
    have h1 : SL (upd H0 l1 (.lst [V.str z])) l1 ([z] : List Str) := upd_same
    have hx3 := Td.mono (TS.of s1) _ _ hx2
    generalize upd H0 l1 (.lst [V.str z]) = H1 at s1 h1 hx3 ⊢
    simp only [List.length_append, List.length_cons, List.length_nil] at len
    have ne := AO.ne (fun d t ⟨l, he⟩ => ET.ne he) ao
    refine ⟨_, rfl, _, rfl, z, ds, tss, hx3, ao, by omega, fun p5 H5 acc s5 h5 hps => ?_⟩
    refine ⟨_, rfl, p5, acc, tss, rfl, h5, hps, by rw [lstF_com ne]; omega, fun p7 H7 s7 h7 => ?_⟩
    rw [lstF_com ne] at h7
    refine catS ((h1.same s5).same s7) h7 (by simp only [List.length_append, List.length_cons, List.length_nil]; omega) fun p8 H8 s8 h8 => ?_
    exact q p8 H8 ((((sp.trans s1).trans s5).trans s7).trans s8) h8
end

section
variable {P : Program} {w : World} {K : PySem.W.Frag} {mg : Str → Option Value} {base : Heap}
theorem sgs_tab : ∀ g ∈ sgs, (g.1, V.str g.2.1) ∈ tab_SIGNS ∧ (g.2.1, V.int ((g.2.2 + 1 : Nat) : Int)) ∈ tab_LEVELS ∧ g.2.2 ≤ 6 ∧ inV (V.int ((g.2.2 + 1 : Nat) : Int)) [.int 1, .int 5] = decide (g.2.2 = 0 ∨ g.2.2 = 4) := by decide +kernel
theorem frs_tab : ∀ g ∈ frs, (g.1, V.str g.2) ∈ tab_FRONTS ∧ g.1 ∈ not_SIGNS := by decide +kernel
theorem BT.word {n : Nat} {d : PyData} {ts : List Str} (h : BT n d ts) : ∃ (z : Str) (ds : List PyData), d = .tuple (.str z :: ds) ∧ z ∈ not_SIGNS ∧ z ∈ not_FRONTS := by
  rcases h with ⟨i, oi, rfl, rfl⟩ | ⟨nm, on, rfl, rfl⟩ | (⟨_, _, rfl, _⟩ | ⟨_, _, _, _, rfl, _⟩) | ⟨z, ds, tss, hz, l7, h2, rfl, rfl⟩ | ⟨z, ds, tss, ao, rfl, rfl⟩
  · exact ⟨_, _, rfl, by decide +kernel, by decide +kernel⟩
  · exact ⟨_, _, rfl, by decide +kernel, by decide +kernel⟩
  · exact ⟨_, _, rfl, by decide +kernel, by decide +kernel⟩
  · exact ⟨_, _, rfl, by decide +kernel, by decide +kernel⟩
  · obtain ⟨h1, h2⟩ := (show ∀ z ∈ nary, z ∈ not_SIGNS ∧ z ∈ not_FRONTS by decide +kernel) z hz
    exact ⟨_, _, rfl, h1, h2⟩
  · obtain ⟨h1, h2⟩ := (show ∀ z ∈ (["as", "when", "held", "merge", "here", "else", "fresh"] : List Str), z ∈ not_SIGNS ∧ z ∈ not_FRONTS by decide +kernel) z (AO.word ao)
    exact ⟨_, _, rfl, h1, h2⟩
theorem ET.split {n : Nat} {d : PyData} {ts : List Str} {l : Nat} (h : ET (n + 1) d ts l) :
    (∃ (g : Str × Str × Nat) (d1 d2 : PyData) (t1 t2 : List Str) (l1 l2 : Nat), g ∈ sgs ∧ ET n d1 t1 l1 ∧ ET n d2 t2 l2 ∧ d = .tuple [.str g.1, d1, d2] ∧ l = g.2.2 ∧ ts = wr (decide (l1 < lefL g.2.2)) t1 ++ [g.2.1] ++ wr (decide (l2 < rigL g.2.2)) t2) ∨
    (∃ (g : Str × Str) (d1 : PyData) (t1 : List Str) (l1 : Nat), g ∈ frs ∧ ET n d1 t1 l1 ∧ d = .tuple [.str g.1, d1] ∧ l = 7 ∧ ts = [g.2] ++ wr (decide (l1 < flst g.1 d1)) t1) ∨
    (BT n d ts ∧ 7 ≤ l) := by
  rcases h with ⟨i, oi, rfl, rfl, rfl⟩ | ⟨s, os, rfl, rfl, rfl⟩ | ⟨h, rfl⟩ | h | h | ⟨z, ds, tss, hz, rfl, rfl, rfl⟩
  · refine .inr (.inr ⟨.inl ⟨i, oi, rfl, rfl⟩, ?_⟩)
    by_cases h : i < 0
    · rw [if_pos h]; omega
    · rw [if_neg h]; omega
  · exact .inr (.inr ⟨.inr (.inl ⟨s, os, rfl, rfl⟩), by omega⟩)
  · exact .inr (.inr ⟨.inr (.inr (.inl h)), by omega⟩)
  · exact .inl h
  · exact .inr (.inl h)
  · rcases hz with ⟨h1, _, h3, h4⟩ | h
    · exact .inr (.inr ⟨.inr (.inr (.inr (.inl ⟨z, ds, tss, h1, h3, h4, rfl, rfl⟩))), by omega⟩)
    · exact .inr (.inr ⟨.inr (.inr (.inr (.inr ⟨z, ds, tss, h, rfl, rfl⟩))), by omega⟩)
theorem wr_len {b : Bool} {ts : List Str} : ts.length ≤ (wr b ts).length ∧ (wr b ts).length ≤ ts.length + 2 := by
  unfold wr
  cases b with
  | true =>
    rw [if_pos rfl]
    simp only [List.length_append, List.length_cons, List.length_nil]
    omega
  | false =>
    rw [if_neg (by simp)]
    omega
theorem rec_ex (T : Tx K mg w) (n : Nat) (ih : FnOk P w K mg base CX0 (4 * n + 3) T.f_expr_tokens T.fd_expr_tokens ["expr", "floor"] (sp2 (rEx n))) : FnOk P w K mg base CX0 (4 * (n + 1) + 3) T.f_expr_tokens T.fd_expr_tokens ["expr", "floor"] (sp2 (rEx (n + 1))) := by
  have ihF := rec_front (P := P) (base := base) T n ih
  have ihB := rec_bot (P := P) (base := base) T n ih
  refine okR2 T.F_expr_tokens sc_expr_tokens rfl fun cdv A outer s H Q EE x y hr h => ?_
  obtain ⟨d, ts, l, fl, rfl, f1, f8, hx, he, len, q⟩ := h
  refine ⟨_, pss_cons (ps_set (i := 2) sc_expr_tokens.nd rfl (Or.inl rfl) (pe_ix ix_tup (pv 0) pe_int (fun _ _ => rfl)))
      (C8.pss_cut (ps_if (pt_cmpR (op_in_kd T.kx_SIGNS) (pv 2) (pe_glob (v := .ref (He.ga K "SIGNS")) rfl T.mg_SIGNS rfl) (by rfl)) (pss_cons (ps_set (i := 3) sc_expr_tokens.nd rfl (Or.inl rfl) (pe_ix ix_kdict (pe_glob (v := .ref (He.ga K "LEVELS")) rfl T.mg_LEVELS rfl) (pe_ix ix_kdict (pe_glob (v := .ref (He.ga K "SIGNS")) rfl T.mg_SIGNS rfl) (pv 2) (fun _ _ => rfl)) (fun _ _ => rfl)))
      (pss_cons (ps_set (i := 4) sc_expr_tokens.nd rfl (Or.inl rfl) (pe_ifExp (pt_cmpR op_in_seq (pv 3) (pe_tup (pa_cons (pe_glob (v := .int 1) rfl T.mg_THEN ⟨_, rfl⟩) (pa_cons (pe_glob (v := .int 5) rfl T.mg_COMPARING ⟨_, rfl⟩) pa_nil))) (by rfl)) (pe_op op_add (pv 3) pe_int) (pv 3)))
      (pss_cons (ps_set (i := 5) sc_expr_tokens.nd rfl (Or.inl rfl) (pe_ifExp (pt_cmpR op_eq (pv 3) (pe_glob (v := .int 1) rfl T.mg_THEN ⟨_, rfl⟩) (nomark _)) (pv 3) (pe_op op_add (pv 3) pe_int)))
      (pss_one (ps_set (i := 6) sc_expr_tokens.nd rfl (Or.inl rfl) (pe_op op_cat (pe_op op_cat (pe_call ih (hr.mono (by omega)) rfl T.m_expr_tokens T.F_expr_tokens.kp T.b_expr_tokens .nil pass0 (pa_cons (pe_ix ix_tup (pv 0) pe_int (fun _ _ => rfl)) (pa_cons (pv 4) pa_nil))) (pe_lst (pa_cons (pe_ix ix_kdict (pe_glob (v := .ref (He.ga K "SIGNS")) rfl T.mg_SIGNS rfl) (pv 2) (fun _ _ => rfl)) pa_nil))) (pe_call ih (hr.mono (by omega)) rfl T.m_expr_tokens T.F_expr_tokens.kp T.b_expr_tokens .nil pass0 (pa_cons (pe_ix ix_tup (pv 0) pe_int (fun _ _ => rfl)) (pa_cons (pv 5) pa_nil))))))))) (pss_one (ps_if (pt_cmpR (op_in_kd T.kx_FRONTS) (pv 2) (pe_glob (v := .ref (He.ga K "FRONTS")) rfl T.mg_FRONTS rfl) (by rfl)) (pss_cons (ps_set (i := 3) sc_expr_tokens.nd rfl (Or.inl rfl) (pe_glob (v := .int 8) rfl T.mg_FRONT ⟨_, rfl⟩))
      (pss_one (ps_set (i := 6) sc_expr_tokens.nd rfl (Or.inl rfl) (pe_op op_cat (pe_lst (pa_cons (pe_ix ix_kdict (pe_glob (v := .ref (He.ga K "FRONTS")) rfl T.mg_FRONTS rfl) (pv 2) (fun _ _ => rfl)) pa_nil)) (pe_call ihF (hr.mono (by omega)) rfl T.m_front_operand T.F_front_operand.kp T.b_front_operand .nil pass0 (pa_cons (pv 2) (pa_cons (pe_ix ix_tup (pv 0) pe_int (fun _ _ => rfl)) pa_nil))))))) (pss_cons (ps_set (i := 3) sc_expr_tokens.nd rfl (Or.inl rfl) (pe_glob (v := .int 9) rfl T.mg_BOTTOM ⟨_, rfl⟩))
      (pss_one (ps_set (i := 6) sc_expr_tokens.nd rfl (Or.inl rfl) (pe_call ihB (hr.mono (by omega)) rfl T.m_bottom_tokens T.F_bottom_tokens.kp T.b_bottom_tokens .nil pass0 (pa_cons (pv 0) pa_nil))))))))
      (pss_one (ps_ret (pe_ifExp (pt_cmpR op_ge (pv 3) (pv 1) (nomark _)) (pv 6) (pe_op op_cat (pe_op op_cat (pe_lst (pa_cons pe_str pa_nil)) (pv 6)) (pe_lst (pa_cons pe_str pa_nil))))))), ?_⟩
  obtain ⟨z, ds, dz⟩ : ∃ (z : Str) (ds : List PyData), d = .tuple (.str z :: ds) := by
    obtain ⟨z, ds, e, _⟩ := ET.head he
    exact ⟨z, ds, e⟩
  subst dz
  obtain ⟨b, xs, rfl, hb, _, r, rfl, rfl, hr'⟩ := id hx
  refine ⟨_, rfl, b, _, _, _, rfl, rfl, SqT.of hb, at_n 0 rfl, ?_⟩
  refine ⟨fun σ H1 => ∃ (p : Addr) (lv : Nat) (a4 a5 : Option V), σ = [some (.ref b), some (.int (fl : Int)), some (.str z), some (.int (lv : Int)), a4, a5, some (.ref p)] ∧ Same H H1 ∧ SL H1 p ts ∧ decide (lv < fl) = decide (l + 1 < fl), ?_, ?_⟩
  · rcases ET.split he with ⟨g, d1, d2, t1, t2, l1, l2', hg, e1, e2, ed, rfl, rfl⟩ | ⟨g, d1, t1, l1, hg, e1, ed, rfl, rfl⟩ | ⟨bt, l7⟩
    · injection ed with ed
      injection ed with ez ed
      injection ez with ez
      subst ez
      subst ed
      obtain ⟨v1, _, rfl, hv1, v2, _, rfl, hv2, rfl⟩ := hr'
      obtain ⟨k1, k2, m6, iv⟩ := sgs_tab g hg
      obtain ⟨u, hu⟩ := KDct.in_ (T.kd_SIGNS _ k1)
      simp only [List.length_append, List.length_cons, List.length_nil] at len
      have w1 := @wr_len (decide (l1 < lefL g.2.2)) t1
      have w2 := @wr_len (decide (l2' < rigL g.2.2)) t2
      have lef : lefL g.2.2 = if g.2.2 = 0 ∨ g.2.2 = 4 then g.2.2 + 1 else g.2.2 := rfl
      have rig : rigL g.2.2 = if g.2.2 = 0 then 0 else g.2.2 + 1 := rfl
      refine ⟨_, rfl, _, some u, rfl, rfl, hu, _, rfl, iteT ?_⟩
      refine ⟨_, rfl, _, _, _, rfl, rfl, T.kd_SIGNS _ k1, _, _, _, rfl, rfl, T.kd_LEVELS _ k2, ?_⟩
      refine ⟨_, rfl, sl 2, fun p0 hp0 => ⟨p0, _, rfl, .inr (SqT.of upd_same), rfl, rfl, _, rfl, ?_⟩⟩
      have s0 := same_new (o := .tup [V.int 1, V.int 5]) hp0
      have hv1 := Td.mono (TS.of s0) _ _ hv1
      have hv2 := Td.mono (TS.of s0) _ _ hv2
      have hb := s0 _ _ hb
      generalize upd H p0 (.tup [V.int 1, V.int 5]) = H0 at s0 hv1 hv2 hb ⊢
      by_cases m0 : g.2.2 = 0
      · rw [if_pos (.inl m0)] at lef
        rw [if_pos m0] at rig
        refine ite2 (fun _ => ?_) (fun h => absurd (iv.trans (decide_eq_true (.inl m0))) h)
        refine ⟨_, rfl, _, _, rfl, rfl, ?_⟩
        refine ⟨_, rfl, rfl, _, rfl, ite2 (fun _ => ?_) (fun h => absurd (decide_eq_true (congrArg V.int (by omega))) h)⟩
        refine ⟨_, rfl, ?_⟩
        refine ⟨_, rfl, b, _, _, _, rfl, rfl, SqT.of hb, at_n 1 rfl, _, rfl, _, _, rfl, d1, t1, l1, lefL g.2.2 + 1, congrArg V.int (by omega), by omega, by omega, hv1, e1, by omega, fun p1 H1 s1 h1 => ?_⟩
        rw [show decide (l1 + 1 < lefL g.2.2 + 1) = decide (l1 < lefL g.2.2) from decide_eq_decide.mpr (by omega)] at h1
        refine ⟨_, rfl, _, _, _, rfl, rfl, T.kd_SIGNS _ k1, sl 1, fun l2 hl2 => ?_⟩
        have s2 := same_new (o := .lst [V.str g.2.1]) hl2
        refine catS (h1.same s2) (us := [g.2.1]) upd_same (by simp only [List.length_append, List.length_cons, List.length_nil]; omega) fun p3 H3 s3 h3 => ?_
        have s13 := (s1.trans s2).trans s3
        refine ⟨_, rfl, b, _, _, _, rfl, rfl, SqT.of (s13 _ _ hb), at_n 2 rfl, _, rfl, _, _, rfl, d2, t2, l2', rigL g.2.2 + 1, congrArg V.int (by omega), by omega, by omega, Td.mono (TS.of s13) _ _ hv2, e2, by omega, fun p4 H4 s4 h4 => ?_⟩
        rw [show decide (l2' + 1 < rigL g.2.2 + 1) = decide (l2' < rigL g.2.2) from decide_eq_decide.mpr (by omega)] at h4
        refine catS (h3.same s4) h4 (by simp only [List.length_append, List.length_cons, List.length_nil]; omega) fun p5 H5 s5 h5 => ?_
        exact ⟨p5, g.2.2 + 1, _, _, rfl, ((s0.trans s13).trans s4).trans s5, h5, rfl⟩
      · rw [if_neg m0] at rig
        by_cases m4 : g.2.2 = 4
        · rw [if_pos (.inr m4)] at lef
          refine ite2 (fun _ => ?_) (fun h => absurd (iv.trans (decide_eq_true (.inr m4))) h)
          refine ⟨_, rfl, _, _, rfl, rfl, ?_⟩
          refine ⟨_, rfl, rfl, _, rfl, ite2 (fun h => absurd (V.int.inj (of_decide_eq_true h)) (by omega)) (fun _ => ?_)⟩
          refine ⟨_, rfl, _, _, rfl, rfl, ?_⟩
          refine ⟨_, rfl, b, _, _, _, rfl, rfl, SqT.of hb, at_n 1 rfl, _, rfl, _, _, rfl, d1, t1, l1, lefL g.2.2 + 1, congrArg V.int (by omega), by omega, by omega, hv1, e1, by omega, fun p1 H1 s1 h1 => ?_⟩
          rw [show decide (l1 + 1 < lefL g.2.2 + 1) = decide (l1 < lefL g.2.2) from decide_eq_decide.mpr (by omega)] at h1
          refine ⟨_, rfl, _, _, _, rfl, rfl, T.kd_SIGNS _ k1, sl 1, fun l2 hl2 => ?_⟩
          have s2 := same_new (o := .lst [V.str g.2.1]) hl2
          refine catS (h1.same s2) (us := [g.2.1]) upd_same (by simp only [List.length_append, List.length_cons, List.length_nil]; omega) fun p3 H3 s3 h3 => ?_
          have s13 := (s1.trans s2).trans s3
          refine ⟨_, rfl, b, _, _, _, rfl, rfl, SqT.of (s13 _ _ hb), at_n 2 rfl, _, rfl, _, _, rfl, d2, t2, l2', rigL g.2.2 + 1, congrArg V.int (by omega), by omega, by omega, Td.mono (TS.of s13) _ _ hv2, e2, by omega, fun p4 H4 s4 h4 => ?_⟩
          rw [show decide (l2' + 1 < rigL g.2.2 + 1) = decide (l2' < rigL g.2.2) from decide_eq_decide.mpr (by omega)] at h4
          refine catS (h3.same s4) h4 (by simp only [List.length_append, List.length_cons, List.length_nil]; omega) fun p5 H5 s5 h5 => ?_
          exact ⟨p5, g.2.2 + 1, _, _, rfl, ((s0.trans s13).trans s4).trans s5, h5, rfl⟩
        · rw [if_neg (fun h => h.elim m0 m4)] at lef
          refine ite2 (fun h => absurd (iv.symm.trans h) (by rw [decide_eq_false (fun h => h.elim m0 m4)]; decide)) (fun _ => ?_)
          refine ⟨_, rfl, ?_⟩
          refine ⟨_, rfl, rfl, _, rfl, ite2 (fun h => absurd (V.int.inj (of_decide_eq_true h)) (by omega)) (fun _ => ?_)⟩
          refine ⟨_, rfl, _, _, rfl, rfl, ?_⟩
          refine ⟨_, rfl, b, _, _, _, rfl, rfl, SqT.of hb, at_n 1 rfl, _, rfl, _, _, rfl, d1, t1, l1, lefL g.2.2 + 1, congrArg V.int (by omega), by omega, by omega, hv1, e1, by omega, fun p1 H1 s1 h1 => ?_⟩
          rw [show decide (l1 + 1 < lefL g.2.2 + 1) = decide (l1 < lefL g.2.2) from decide_eq_decide.mpr (by omega)] at h1
          refine ⟨_, rfl, _, _, _, rfl, rfl, T.kd_SIGNS _ k1, sl 1, fun l2 hl2 => ?_⟩
          have s2 := same_new (o := .lst [V.str g.2.1]) hl2
          refine catS (h1.same s2) (us := [g.2.1]) upd_same (by simp only [List.length_append, List.length_cons, List.length_nil]; omega) fun p3 H3 s3 h3 => ?_
          have s13 := (s1.trans s2).trans s3
          refine ⟨_, rfl, b, _, _, _, rfl, rfl, SqT.of (s13 _ _ hb), at_n 2 rfl, _, rfl, _, _, rfl, d2, t2, l2', rigL g.2.2 + 1, congrArg V.int (by omega), by omega, by omega, Td.mono (TS.of s13) _ _ hv2, e2, by omega, fun p4 H4 s4 h4 => ?_⟩
          rw [show decide (l2' + 1 < rigL g.2.2 + 1) = decide (l2' < rigL g.2.2) from decide_eq_decide.mpr (by omega)] at h4
          refine catS (h3.same s4) h4 (by simp only [List.length_append, List.length_cons, List.length_nil]; omega) fun p5 H5 s5 h5 => ?_
          exact ⟨p5, g.2.2 + 1, _, _, rfl, ((s0.trans s13).trans s4).trans s5, h5, rfl⟩
    · injection ed with ed
      injection ed with ez ed
      injection ez with ez
      subst ez
      subst ed
      obtain ⟨v1, _, rfl, hv1, rfl⟩ := hr'
      obtain ⟨k1, k2⟩ := frs_tab g hg
      obtain ⟨u, hu⟩ := KDct.in_ (T.kd_FRONTS _ k1)
      refine ⟨_, rfl, _, none, rfl, rfl, T.no_SIGNS _ k2, _, rfl, iteF ?_⟩
      refine ⟨_, rfl, _, some u, rfl, rfl, hu, _, rfl, iteT ?_⟩
      refine ⟨_, rfl, _, _, _, rfl, rfl, T.kd_FRONTS _ k1, sl 1, fun l2 hl2 => ?_⟩
      have s2 := same_new (o := .lst [V.str g.2]) hl2
      have w1 := @wr_len (decide (l1 < flst g.1 d1)) t1
      simp only [List.length_append, List.length_cons, List.length_nil] at len
      refine ⟨_, rfl, _, rfl, b, _, _, _, rfl, rfl, SqT.of (s2 _ _ hb), at_n 1 rfl, _, _, rfl, _, d1, t1, l1, rfl, Td.mono (TS.of s2) _ _ hv1, e1, by omega, fun p3 H3 s3 h3 => ?_⟩
      refine catS (ts := [g.2]) (s3 _ _ upd_same) h3 (by simp only [List.length_append, List.length_cons, List.length_nil]; omega) fun p5 H5 s5 h5 => ?_
      exact ⟨p5, 8, none, none, rfl, (s2.trans s3).trans s5, h5, rfl⟩
    · obtain ⟨z', ds', ez, n1, n2⟩ := BT.word bt
      injection ez with ez
      injection ez with ez _
      injection ez with ez
      subst ez
      refine ⟨_, rfl, z, none, rfl, rfl, T.no_SIGNS z n1, _, rfl, iteF ?_⟩
      refine ⟨_, rfl, z, none, rfl, rfl, T.no_FRONTS z n2, _, rfl, iteF ?_⟩
      refine ⟨_, rfl, _, rfl, _, ts, hx, bt, len, fun p H' s h => ⟨p, 9, none, none, rfl, s, h, ?_⟩⟩
      exact decide_eq_decide.mpr (by omega)
  · rintro σ H1 ⟨p, lv, a4, a5, rfl, s1, h1, hd⟩
    refine ⟨_, rfl, _, rfl, _, _, rfl, rfl, _, rfl, ite2 (fun h => ?_) (fun h => ?_)⟩
    · have h' : (fl : Int) ≤ (lv : Int) := of_decide_eq_true h
      refine ⟨_, rfl, q p H1 s1 ?_⟩
      rw [← hd, decide_eq_false (by omega)]
      exact h1
    · have h' : ¬ (fl : Int) ≤ (lv : Int) := fun z => h (decide_eq_true z)
      refine ⟨sl 1, fun l2 hl2 => ?_⟩
      have s2 := same_new (o := .lst [V.str "("]) hl2
      refine ⟨_, rfl, ?_⟩
      refine catS (ts := ["("]) upd_same (h1.same s2) (by simp only [List.length_cons, List.length_nil]; omega) fun p3 H3 s3 h3 => ?_
      refine ⟨sl 1, fun l4 hl4 => ?_⟩
      have s4 := same_new (o := .lst [V.str ")"]) hl4
      refine catS (h3.same s4) (us := [")"]) upd_same (by simp only [List.length_append, List.length_cons, List.length_nil]; omega) fun p5 H5 s5 h5 => ?_
      refine q p5 H5 ((((s1.trans s2).trans s3).trans s4).trans s5) ?_
      rw [← hd, decide_eq_true (by omega : lv < fl)]
      exact h5
end

def tk (ts : List Str) : Prop := ∀ t ∈ ts, t.length ≤ 12
theorem tk.nil : tk [] := fun _ h => by cases h
theorem tk.cons {a : Str} {ts : List Str} (h : a.length ≤ 12) (k : tk ts) : tk (a :: ts) := fun t ht => by
  rcases List.mem_cons.mp ht with rfl | ht
  · exact h
  · exact k t ht
theorem tk.app {a b : List Str} (h : tk a) (k : tk b) : tk (a ++ b) := fun t ht => by
  rcases List.mem_append.mp ht with ht | ht
  · exact h t ht
  · exact k t ht
theorem tk.name {s : Str} (h : okN s) : s.length ≤ 12 := Nat.le_trans h (by decide)
theorem sI_pos : ∀ n : Fin 2001, (sI ((n.1 : Nat) : Int)).length ≤ 12 := by decide +kernel
theorem sI_neg : ∀ n : Fin 2001, (sI (-((n.1 : Nat) : Int))).length ≤ 12 := by decide +kernel
theorem tk.int {i : Int} (h : okI i) : (sI i).length ≤ 12 := by
  unfold okI at h
  by_cases z : 0 ≤ i
  · have := sI_pos ⟨i.toNat, by omega⟩
    rw [show (((⟨i.toNat, by omega⟩ : Fin 2001).1 : Nat) : Int) = i by show ((i.toNat : Nat) : Int) = i; omega] at this
    exact this
  · have := sI_neg ⟨(-i).toNat, by omega⟩
    rw [show -(((⟨(-i).toNat, by omega⟩ : Fin 2001).1 : Nat) : Int) = i by show -(((-i).toNat : Nat) : Int) = i; omega] at this
    exact this
theorem tk.intT {i : Int} (h : okI i) : tk (intT i) := by
  unfold My.intT
  by_cases z : i < 0
  · rw [if_pos z]
    exact tk.cons (by decide +kernel) (tk.cons (tk.int (by unfold okI at *; rw [Int.natAbs_neg]; exact h)) tk.nil)
  · rw [if_neg z]
    exact tk.cons (tk.int h) tk.nil
theorem tk.wr {b : Bool} {ts : List Str} (h : tk ts) : tk (wr b ts) := by
  unfold My.wr
  cases b with
  | true => exact (tk.app (tk.cons (by decide +kernel) tk.nil) h).app (tk.cons (by decide +kernel) tk.nil)
  | false => exact h
theorem tk.com {tss : List (List Str)} (h : ∀ t ∈ tss, tk t) : tk (comL tss) := by
  cases tss with
  | nil => exact tk.nil
  | cons t r =>
    refine tk.app (h t List.mem_cons_self) fun s hs => ?_
    obtain ⟨u, hu, hs⟩ := List.mem_flatten.mp hs
    obtain ⟨v, hv, rfl⟩ := List.mem_map.mp hu
    exact tk.cons (by decide +kernel) (h v (List.mem_cons_of_mem _ hv)) s hs
theorem KB.tk {d : PyData} {ts : List Str} (h : KB d ts) : tk ts := by
  rcases h with ⟨_, rfl⟩ | ⟨_, o, _, rfl⟩ | ⟨ns, o, _, _, _, rfl⟩ | ⟨lo, hi, per, how, o1, o2, o3, _, o4, _, rfl⟩
  · exact tk.cons (by decide +kernel) tk.nil
  · exact tk.cons (tk.name o) tk.nil
  · refine tk.app (tk.app (tk.cons (by decide +kernel) (tk.cons (by decide +kernel) tk.nil)) (tk.com fun t ht => ?_)) (tk.cons (by decide +kernel) tk.nil)
    obtain ⟨s, hs, rfl⟩ := List.mem_map.mp ht
    exact tk.cons (tk.name (o s hs)) tk.nil
  · refine tk.app (tk.app (tk.app (tk.app (tk.app (tk.cons (by decide +kernel) tk.nil) (tk.intT o1)) (tk.cons (by decide +kernel) tk.nil)) (tk.intT o2)) ?_) (tk.cons (tk.name o4) tk.nil)
    by_cases h : per = 1
    · rw [if_pos h]; exact tk.nil
    · rw [if_neg h]; exact tk.cons (by decide +kernel) (tk.cons (tk.int o3) tk.nil)
theorem KT.tk : ∀ {n : Nat} {d : PyData} {ts : List Str}, KT n d ts → tk ts
  | 0, _, _, h => KB.tk h
  | n + 1, _, _, h => by
    rcases h with h | ⟨_, _, t, h, o, _, _, rfl⟩
    · exact KB.tk h
    · exact tk.app (tk.cons (by decide +kernel) (tk.cons (tk.int o) (tk.cons (by decide +kernel) tk.nil))) (KT.tk h)
theorem VT.tk {d : PyData} {ts : List Str} (h : VT d ts) : tk ts := by
  rcases h with ⟨b, _, _, rfl⟩ | ⟨_, _, o1, o2, _, rfl⟩
  · refine tk.cons ?_ tk.nil
    by_cases h : b = 1
    · rw [if_pos h]; decide +kernel
    · rw [if_neg h]; decide +kernel
  · exact tk.cons (tk.name o1) (tk.cons (by decide +kernel) (tk.cons (tk.name o2) tk.nil))
theorem LT.tk {d : PyData} {ts : List Str} (h : LT d ts) : tk ts := by
  rcases h with ⟨_, _, o1, o2, _, _, _, rfl⟩ | ⟨_, _, t, o, h, _, rfl⟩
  · exact tk.cons (by decide +kernel) (tk.cons (tk.int o1) (tk.cons (by decide +kernel) (tk.cons (tk.int o2) tk.nil)))
  · exact tk.app (tk.cons (tk.name o) (tk.cons (by decide +kernel) tk.nil)) (VT.tk h)
theorem AO.tk {R : PyData → List Str → Prop} (hR : ∀ d t, R d t → My.tk t) {z : Str} {ds : List PyData} {tss : List (List Str)} (h : AO R z ds tss) : ∀ t ∈ tss, My.tk t := by
  rcases h with ⟨_, d, k, t, u, h1, h2, _, rfl⟩ | ⟨_, d, k, t, u, h1, h2, _, rfl⟩ | ⟨_, d, e, k, t, u, v, h1, h2, h3, _, rfl⟩ | ⟨_, s, as, us, o, _, h2, _, rfl⟩ | ⟨_, s, o, _, rfl⟩ | ⟨_, s, d, t, o, h1, _, rfl⟩ | ⟨_, s, m, d, t, o, om, _, h1, _, rfl⟩ <;> intro x hx
  · simp only [List.mem_cons, List.not_mem_nil, or_false] at hx
    rcases hx with rfl | rfl
    · exact hR _ _ h1
    · exact KT.tk h2
  · simp only [List.mem_cons, List.not_mem_nil, or_false] at hx
    rcases hx with rfl | rfl
    · exact hR _ _ h1
    · exact LT.tk h2
  · simp only [List.mem_cons, List.not_mem_nil, or_false] at hx
    rcases hx with rfl | rfl | rfl
    · exact hR _ _ h1
    · exact hR _ _ h2
    · exact LT.tk h3
  · rcases List.mem_cons.mp hx with rfl | hx
    · exact tk.cons (tk.name o) tk.nil
    · obtain ⟨_, _, v, e, t, y, h3, h4, _, rfl⟩ := All2.mem h2 hx
      exact tk.app (tk.app (VT.tk h3) (tk.cons (by decide +kernel) tk.nil)) (hR _ _ h4)
  · simp only [List.mem_cons, List.not_mem_nil, or_false] at hx
    rw [hx]
    exact tk.cons (tk.name o) tk.nil
  · simp only [List.mem_cons, List.not_mem_nil, or_false] at hx
    rcases hx with rfl | rfl
    · exact tk.cons (tk.name o) tk.nil
    · exact hR _ _ h1
  · simp only [List.mem_cons, List.not_mem_nil, or_false] at hx
    rcases hx with rfl | rfl | rfl
    · exact tk.cons (tk.name o) tk.nil
    · exact tk.cons (tk.int om) tk.nil
    · exact hR _ _ h1
theorem ET.tk : ∀ {n : Nat} {d : PyData} {ts : List Str} {l : Nat}, ET n d ts l → My.tk ts
  | n + 1, d, ts, l, h => by
    have ih : ∀ d t, (∃ l, ET n d t l) → My.tk t := fun d t ⟨l, h⟩ => ET.tk h
    have call : ∀ {w : Str} {tss : List (List Str)}, w.length ≤ 12 → (∀ t ∈ tss, My.tk t) → My.tk ([w] ++ ((["("] : List Str) ++ comL tss ++ ([")"] : List Str))) := fun hw h => tk.app (tk.cons hw tk.nil) (tk.app (tk.app (tk.cons (by decide +kernel) tk.nil) (tk.com h)) (tk.cons (by decide +kernel) tk.nil))
    rcases ET.split h with ⟨g, _, _, t1, t2, _, _, hg, h1, h2, _, _, rfl⟩ | ⟨g, _, t1, _, hg, h1, _, _, rfl⟩ | ⟨⟨i, o, _, rfl⟩ | ⟨s, o, _, rfl⟩ | h | ⟨w, ds, tss, hw, _, h2, _, rfl⟩ | ⟨w, ds, tss, ao, _, rfl⟩, _⟩
    · exact tk.app (tk.app (tk.wr (ET.tk h1)) (tk.cons ((show ∀ g ∈ sgs, g.2.1.length ≤ 12 by decide +kernel) g hg) tk.nil)) (tk.wr (ET.tk h2))
    · exact tk.app (tk.cons ((show ∀ g ∈ frs, g.2.length ≤ 12 by decide +kernel) g hg) tk.nil) (tk.wr (ET.tk h1))
    · exact tk.intT o
    · exact tk.cons (tk.name o) tk.nil
    · exact VT.tk h
    · refine call ((show ∀ w ∈ nary, w.length ≤ 12 by decide +kernel) w hw) fun t ht => ?_
      obtain ⟨d, _, h⟩ := All2.mem h2 ht
      exact ih _ _ h
    · exact call ((show ∀ z ∈ (["as", "when", "held", "merge", "here", "else", "fresh"] : List Str), z.length ≤ 12 by decide +kernel) w (AO.word ao)) (AO.tk ih ao)
theorem tk.sum : ∀ {ts : List Str}, tk ts → (ts.map (·.length)).sum ≤ 12 * ts.length
  | [], _ => Nat.le_refl _
  | t :: r, h => by
    have h1 := h t List.mem_cons_self
    have h2 := tk.sum (ts := r) fun s hs => h s (List.mem_cons_of_mem _ hs)
    rw [List.map_cons, List.sum_cons, List.length_cons]
    omega
theorem tk.join {ts : List Str} (h : tk ts) (l : ts.length ≤ 5000) : (ts.map (·.length)).sum + ts.length * (" " : Str).length ≤ 16777216 := by
  have h1 := tk.sum h
  have h2 : (" " : Str).length = 1 := by decide +kernel
  rw [h2]
  omega
def rWrE : V → Hp → VK → Prop := fun x H Q => ∃ (d : PyData) (ts : List Str) (l : Nat), Td H d x ∧ ET 30 d ts l ∧ ts.length ≤ 5000 ∧ ∀ H' : Hp, Same H H' → Q (.str (Txt.join " " ts)) H'
def rWrK : V → Hp → VK → Prop := fun x H Q => ∃ (d : PyData) (ts : List Str), Td H d x ∧ KT 2 d ts ∧ ∀ H' : Hp, Same H H' → Q (.str (Txt.join " " ts)) H'
section
variable {P : Program} {w : World} {K : PySem.W.Frag} {mg : Str → Option Value} {base : Heap}
theorem rec_all (T : Tx K mg w) : ∀ n, FnOk P w K mg base CX0 (4 * n + 3) T.f_expr_tokens T.fd_expr_tokens ["expr", "floor"] (sp2 (rEx n))
  | 0 => by
    refine okR2 T.F_expr_tokens sc_expr_tokens rfl fun cdv A outer s H Q EE x y hr h => ?_
    obtain ⟨_, _, _, _, _, _, _, _, he, _⟩ := h
    exact he.elim
  | n + 1 => rec_ex T n (rec_all T n)
theorem ok_expr_tokens (T : Tx K mg w) : FnOk P w K mg base CX0 123 T.f_expr_tokens T.fd_expr_tokens ["expr", "floor"] (sp2 (rEx 30)) := rec_all T 30
end

/-- one of some values: of a list that stands at p, or the signs of a text -/
def rPick : V → V → Hp → VK → Prop := fun x y H Q => ∃ (d c : Addr) (items : List V), x = .ref d ∧ Dr d c H ∧ items ≠ [] ∧ items.length ≤ 1000000 ∧
  ((∃ p, y = .ref p ∧ p ≠ d ∧ H p = some (.lst items)) ∨ ∃ z : Str, y = .str z ∧ items = z.cps.toList.map fun c => V.str ⟨#[c]⟩) ∧ ∀ (v : V) (H' : Hp), v ∈ items → Dr d c H' → Keep d H H' → Q v H'
theorem ne_len {α : Type} {xs : List α} (h : xs ≠ []) : 0 < xs.length := by
  cases xs with
  | nil => exact absurd rfl h
  | cons a r => exact Nat.succ_pos _
section
variable {P : Program} {w : World} {K : PySem.W.Frag} {mg : Str → Option Value} {base : Heap}
theorem ok_pick (T : Tx K mg w) : FnOk P w K mg base CX0 3 T.f_pick T.fd_pick ["_law_d", "_law_row"] (sp2 rPick) := by
  refine okR2 T.F_pick sc_pick rfl fun cdv A outer s H Q E x y hr h => ?_
  obtain ⟨d, c, items, rfl, dr, hne, hlen, hrow, q⟩ := h
  have hpos := ne_len hne
  refine ⟨_, pss_one (ps_ret (pe_ix ix_seq (pv 1) (pe_call (ok_draw T) (hr.mono (by decide)) rfl T.m_draw T.F_draw.kp T.b_draw .nil pass0 (pa_cons (pv 0) (pa_cons (pe_callB call_len (by rfl) T.z_len (by decide +kernel) (pa_cons (pv 1) pa_nil)) pa_nil))) (fun _ _ => rfl))), ?_⟩
  rcases hrow with ⟨p, rfl, hpd, hp⟩ | ⟨z, rfl, hz⟩
  · refine ⟨_, rfl, _, rfl, _, rfl, _, items.length, rfl, .inl ⟨items, SqL.of hp, rfl⟩, _, _, rfl, d, c, _, rfl, rfl, dr, by omega, by omega, fun r H' r0 r1 dr' kp => ?_⟩
    obtain ⟨j, rfl⟩ := Int.eq_ofNat_of_zero_le r0
    have hj : j < items.length := by omega
    exact .inl ⟨p, items, _, items[j], rfl, rfl, SqL.of (kp _ _ hp hpd), at_n j (List.getElem?_eq_getElem hj), q _ _ (List.getElem_mem hj) dr' kp⟩
  · have hl : items.length = z.length := by rw [hz, List.length_map, len_cps]
    refine ⟨_, rfl, _, rfl, _, rfl, _, z.length, rfl, ⟨by rw [sizeLine_eq]; omega, rfl⟩, _, _, rfl, d, c, _, rfl, rfl, dr, by omega, by omega, fun r H' r0 r1 dr' kp => ?_⟩
    obtain ⟨j, rfl⟩ := Int.eq_ofNat_of_zero_le r0
    have hj : j < z.cps.toList.length := by
      rw [← len_cps]
      omega
    refine .inr (.inr ⟨z, _, z.cps.toList[j], rfl, rfl, by rw [sizeLine_eq]; omega, sgn z j (List.getElem?_eq_getElem hj), q _ _ ?_ dr' kp⟩)
    rw [hz]
    exact List.mem_map_of_mem (f := fun c => V.str ⟨#[c]⟩) (List.getElem_mem hj)
end
theorem op_mul_str {X : Cx} : OpR X (binaryOp .Mult) (fun x y H Q => ∃ (z : Str) (n : Int), x = .str z ∧ y = .int n ∧ MulOk z n ∧ Q (.str (Txt.mul z n)) H) := by
  intro pins s σ H x y v u Q I rx ry h
  obtain ⟨z, n, rfl, rfl, ok, q⟩ := h
  obtain ⟨t, rfl⟩ := rx
  obtain ⟨t2, rfl⟩ := ry
  exact SB.mul ok fun t' k => ⟨.str _, H, I.tok k, ⟨t', rfl⟩, q⟩

def rTupOf (K : PySem.W.Frag) : List V → Hp → VK → Prop := fun xs H Q => ∃ p ys, xs = [.ref p] ∧ ((SqL K H p ys ∧ ∀ l, H l = none → Q (.ref l) (upd H l (.tup ys))) ∨ (SqT K H p ys ∧ Q (.ref p) H))
theorem call_tup {X : Cx} : CallR X (.type "tuple") (rTupOf X.K) := call_tuple_of
/-- words in a new list -/
def goodW (ys : List Str) : Bool := decide (20 ≤ ys.length) && (decide (ys.length ≤ 100) && ys.all fun y => decide (1 ≤ y.length) && decide (y.length ≤ 8))
theorem goodW_ok {ys : List Str} (h : goodW ys = true) : 20 ≤ ys.length ∧ ys.length ≤ 100 ∧ ∀ y ∈ ys, 1 ≤ y.length ∧ y.length ≤ 8 := by
  unfold goodW at h
  rw [Bool.and_eq_true, Bool.and_eq_true] at h
  refine ⟨of_decide_eq_true h.1, of_decide_eq_true h.2.1, fun y hy => ?_⟩
  have := List.all_eq_true.mp h.2.2 y hy
  rw [Bool.and_eq_true] at this
  exact ⟨of_decide_eq_true this.1, of_decide_eq_true this.2⟩
def rRes : Hp → VK → Prop := fun H Q => ∀ (ys : List Str) (p : Addr), 20 ≤ ys.length → ys.length ≤ 100 → (∀ y ∈ ys, 1 ≤ y.length ∧ y.length ≤ 8) → H p = none → Q (.ref p) (upd H p (.lst (ys.map V.str)))
def rName : V → Hp → VK → Prop := fun x H Q => ∃ d c : Addr, x = .ref d ∧ Dr d c H ∧ ∀ (s : Str) (H' : Hp), okN s → Dr d c H' → Keep d H H' → Q (.str s) H'
def rNumber : V → Hp → VK → Prop := fun x H Q => ∃ d c : Addr, x = .ref d ∧ Dr d c H ∧ ∀ (i : Int) (H' : Hp), 0 ≤ i → i ≤ 1000 → Dr d c H' → Keep d H H' → Q (.int i) H'
section
variable {P : Program} {w : World} {K : PySem.W.Frag} {mg : Str → Option Value} {base : Heap}
theorem ok_reserved (T : Tx K mg w) : FnOk P w K mg base CX0 1 T.f_reserved T.fd_reserved [] (sp0 rRes) := by
  refine okR0 T.F_reserved sc_reserved rfl fun cdv A outer s H Q EE hr q => ?_
  refine ⟨_, pss_cons (ps_set (i := 0) sc_reserved.nd rfl (Or.inl rfl) pe_str)
      (pss_cons (ps_set (i := 1) sc_reserved.nd rfl (Or.inl rfl) pe_str)
      (pss_one (ps_ret (pe_split (pe_op op_add_str (pe_op op_add_str (pv 0) (pv 1)) pe_str) pe_str)))), ?_⟩
  refine ⟨_, rfl, _, rfl, _, _, rfl, rfl, ?_, _, _, rfl, rfl, ?_, ⟨_, rfl⟩, _, _, rfl, rfl, by decide +kernel, ?_, fun p hp => ?_⟩
  · exact sl _ (by decide +kernel)
  · exact sl _ (by decide +kernel)
  · exact sl _ (by decide +kernel)
  · refine q _ p ?_ ?_ ?_ hp
    · exact (goodW_ok (by decide +kernel)).1
    · exact (goodW_ok (by decide +kernel)).2.1
    · exact (goodW_ok (by decide +kernel)).2.2
theorem ok_drawn_number (T : Tx K mg w) : FnOk P w K mg base CX0 3 T.f_drawn_number T.fd_drawn_number ["_law_d"] (sp1 rNumber) := by
  refine okR1 T.F_drawn_number sc_drawn_number rfl fun cdv A outer s H Q EE x hr h => ?_
  obtain ⟨d, c, rfl, dr, q⟩ := h
  refine ⟨_, pss_cons (ps_if (pt_cmpR op_eq (pe_call (ok_draw T) (hr.mono (by decide)) rfl T.m_draw T.F_draw.kp T.b_draw .nil pass0 (pa_cons (pv 0) (pa_cons pe_int pa_nil))) pe_int (nomark _)) (pss_one (ps_ret (pe_ix ix_list (pe_lst (pa_cons pe_int (pa_cons pe_int (pa_cons pe_int (pa_cons pe_int (pa_cons pe_int (pa_cons pe_int (pa_cons pe_int (pa_cons pe_int (pa_cons pe_int pa_nil)))))))))) (pe_call (ok_draw T) (hr.mono (by decide)) rfl T.m_draw T.F_draw.kp T.b_draw .nil pass0 (pa_cons (pv 0) (pa_cons pe_int pa_nil))) (fun _ _ => rfl)))) pss_nil)
      (pss_one (ps_ret (pe_call (ok_draw T) (hr.mono (by decide)) rfl T.m_draw T.F_draw.kp T.b_draw .nil pass0 (pa_cons (pv 0) (pa_cons pe_int pa_nil))))), ?_⟩
  refine ⟨_, rfl, _, _, rfl, d, c, 3, rfl, rfl, dr, by omega, by omega, fun r H1 r0 r1 dr1 k1 => ?_⟩
  refine ⟨rfl, _, rfl, ite2 (fun _ => ?_) (fun _ => ?_)⟩
  · refine ⟨sl 9, fun l hl => ?_⟩
    have s2 := same_new (o := .lst [V.int 0, V.int 1, V.int 9, V.int 10, V.int 99, V.int 100, V.int 101, V.int 999, V.int 1000]) hl
    have ld := dr1.dne hl
    refine ⟨_, rfl, _, _, rfl, d, c, 9, rfl, rfl, dr1.same s2, by omega, by omega, fun r2 H3 q0 q1 dr3 k3 => ?_⟩
    obtain ⟨n, hn, hm⟩ := at_int (ns := [0, 1, 9, 10, 99, 100, 101, 999, 1000]) q0 q1
    refine ⟨l, _, _, _, rfl, rfl, SqL.of (k3 _ _ upd_same ld), hn, ?_⟩
    have hb : 0 ≤ n ∧ n ≤ 1000 := by
      simp only [List.mem_cons, List.not_mem_nil, or_false] at hm
      omega
    exact q n H3 hb.1 hb.2 dr3 ((k1.trans (Keep.of s2)).trans k3)
  · refine ⟨_, rfl, _, _, rfl, d, c, 1001, rfl, rfl, dr1, by omega, by omega, fun r2 H3 q0 q1 dr3 k3 => ?_⟩
    exact q r2 H3 q0 (by omega) dr3 (k1.trans k3)
end

theorem sg_at {r : Int} (h0 : 0 ≤ r) (h1 : r < 36) : ∃ c, atI ("abcdefghijklmnopqrstuvwxyz0123456789" : Str).cps.toList r = some c := by
  obtain ⟨j, rfl⟩ := Int.eq_ofNat_of_zero_le h0
  have : ("abcdefghijklmnopqrstuvwxyz0123456789" : Str).cps.toList.length = 36 := by decide +kernel
  exact ⟨_, sgn _ j (List.getElem?_eq_getElem (by omega))⟩
theorem cut_len (z : Str) : (cutS z none (some (-1))).length ≤ z.length := by
  unfold cutS
  show ((((z.cps.toList).drop _).take _).toArray).size ≤ _
  rw [List.size_toArray, List.length_take, List.length_drop, ← len_cps]
  omega
section
variable {P : Program} {w : World} {K : PySem.W.Frag} {mg : Str → Option Value} {base : Heap}
theorem ok_drawn_name (T : Tx K mg w) : FnOk P w K mg base CX0 4 T.f_drawn_name T.fd_drawn_name ["_law_d"] (sp1 rName) := by
  refine okR1 T.F_drawn_name sc_drawn_name rfl fun cdv A outer s H Q EE x hr h => ?_
  obtain ⟨d, c, rfl, dr, q⟩ := h
  refine ⟨_, pss_cons (ps_set (i := 1) sc_drawn_name.nd rfl (Or.inl rfl) pe_str)
      (pss_cons (ps_set (i := 2) sc_drawn_name.nd rfl (Or.inl rfl) (pe_call0 (ok_reserved T) (hr.mono (by decide)) rfl T.m_reserved T.F_reserved.kp T.b_reserved .nil pass0))
      (pss_cons (ps_set (i := 3) sc_drawn_name.nd rfl (Or.inl rfl) (pe_call (ok_draw T) (hr.mono (by decide)) rfl T.m_draw T.F_draw.kp T.b_draw .nil pass0 (pa_cons (pv 0) (pa_cons pe_int pa_nil))))
      (C8.pss_cut (ps_if (pt_cmpR op_lt (pv 3) pe_int (nomark _)) (pss_cons (ps_set (i := 4) sc_drawn_name.nd rfl (Or.inl rfl) (pe_call (ok_draw T) (hr.mono (by decide)) rfl T.m_draw T.F_draw.kp T.b_draw .nil pass0 (pa_cons (pv 0) (pa_cons pe_int pa_nil))))
      (pss_cons (ps_set (i := 5) sc_drawn_name.nd rfl (Or.inl rfl) (pe_ix ix_str (pv 1) (pe_op op_mod (pe_callTy call_int1 (by rfl) T.z_int (by decide +kernel) (pa_cons (pv 4) pa_nil)) pe_int) (fun _ _ => rfl)))
      (pss_cons (ps_set (i := 4) sc_drawn_name.nd rfl (Or.inl rfl) (pe_op op_fdiv (pv 4) pe_int))
      (pss_one (ps_for PassesOwn.never rfl (pi_range1 rfl T.z_range (pa_cons (pv 3) pa_nil)) (pg_name (i := 6) sc_drawn_name.nd rfl (Or.inl rfl))
      (pss_cons (ps_if (pt_cmpR op_eq (pv 6) pe_int (nomark _)) (pss_one (ps_set (i := 4) sc_drawn_name.nd rfl (Or.inl rfl) (pe_call (ok_draw T) (hr.mono (by decide)) rfl T.m_draw T.F_draw.kp T.b_draw .nil pass0 (pa_cons (pv 0) (pa_cons pe_int pa_nil))))) pss_nil)
      (pss_cons (ps_set (i := 5) sc_drawn_name.nd rfl (Or.inl rfl) (pe_op op_add_str (pv 5) (pe_ix ix_str (pv 1) (pe_op op_mod (pe_callTy call_int1 (by rfl) T.z_int (by decide +kernel) (pa_cons (pv 4) pa_nil)) pe_int) (fun _ _ => rfl))))
      (pss_one (ps_set (i := 4) sc_drawn_name.nd rfl (Or.inl rfl) (pe_op op_fdiv (pv 4) pe_int)))))))))) (pss_cons (ps_set (i := 5) sc_drawn_name.nd rfl (Or.inl rfl) (pe_call (ok_pick T) (hr.mono (by decide)) rfl T.m_pick T.F_pick.kp T.b_pick .nil pass0 (pa_cons (pv 0) (pa_cons (pv 2) pa_nil))))
      (pss_cons (ps_if (pt_cmpR op_eq (pv 3) pe_int (nomark _)) (pss_one (ps_set (i := 5) sc_drawn_name.nd rfl (Or.inl rfl) (pe_op op_add_str (pv 5) (pe_call (ok_pick T) (hr.mono (by decide)) rfl T.m_pick T.F_pick.kp T.b_pick .nil pass0 (pa_cons (pv 0) (pa_cons (pv 1) pa_nil)))))) pss_nil)
      (pss_one (ps_if (pt_cmpR op_eq (pv 3) pe_int (nomark _)) (pss_one (ps_set (i := 5) sc_drawn_name.nd rfl (Or.inl rfl) (pe_slice sl_str (pv 5) po_none (po_some (pe_un un_neg pe_int))))) pss_nil)))))
      (pss_one (ps_ret (pe_ifExp (pt_cmpR op_in_seq (pv 5) (pv 2) (by rfl)) (pe_op op_add_str (pv 5) pe_str) (pv 5))))))), ?_⟩
  refine ⟨rfl, fun ys p l0 l1 hy hp => ?_⟩
  have s1 := same_new (o := .lst (ys.map V.str)) hp
  have g1 : upd H p (.lst (ys.map V.str)) p = some (.lst (ys.map V.str)) := upd_same
  have pd := dr.dne hp
  have dr1 := dr.same s1
  have k1 := Keep.of (d := d) s1
  generalize upd H p (.lst (ys.map V.str)) = H1 at s1 g1 dr1 k1 ⊢
  refine ⟨_, rfl, _, _, rfl, d, c, 11, rfl, rfl, dr1, by omega, by omega, fun r H2 r0 r1 dr2 k2 => ?_⟩
  have g2 := k2 _ _ g1 pd
  have k12 := k1.trans k2
  refine ⟨fun σ H' => ∃ (z : Str) (v4 v6 : Option V), σ = [some (.ref d), some (.str "abcdefghijklmnopqrstuvwxyz0123456789"), some (.ref p), some (.int r), v4, some (.str z), v6] ∧ z.length ≤ 10 ∧ Dr d c H' ∧ Keep d H H' ∧ H' p = some (.lst (ys.map V.str)), ?_, ?_⟩
  · refine ⟨_, rfl, _, _, rfl, rfl, _, rfl, ite2 (fun h => ?_) (fun h => ?_)⟩
    · have h8 : r < 8 := of_decide_eq_true h
      refine ⟨_, rfl, _, _, rfl, d, c, 1213056, rfl, rfl, dr2, by omega, by omega, fun r3 H3 q0 q1 dr3 k3 => ?_⟩
      obtain ⟨c1, hc1⟩ := sg_at (r := r3 % 26) (Int.emod_nonneg _ (by omega)) (by have := Int.emod_lt_of_pos r3 (show (0 : Int) < 26 by omega); omega)
      refine ⟨_, rfl, _, rfl, .inl ⟨_, rfl, _, _, rfl, rfl, (by show (0 : Int) < 26; decide), _, _, _, rfl, rfl, by decide +kernel, hc1, ?_⟩⟩
      refine ⟨_, rfl, _, _, rfl, rfl, ⟨by decide, by decide⟩, ?_⟩
      refine ⟨_, rfl, r, rfl, by omega, by omega, for_range (lo := 0) (n := r.toNat) (fun i σ H' => ∃ (n : Int) (z : Str) (v6 : Option V), σ = [some (.ref d), some (.str "abcdefghijklmnopqrstuvwxyz0123456789"), some (.ref p), some (.int r), some (.int n), some (.str z), v6] ∧ z.length ≤ 1 + i ∧ Dr d c H' ∧ Keep d H H' ∧ H' p = some (.lst (ys.map V.str))) ⟨_, _, none, rfl, Nat.le_refl _, dr3, k12.trans k3, k3 _ _ g2 pd⟩ ?_ ?_⟩
      · rintro i σ H' hi ⟨n, z, v6, rfl, zl, dr', k', g'⟩
        have fin : ∀ (n : Int) (H' : Hp), Dr d c H' → Keep d H H' → H' p = some (.lst (ys.map V.str)) → ∃ c2, atI ("abcdefghijklmnopqrstuvwxyz0123456789" : Str).cps.toList (n % 36) = some c2 ∧ ((z ++ (⟨#[c2]⟩ : Str)).length ≤ 1 + (i + 1)) ∧ z.length + (⟨#[c2]⟩ : Str).length ≤ sizeLine := fun n H' _ _ _ => by
          obtain ⟨c2, hc2⟩ := sg_at (r := n % 36) (Int.emod_nonneg _ (by omega)) (Int.emod_lt_of_pos n (show (0 : Int) < 36 by omega))
          have e1 : (⟨#[c2]⟩ : Str).length = 1 := rfl
          refine ⟨c2, hc2, ?_, ?_⟩
          · rw [app_len, e1]
            omega
          · rw [e1, sizeLine_eq]
            omega
        refine ⟨_, rfl, rfl, _, rfl, ite2 (fun _ => ?_) (fun _ => ?_)⟩
        · refine ⟨_, rfl, _, _, rfl, d, c, 1679616, rfl, rfl, dr', by omega, by omega, fun r4 H4 q2 q3 dr4 k4 => ?_⟩
          obtain ⟨c2, hc2, l2, l3⟩ := fin r4 H4 dr4 (k'.trans k4) (k4 _ _ g' pd)
          refine ⟨_, rfl, _, rfl, _, rfl, .inl ⟨_, rfl, _, _, rfl, rfl, (by show (0 : Int) < 36; decide), _, _, _, rfl, rfl, by decide +kernel, hc2, _, _, rfl, rfl, l3, ?_⟩⟩
          refine ⟨_, rfl, _, _, rfl, rfl, ⟨by decide, by decide⟩, ?_⟩
          exact ⟨_, _, _, rfl, l2, dr4, k'.trans k4, k4 _ _ g' pd⟩
        · obtain ⟨c2, hc2, l2, l3⟩ := fin n H' dr' k' g'
          refine ⟨_, rfl, _, rfl, _, rfl, .inl ⟨_, rfl, _, _, rfl, rfl, (by show (0 : Int) < 36; decide), _, _, _, rfl, rfl, by decide +kernel, hc2, _, _, rfl, rfl, l3, ?_⟩⟩
          refine ⟨_, rfl, _, _, rfl, rfl, ⟨by decide, by decide⟩, ?_⟩
          exact ⟨_, _, _, rfl, l2, dr', k', g'⟩
      · rintro σ H' ⟨n, z, v6, rfl, zl, dr', k', g'⟩
        exact ⟨z, _, v6, rfl, by omega, dr', k', g'⟩
    · refine ⟨_, rfl, _, rfl, _, _, rfl, d, c, ys.map V.str, rfl, dr2, ?_, ?_, .inl ⟨p, rfl, pd, g2⟩, fun v H3 hv dr3 k3 => ?_⟩
      · intro e
        rw [List.map_eq_nil_iff.mp e] at l0
        cases l0
      · rw [List.length_map]
        omega
      obtain ⟨z, hz, rfl⟩ := List.mem_map.mp hv
      have zl := hy z hz
      have g3 := k3 _ _ g2 pd
      have k13 := k12.trans k3
      refine ⟨_, rfl, rfl, _, rfl, ite2 (fun h8 => ?_) (fun h8 => ?_)⟩
      · have e8 : r = 8 := V.int.inj (of_decide_eq_true h8)
        refine ⟨_, rfl, _, rfl, _, rfl, _, _, rfl, d, c, _, rfl, dr3, ?_, ?_, .inr ⟨_, rfl, rfl⟩, fun v H4 hv dr4 k4 => ?_⟩
        · intro e
          have := congrArg List.length e
          rw [List.length_map, show ("abcdefghijklmnopqrstuvwxyz0123456789" : Str).cps.toList.length = 36 by decide +kernel] at this
          cases this
        · rw [List.length_map, show ("abcdefghijklmnopqrstuvwxyz0123456789" : Str).cps.toList.length = 36 by decide +kernel]
          decide
        obtain ⟨c2, _, rfl⟩ := List.mem_map.mp hv
        have e1 : (⟨#[c2]⟩ : Str).length = 1 := rfl
        refine ⟨_, _, rfl, rfl, by rw [e1, sizeLine_eq]; omega, ?_⟩
        refine ⟨_, rfl, rfl, _, rfl, ite2 (fun h9 => absurd (V.int.inj (of_decide_eq_true h9)) (by omega)) (fun _ => ?_)⟩
        exact ⟨_, _, none, rfl, by rw [app_len, e1]; omega, dr4, k13.trans k4, k4 _ _ g3 pd⟩
      · refine ⟨_, rfl, rfl, _, rfl, ite2 (fun h9 => ?_) (fun _ => ?_)⟩
        · refine ⟨_, rfl, _, rfl, _, rfl, z, rfl, by rw [sizeLine_eq]; omega, ?_⟩
          have := cut_len z
          exact ⟨_, _, none, rfl, by omega, dr3, k13, g3⟩
        · exact ⟨_, _, none, rfl, by omega, dr3, k13, g3⟩
  · rintro σ H' ⟨z, v4, v6, rfl, zl, dr', k', g'⟩
    have e0 : ("0" : Str).length = 1 := by decide +kernel
    refine ⟨_, rfl, _, rfl, p, _, rfl, .inl (SqL.of g'), rfl, ?_, _, rfl, ite2 (fun _ => ?_) (fun _ => ?_)⟩
    · rw [List.all_map]
      exact List.all_eq_true.mpr fun _ _ => rfl
    · exact ⟨_, rfl, _, _, rfl, rfl, by rw [e0, sizeLine_eq]; omega, q _ H' (by unfold okN; rw [app_len, e0]; omega) dr' k'⟩
    · exact ⟨_, rfl, q _ H' (by unfold okN; omega) dr' k'⟩
end

/-- a made thing at p: its tree, its tokens, a second list of tokens and what more stands behind; D is where the draws stand -/
def Mk (D : Addr) (H : Hp) (p : Addr) (d : PyData) (us : List Str) (n : Nat) (rest : List V) : Prop :=
  ∃ (v : V) (a b : Addr) (ls : List Str), H p = some (.lst (v :: .ref a :: .ref b :: rest)) ∧ Td H d v ∧ SL H a us ∧ SL H b ls ∧ us.length ≤ n ∧ ls.length ≤ n ∧ p ≠ D ∧ a ≠ D ∧ b ≠ D ∧ (us ≠ [] → ls ≠ [])
theorem Mk.same {D p : Addr} {H H' : Hp} {d : PyData} {us : List Str} {n : Nat} {rest : List V} (h : Mk D H p d us n rest) (s : Same H H') : Mk D H' p d us n rest := by
  obtain ⟨v, a, b, ls, h1, h2, h3, h4, h5⟩ := h
  exact ⟨v, a, b, ls, s _ _ h1, Td.mono (TS.of s) _ _ h2, h3.same s, h4.same s, h5⟩
theorem Mk.keep {D c p : Addr} {H H' : Hp} {d : PyData} {us : List Str} {n : Nat} {rest : List V} (h : Mk D H p d us n rest) (dr : Dr D c H) (s : Keep D H H') : Mk D H' p d us n rest := by
  obtain ⟨v, a, b, ls, h1, h2, h3, h4, h5, h6, h7, h8, h9⟩ := h
  exact ⟨v, a, b, ls, s _ _ h1 h7, Td.mono (TS.dr dr s) _ _ h2, s _ _ h3 h8, s _ _ h4 h9.1, h5, h6, h7, h8, h9⟩
/-- a part: a text or a made thing -/
def Pc (D : Addr) (H : Hp) (v : V) (q : List Str × Nat) : Prop := (∃ s : Str, v = .str s ∧ q = ([s], 1)) ∨ ∃ (p : Addr) (d : PyData) (rest : List V), v = .ref p ∧ Mk D H p d q.1 q.2 rest
theorem Pc.same {D : Addr} {H H' : Hp} {v : V} {q : List Str × Nat} (h : Pc D H v q) (s : Same H H') : Pc D H' v q := by
  rcases h with h | ⟨p, d, rest, e, h⟩
  · exact .inl h
  · exact .inr ⟨p, d, rest, e, h.same s⟩
def toks (pcs : List (List Str × Nat)) : List Str := (pcs.map (·.1)).flatten
def cost (pcs : List (List Str × Nat)) : Nat := (pcs.map (·.2)).sum
theorem toks_app (a b : List (List Str × Nat)) : toks (a ++ b) = toks a ++ toks b := by
  unfold toks
  rw [List.map_append, List.flatten_append]
theorem cost_app (a b : List (List Str × Nat)) : cost (a ++ b) = cost a + cost b := by
  unfold cost
  rw [List.map_append, List.sum_append]
theorem cost_le (pcs : List (List Str × Nat)) (i : Nat) : cost (pcs.take i) ≤ cost pcs := by
  have := congrArg cost (List.take_append_drop i pcs)
  rw [cost_app] at this
  omega
def rMade : V → V → Hp → VK → Prop := fun x y H Q => ∃ (D : Addr) (d : PyData) (q : Addr) (vs : List V) (pcs : List (List Str × Nat)), Td H d x ∧ y = .ref q ∧ H q = some (.lst vs) ∧ All2 (Pc D H) vs pcs ∧ cost pcs ≤ 1200000 ∧ (∃ o, H D = some o) ∧
  ∀ (p : Addr) (H' : Hp), Same H H' → Mk D H' p d (toks pcs) (cost pcs) [] → Q (.ref p) H'
def inter {α : Type} (c : α) : List α → List α
  | [] => []
  | a :: r => a :: (r.map fun x => [c, x]).flatten
def rCommas : V → Hp → VK → Prop := fun x H Q => ∃ (q : Addr) (v : V) (r : List V), x = .ref q ∧ H q = some (.lst (v :: r)) ∧ r.length ≤ 20 ∧ ∀ (p : Addr) (H' : Hp), Same H H' → H' p = some (.lst (inter (.str ",") (v :: r))) → Q (.ref p) H'
def rTrees : V → Hp → VK → Prop := fun x H Q => ∃ (D : Addr) (q : Addr) (vs : List V) (ds : List PyData), x = .ref q ∧ H q = some (.lst vs) ∧ vs.length ≤ 20 ∧ All2 (fun v d => ∃ p us n rest, v = .ref p ∧ Mk D H p d us n rest) vs ds ∧ ∀ (p : V) (H' : Hp), Same H H' → Td H' (.tuple ds) p → Q p H'
section
variable {P : Program} {w : World} {K : PySem.W.Frag} {mg : Str → Option Value} {base : Heap}
theorem ok_made (T : Tx K mg w) : FnOk P w K mg base CX0 1 T.f_made T.fd_made ["_law_tree", "_law_parts"] (sp2 rMade) := by
  refine okR2 T.F_made sc_made rfl fun cdv A outer s H Q EE x y hr h => ?_
  obtain ⟨D, d, q0, vs, pcs, hx, rfl, hq, hps, hc, ⟨oD, hD⟩, q⟩ := h
  refine ⟨_, pss_cons (ps_set (i := 2) sc_made.nd rfl (Or.inl rfl) (pe_lst (pa_cons (pv 0) (pa_cons (pe_lst pa_nil) (pa_cons (pe_lst pa_nil) pa_nil)))))
      (pss_cons (ps_for PassesOwn.never rfl (pi_list (pv 1)) (pg_name (i := 3) sc_made.nd rfl (Or.inl rfl))
      (pss_one (ps_if (pt_val (pe_callB call_isi (by rfl) T.z_isinstance (by decide +kernel) (pa_cons (pv 3) (pa_cons (pe_bltn (v := .ty "str") rfl T.z_str (by decide +kernel) rfl) pa_nil)))) (pss_cons (ps_expr (pe_bm PySem.F.plainAttrs_list PySem.F.slot_list_append PySem.F.type_list_append mt_append (pe_ix ix_list (pv 2) pe_int (fun _ _ => rfl)) (pa_cons (pv 3) pa_nil)))
      (pss_one (ps_expr (pe_bm PySem.F.plainAttrs_list PySem.F.slot_list_append PySem.F.type_list_append mt_append (pe_ix ix_list (pv 2) pe_int (fun _ _ => rfl)) (pa_cons (pv 3) pa_nil))))) (pss_cons (ps_expr (pe_bm PySem.F.plainAttrs_list PySem.F.slot_list_extend PySem.F.type_list_extend mt_extend (pe_ix ix_list (pv 2) pe_int (fun _ _ => rfl)) (pa_cons (pe_ix ix_list (pv 3) pe_int (fun _ _ => rfl)) pa_nil)))
      (pss_one (ps_expr (pe_bm PySem.F.plainAttrs_list PySem.F.slot_list_extend PySem.F.type_list_extend mt_extend (pe_ix ix_list (pv 2) pe_int (fun _ _ => rfl)) (pa_cons (pe_ix ix_list (pv 3) pe_int (fun _ _ => rfl)) pa_nil))))))))
      (pss_one (ps_ret (pv 2)))), ?_⟩
  refine ⟨_, rfl, sl 0, fun l1 n1 => ⟨sl 0, fun l2 n2' => ⟨sl 3, fun l3 n3' => ?_⟩⟩⟩
  have e12 : l1 ≠ l2 := ne_of_none upd_same n2'
  have e23 : l2 ≠ l3 := ne_of_none upd_same n3'
  have e13 : l1 ≠ l3 := ne_of_none (upd_else upd_same e12) n3'
  have n2 : H l2 = none := by rw [upd_ne e12.symm] at n2'; exact n2'
  have n3 : H l3 = none := by rw [upd_ne e23.symm, upd_ne e13.symm] at n3'; exact n3'
  have g3 : upd (upd (upd H l1 (.lst [])) l2 (.lst [])) l3 (.lst [x, .ref l1, .ref l2]) l3 = some (.lst [x, .ref l1, .ref l2]) := upd_same
  have g1 : SL (upd (upd (upd H l1 (.lst [])) l2 (.lst [])) l3 (.lst [x, .ref l1, .ref l2])) l1 [] := upd_else (upd_else upd_same e12) e13
  have g2 : SL (upd (upd (upd H l1 (.lst [])) l2 (.lst [])) l3 (.lst [x, .ref l1, .ref l2])) l2 [] := upd_else upd_same e23
  have s0 : Same H (upd (upd (upd H l1 (.lst [])) l2 (.lst [])) l3 (.lst [x, .ref l1, .ref l2])) := ((same_new n1).trans (same_new n2')).trans (same_new n3')
  generalize upd (upd (upd H l1 (.lst [])) l2 (.lst [])) l3 (.lst [x, .ref l1, .ref l2]) = H0 at g1 g2 g3 s0 ⊢
  have lv := All2.len hps
  refine ⟨_, rfl, q0, rfl, ⟨_, SqL.of (s0 _ _ hq)⟩, for_list (K := K) (a := q0) (xs := vs) (fun i σ H' => ∃ (ls : List Str) (v3 : Option V), σ = [some x, some (.ref q0), some (.ref l3), v3] ∧ Same H H' ∧ H' l3 = some (.lst [x, .ref l1, .ref l2]) ∧ SL H' l1 (toks (pcs.take i)) ∧ SL H' l2 ls ∧ (toks (pcs.take i)).length ≤ cost (pcs.take i) ∧ ls.length ≤ cost (pcs.take i) ∧ (toks (pcs.take i) ≠ [] → ls ≠ [])) ⟨[], none, rfl, s0, g3, g1, g2, Nat.zero_le _, Nat.zero_le _, fun h => absurd rfl h⟩ ?_ ?_ ?_⟩
  · rintro i σ H' _ ⟨_, _, _, s, _⟩
    exact SqL.of (s _ _ hq)
  · rintro i v σ H' hi ⟨ls, v3, rfl, s, h3, h1, h2, t1, t2, tn⟩
    obtain ⟨u, hu, hpc⟩ := All2.at hps hi
    have hu' : pcs.take (i + 1) = pcs.take i ++ [u] := by rw [List.take_succ, hu]; rfl
    have c1 := cost_le pcs (i + 1)
    have cu : cost [u] = u.2 := by simp [cost]
    have tu : toks [u] = u.1 := by simp [toks]
    rw [hu', cost_app, cu] at c1
    rcases hpc with ⟨z, rfl, rfl⟩ | ⟨p, dd, rest, rfl, v0, a, b, ks, hp, _, ha, hb, la, lb, _, _, _, un⟩
    · refine ⟨_, rfl, .str z, .ty "str", .type "str", .type "str", true, rfl, .ty _, .base (.str _), rfl, _, rfl, iteT ?_⟩
      refine ⟨_, rfl, l3, _, _, _, rfl, rfl, SqL.of h3, at_n 1 rfl, .inl ⟨rfl, _, SqL.of h1⟩, _, rfl, l1, _, _, rfl, rfl, h1, by rw [List.length_map, sizeLine_eq]; omega, ?_⟩
      have g1 : SL (upd H' l1 (.lst ((toks (pcs.take i)).map V.str ++ [.str z]))) l1 (toks (pcs.take i) ++ [z]) := by
        unfold SL
        rw [upd_same, List.map_append]
        rfl
      have g2 : SL (upd H' l1 (.lst ((toks (pcs.take i)).map V.str ++ [.str z]))) l2 ls := upd_else h2 e12.symm
      have g3 := upd_else (o := .lst ((toks (pcs.take i)).map V.str ++ [.str z])) h3 e13.symm
      have s4 : Same H (upd H' l1 (.lst ((toks (pcs.take i)).map V.str ++ [.str z]))) := fun b o e => upd_else (s _ _ e) (ne_of_none e n1)
      generalize upd H' l1 (.lst ((toks (pcs.take i)).map V.str ++ [.str z])) = H4 at g1 g2 g3 s4 ⊢
      refine ⟨_, rfl, l3, _, _, _, rfl, rfl, SqL.of g3, at_n 2 rfl, .inl ⟨rfl, _, SqL.of g2⟩, _, rfl, l2, _, _, rfl, rfl, g2, by rw [List.length_map, sizeLine_eq]; omega, ?_⟩
      refine ⟨ls ++ [z], _, rfl, fun b o e => upd_else (s4 _ _ e) (ne_of_none e n2), upd_else g3 e23.symm, ?_, ?_, ?_, ?_, ?_⟩
      · rw [hu', toks_app, tu]
        exact upd_else g1 e12
      · unfold SL
        rw [upd_same, List.map_append]
        rfl
      · rw [hu', toks_app, cost_app, tu, cu, List.length_append]
        simp only [List.length_cons, List.length_nil]
        omega
      · rw [hu', cost_app, cu, List.length_append]
        simp only [List.length_cons, List.length_nil]
        omega
      · intro _ e
        exact List.cons_ne_nil _ _ (List.append_eq_nil_iff.mp e).2
    · have hp' := s _ _ hp
      refine ⟨_, rfl, .ref p, .ty "str", .type "list", .type "str", false, rfl, .ty _, .base (.lst hp'), ?_, _, rfl, iteF ?_⟩
      · rfl
      refine ⟨_, rfl, l3, _, _, _, rfl, rfl, SqL.of h3, at_n 1 rfl, .inl ⟨rfl, _, SqL.of h1⟩, _, rfl, p, _, _, _, rfl, rfl, SqL.of hp', at_n 1 rfl, l1, a, _, _, rfl, rfl, h1, ha.same s, by rw [List.length_map, List.length_map, sizeLine_eq]; omega, ?_⟩
      have al1 : a ≠ l1 := ne_of_none ha n1
      have bl1 : b ≠ l1 := ne_of_none hb n1
      have bl2 : b ≠ l2 := ne_of_none hb n2
      have g1 : SL (upd H' l1 (.lst ((toks (pcs.take i)).map V.str ++ u.1.map V.str))) l1 (toks (pcs.take i) ++ u.1) := by
        unfold SL
        rw [upd_same, List.map_append]
      have g2 : SL (upd H' l1 (.lst ((toks (pcs.take i)).map V.str ++ u.1.map V.str))) l2 ls := upd_else h2 e12.symm
      have g3 := upd_else (o := .lst ((toks (pcs.take i)).map V.str ++ u.1.map V.str)) h3 e13.symm
      have s4 : Same H (upd H' l1 (.lst ((toks (pcs.take i)).map V.str ++ u.1.map V.str))) := fun b o e => upd_else (s _ _ e) (ne_of_none e n1)
      generalize upd H' l1 (.lst ((toks (pcs.take i)).map V.str ++ u.1.map V.str)) = H4 at g1 g2 g3 s4 ⊢
      refine ⟨_, rfl, l3, _, _, _, rfl, rfl, SqL.of g3, at_n 2 rfl, .inl ⟨rfl, _, SqL.of g2⟩, _, rfl, p, _, _, _, rfl, rfl, SqL.of (s4 _ _ hp), at_n 2 rfl, l2, b, _, _, rfl, rfl, g2, hb.same s4, by rw [List.length_map, List.length_map, sizeLine_eq]; omega, ?_⟩
      refine ⟨ls ++ ks, _, rfl, fun b o e => upd_else (s4 _ _ e) (ne_of_none e n2), upd_else g3 e23.symm, ?_, ?_, ?_, ?_, ?_⟩
      · rw [hu', toks_app, tu]
        exact upd_else g1 e12
      · unfold SL
        rw [upd_same, List.map_append]
      · rw [hu', toks_app, cost_app, tu, cu, List.length_append]
        omega
      · rw [hu', cost_app, cu, List.length_append]
        omega
      · intro h e
        rw [hu', toks_app, tu] at h
        have e2 := List.append_eq_nil_iff.mp e
        by_cases f : toks (pcs.take i) = []
        · refine un (fun g => h ?_) e2.2
          rw [f, g]
          rfl
        · exact tn f e2.1
  · rintro σ H' ⟨ls, v3, rfl, s, h3, h1, h2, t1, t2, tn⟩
    rw [lv, List.take_length] at h1 t1 t2 tn
    refine ⟨_, rfl, q l3 H' s ⟨x, l1, l2, ls, h3, Td.mono (TS.of s) _ _ hx, h1, h2, t1, t2, (ne_of_none hD n3).symm, (ne_of_none hD n1).symm, (ne_of_none hD n2).symm, tn⟩⟩
end

theorem td0 {H : Hp} {p : Addr} (hp : H p = none) : Td (upd H p (.tup [])) (.tuple []) (.ref p) := ⟨p, _, rfl, upd_same, rfl⟩
theorem td1 {H : Hp} {p : Addr} {a : V} {x : PyData} (hp : H p = none) (h1 : Td H x a) : Td (upd H p (.tup [a])) (.tuple [x]) (.ref p) := ⟨p, _, rfl, upd_same, a, _, rfl, Td.mono (TS.new hp) _ _ h1, rfl⟩
theorem td2 {H : Hp} {p : Addr} {a b : V} {x y : PyData} (hp : H p = none) (h1 : Td H x a) (h2 : Td H y b) : Td (upd H p (.tup [a, b])) (.tuple [x, y]) (.ref p) :=
  ⟨p, _, rfl, upd_same, a, _, rfl, Td.mono (TS.new hp) _ _ h1, b, _, rfl, Td.mono (TS.new hp) _ _ h2, rfl⟩
theorem td3 {H : Hp} {p : Addr} {a b c : V} {x y z : PyData} (hp : H p = none) (h1 : Td H x a) (h2 : Td H y b) (h3 : Td H z c) : Td (upd H p (.tup [a, b, c])) (.tuple [x, y, z]) (.ref p) :=
  ⟨p, _, rfl, upd_same, a, _, rfl, Td.mono (TS.new hp) _ _ h1, b, _, rfl, Td.mono (TS.new hp) _ _ h2, c, _, rfl, Td.mono (TS.new hp) _ _ h3, rfl⟩
theorem td4 {H : Hp} {p : Addr} {a b c d : V} {x y z u : PyData} (hp : H p = none) (h1 : Td H x a) (h2 : Td H y b) (h3 : Td H z c) (h4 : Td H u d) : Td (upd H p (.tup [a, b, c, d])) (.tuple [x, y, z, u]) (.ref p) :=
  ⟨p, _, rfl, upd_same, a, _, rfl, Td.mono (TS.new hp) _ _ h1, b, _, rfl, Td.mono (TS.new hp) _ _ h2, c, _, rfl, Td.mono (TS.new hp) _ _ h3, d, _, rfl, Td.mono (TS.new hp) _ _ h4, rfl⟩
theorem td5 {H : Hp} {p : Addr} {a b c d e : V} {x y z u v : PyData} (hp : H p = none) (h1 : Td H x a) (h2 : Td H y b) (h3 : Td H z c) (h4 : Td H u d) (h5 : Td H v e) : Td (upd H p (.tup [a, b, c, d, e])) (.tuple [x, y, z, u, v]) (.ref p) :=
  ⟨p, _, rfl, upd_same, a, _, rfl, Td.mono (TS.new hp) _ _ h1, b, _, rfl, Td.mono (TS.new hp) _ _ h2, c, _, rfl, Td.mono (TS.new hp) _ _ h3, d, _, rfl, Td.mono (TS.new hp) _ _ h4, e, _, rfl, Td.mono (TS.new hp) _ _ h5, rfl⟩

theorem mk_new {D c : Addr} {H : Hp} {v : V} {d : PyData} {us ls : List Str} {n : Nat} {l1 l2 l3 : Addr} {rest : List V} (dr : Dr D c H) (h : Td H d v) (n1 : H l1 = none) (n2 : upd H l1 (.lst (us.map V.str)) l2 = none) (n3 : upd (upd H l1 (.lst (us.map V.str))) l2 (.lst (ls.map V.str)) l3 = none) (lu : us.length ≤ n) (ll : ls.length ≤ n) (ne : us ≠ [] → ls ≠ []) :
    Mk D (upd (upd (upd H l1 (.lst (us.map V.str))) l2 (.lst (ls.map V.str))) l3 (.lst (v :: .ref l1 :: .ref l2 :: rest))) l3 d us n rest ∧ Same H (upd (upd (upd H l1 (.lst (us.map V.str))) l2 (.lst (ls.map V.str))) l3 (.lst (v :: .ref l1 :: .ref l2 :: rest))) := by
  have e12 : l1 ≠ l2 := ne_of_none upd_same n2
  have e23 : l2 ≠ l3 := ne_of_none upd_same n3
  have e13 : l1 ≠ l3 := ne_of_none (upd_else upd_same e12) n3
  have s : Same H (upd (upd (upd H l1 (.lst (us.map V.str))) l2 (.lst (ls.map V.str))) l3 (.lst (v :: .ref l1 :: .ref l2 :: rest))) := ((same_new n1).trans (same_new n2)).trans (same_new n3)
  exact ⟨⟨v, l1, l2, ls, upd_same, Td.mono (TS.of s) _ _ h, upd_else (upd_else upd_same e12) e13, upd_else upd_same e23, lu, ll, (dr.same ((same_new n1).trans (same_new n2))).dne n3, dr.dne n1, (dr.same (same_new n1)).dne n2, ne⟩, s⟩
theorem cutV_tail {v : V} {r : List V} : cutV (v :: r) (some 1) none = r := by
  unfold cutV
  rw [show (some (1 : Int)) = some (((1 : Nat) : Int)) from rfl, HT.sIx_nat, List.length_cons, Nat.min_eq_left (by omega)]
  show ((r.take (r.length + 1 - 1))) = r
  rw [Nat.add_sub_cancel, List.take_length]
/-- draws of the parts -/
def rMk (R : PyData → List Str → Nat → Prop) : V → Hp → VK → Prop := fun x H Q => ∃ d c : Addr, x = .ref d ∧ Dr d c H ∧ ∀ (p : Addr) (H' : Hp) (t : PyData) (us : List Str) (n : Nat), R t us n → Mk d H' p t us n [] → Dr d c H' → Keep d H H' → Q (.ref p) H'
def RInt : PyData → List Str → Nat → Prop := fun t us n => n = 2 ∧ ∃ i : Int, okI i ∧ t = .int i ∧ us = intT i
def RCase : PyData → List Str → Nat → Prop := fun t us n => n ≤ 3 ∧ VT t us
def RLayer : PyData → List Str → Nat → Prop := fun t us n => n ≤ 5 ∧ LT t us
section
variable {P : Program} {w : World} {K : PySem.W.Frag} {mg : Str → Option Value} {base : Heap}
theorem ok_trees (T : Tx K mg w) : FnOk P w K mg base CX0 1 T.f_trees T.fd_trees ["_law_parts"] (sp1 rTrees) := by
  refine okR1 T.F_trees sc_trees rfl fun cdv A outer s H Q EE x hr h => ?_
  obtain ⟨D, q0, vs, ds, rfl, hq, hl, hps, q⟩ := h
  refine ⟨_, pss_one (ps_ret (pe_callTy (show CallR _ (.type "tuple") (rTupOf K) from call_tup) (by rfl) T.z_tuple (by decide +kernel) (pa_cons (pe_lc (own := [("_law_part", 1)]) (g := gName 1) (tt := tYes) rfl sc_trees.nd (pi_list (pv 0)) (blkOk_by (N := ["_law_parts", "_law_part"]) (sc := defScope s_trees) (by decide +kernel)) (fun _ _ _ _ _ => pg_name (i := 1) sc_trees.nd rfl (Or.inl rfl)) (fun _ _ _ _ _ => pts_nil) (fun _ _ _ _ _ => (pe_ix (show IxR _ (rIxL K) from ix_list) (pv 1) pe_int (fun _ _ => rfl)))) pa_nil))), ?_⟩
  have lv := All2.len hps
  refine ⟨_, rfl, q0, rfl, ⟨_, SqL.of hq⟩, fun E hE => lc_list (K := K) (a := q0) (xs := vs) (fun i H' => Same H H' ∧ ∃ acc, H' E = some (.lst acc) ∧ acc.length = i ∧ TdAll H (ds.take i) acc) ⟨same_new hE, [], upd_same, rfl, by rw [List.take_zero]; exact rfl⟩ ?_ ?_ ?_⟩
  · rintro i H' _ ⟨s, _⟩
    exact SqL.of (s _ _ hq)
  · rintro i v H' hi ⟨s, acc, ha, la, ht⟩
    obtain ⟨u, hu, p, us, n, rest, rfl, v0, a, b, ls, hp, hv, _⟩ := All2.at hps hi
    have hil := (List.getElem?_eq_some_iff.mp hi).1
    refine ⟨rfl, yes ⟨_, rfl, p, _, _, _, rfl, rfl, SqL.of (s _ _ hp), at_n 0 rfl, acc, ha, small1000 (by omega), fun b o e => upd_else (s _ _ e) (ne_of_none e hE), _, upd_same, by rw [List.length_append, la]; rfl, ?_⟩⟩
    rw [List.take_succ, hu]
    exact TdAll.app _ _ _ _ ht ⟨v0, [], rfl, hv, rfl⟩
  · rintro H' ⟨s, acc, ha, la, ht⟩
    rw [lv, List.take_length] at ht
    exact ⟨E, acc, rfl, .inl ⟨SqL.of ha, fun l hl => q _ _ (s.trans (same_new hl)) ⟨l, acc, rfl, upd_same, TdAll.mono (TS.of (s.trans (same_new hl))) _ _ ht⟩⟩⟩
theorem ok_commas (T : Tx K mg w) : FnOk P w K mg base CX0 1 T.f_commas T.fd_commas ["_law_parts"] (sp1 rCommas) := by
  refine okR1 T.F_commas sc_commas rfl fun cdv A outer s H Q EE x hr h => ?_
  obtain ⟨q0, v, r, rfl, hq, hl, q⟩ := h
  refine ⟨_, pss_cons (ps_set (i := 1) sc_commas.nd rfl (Or.inl rfl) (pe_lst (pa_cons (pe_ix ix_list (pv 0) pe_int (fun _ _ => rfl)) pa_nil)))
      (pss_cons (ps_for PassesOwn.never rfl (pi_list (pe_slice sl_list (pv 0) (po_some pe_int) po_none)) (pg_name (i := 2) sc_commas.nd rfl (Or.inl rfl))
      (pss_cons (ps_expr (pe_bm PySem.F.plainAttrs_list PySem.F.slot_list_append PySem.F.type_list_append mt_append (pv 1) (pa_cons pe_str pa_nil)))
      (pss_one (ps_expr (pe_bm PySem.F.plainAttrs_list PySem.F.slot_list_append PySem.F.type_list_append mt_append (pv 1) (pa_cons (pv 2) pa_nil))))))
      (pss_one (ps_ret (pv 1)))), ?_⟩
  refine ⟨_, rfl, q0, _, _, _, rfl, rfl, SqL.of hq, at_n 0 rfl, sl 1, fun l1 n1 => ?_⟩
  have s1 := same_new (o := .lst [v]) n1
  refine ⟨_, rfl, _, rfl, q0, _, rfl, SqL.of (s1 _ _ hq), fun l2 n2 => ?_⟩
  rw [cutV_tail]
  have e12 : l1 ≠ l2 := ne_of_none upd_same n2
  have s2 := same_new (o := .lst r) n2
  have g2 : upd (upd H l1 (.lst [v])) l2 (.lst r) l2 = some (.lst r) := upd_same
  have g1 : upd (upd H l1 (.lst [v])) l2 (.lst r) l1 = some (.lst [v]) := upd_else upd_same e12
  have s12 := s1.trans s2
  generalize upd (upd H l1 (.lst [v])) l2 (.lst r) = H0 at g1 g2 s12 ⊢
  refine ⟨l2, rfl, ⟨_, SqL.of g2⟩, for_list (K := K) (a := l2) (xs := r) (fun i σ H' => ∃ v2 : Option V, σ = [some (.ref q0), some (.ref l1), v2] ∧ Same H H' ∧ H' l2 = some (.lst r) ∧ H' l1 = some (.lst (inter (.str ",") (v :: r.take i)))) ⟨none, rfl, s12, g2, g1⟩ ?_ ?_ ?_⟩
  · rintro i σ H' _ ⟨_, _, _, h, _⟩
    exact SqL.of h
  · rintro i x σ H' hi ⟨v2, rfl, s, h2, h1⟩
    have hil := (List.getElem?_eq_some_iff.mp hi).1
    have li : ∀ m, (inter (V.str ",") (v :: r.take m)).length ≤ 1 + 2 * m := fun m => by
      show (v :: ((r.take m).map fun x => [V.str ",", x]).flatten).length ≤ _
      have : ∀ zs : List V, (zs.map fun x => [V.str ",", x]).flatten.length = 2 * zs.length := by
        intro zs
        induction zs with
        | nil => rfl
        | cons z zs ih =>
          rw [List.map_cons, List.flatten_cons, List.length_append, ih]
          simp
          omega
      rw [List.length_cons, this, List.length_take]
      omega
    have l1i := li i
    refine ⟨_, rfl, .inl ⟨rfl, _, SqL.of h1⟩, l1, _, _, rfl, rfl, h1, by rw [sizeLine_eq]; omega, ?_⟩
    refine ⟨_, rfl, .inl ⟨rfl, _, SqL.of upd_same⟩, _, rfl, l1, _, _, rfl, rfl, upd_same, by rw [sizeLine_eq, List.length_append]; simp only [List.length_cons, List.length_nil]; omega, ?_⟩
    rw [upd_upd]
    refine ⟨_, rfl, fun b o e => upd_else (s _ _ e) (ne_of_none e n1), upd_else h2 e12.symm, ?_⟩
    rw [upd_same, List.take_succ, hi]
    show some (HO.lst (((v :: ((r.take i).map fun x => [V.str ",", x]).flatten) ++ [V.str ","]) ++ [x])) = some (HO.lst (v :: ((r.take i ++ [x]).map fun x => [V.str ",", x]).flatten))
    rw [List.map_append, List.flatten_append, List.append_assoc]
    rfl
  · rintro σ H' ⟨v2, rfl, s, h2, h1⟩
    rw [List.take_length] at h1
    exact ⟨_, rfl, q l1 H' s h1⟩
theorem ok_drawn_int (T : Tx K mg w) : FnOk P w K mg base CX0 4 T.f_drawn_int T.fd_drawn_int ["_law_d"] (sp1 (rMk RInt)) := by
  refine okR1 T.F_drawn_int sc_drawn_int rfl fun cdv A outer s H Q EE x hr h => ?_
  obtain ⟨d, c, rfl, dr, q⟩ := h
  refine ⟨_, pss_cons (ps_set (i := 1) sc_drawn_int.nd rfl (Or.inl rfl) (pe_call (ok_drawn_number T) (hr.mono (by decide)) rfl T.m_drawn_number T.F_drawn_number.kp T.b_drawn_number .nil pass0 (pa_cons (pv 0) pa_nil)))
      (pss_cons (ps_set (i := 2) sc_drawn_int.nd rfl (Or.inl rfl) (pe_callTy call_str_int (by rfl) T.z_str (by decide +kernel) (pa_cons (pv 1) pa_nil)))
      (pss_cons (ps_if (pt_cmpR op_ne (pe_call (ok_draw T) (hr.mono (by decide)) rfl T.m_draw T.F_draw.kp T.b_draw .nil pass0 (pa_cons (pv 0) (pa_cons pe_int pa_nil))) pe_int (nomark _)) (pss_one (ps_ret (pe_lst (pa_cons (pv 1) (pa_cons (pe_lst (pa_cons (pv 2) pa_nil)) (pa_cons (pe_lst (pa_cons (pv 2) pa_nil)) pa_nil)))))) pss_nil)
      (pss_one (ps_ret (pe_lst (pa_cons (pe_op op_sub pe_int (pv 1)) (pa_cons (pe_ifExp (pt_cmpR op_gt (pv 1) pe_int (nomark _)) (pe_lst (pa_cons pe_str (pa_cons (pv 2) pa_nil))) (pe_lst (pa_cons (pv 2) pa_nil))) (pa_cons (pe_lst (pa_cons pe_str (pa_cons (pv 2) pa_nil))) pa_nil)))))))), ?_⟩
  refine ⟨_, rfl, _, rfl, d, c, rfl, dr, fun i H1 i0 i1 dr1 k1 => ?_⟩
  have oi : okI i := by unfold okI; omega
  refine ⟨_, rfl, _, rfl, log_ok oi, ?_⟩
  refine ⟨_, rfl, _, _, rfl, d, c, 3, rfl, rfl, dr1, by omega, by omega, fun r H2 r0 r1 dr2 k2 => ?_⟩
  have k12 := k1.trans k2
  refine ⟨rfl, _, rfl, ite2 (fun _ => ?_) (fun _ => ?_)⟩
  · refine ⟨_, rfl, _, rfl, sl 1, fun l1 n1 => ⟨_, rfl, sl 1, fun l2 n2 => ⟨sl 3, fun l3 n3 => ?_⟩⟩⟩
    obtain ⟨m, s⟩ := mk_new (v := .int i) (d := .int i) (us := [sI i]) (ls := [sI i]) (n := 2) (rest := []) dr2 rfl n1 n2 n3 (by simp) (by simp) (by simp)
    exact q l3 _ _ _ _ ⟨rfl, i, oi, rfl, by unfold intT; rw [if_neg (by omega)]⟩ m (dr2.same s) (k12.trans (Keep.of s))
  · have o2 : okI (0 - i) := by unfold okI; omega
    refine ⟨_, rfl, _, _, rfl, rfl, _, rfl, _, _, rfl, rfl, _, rfl, ite2 (fun h => ?_) (fun h => ?_)⟩
    · have h' : 0 < i := of_decide_eq_true h
      refine ⟨_, rfl, sl 2, fun l1 n1 => ⟨_, rfl, sl 2, fun l2 n2 => ⟨sl 3, fun l3 n3 => ?_⟩⟩⟩
      obtain ⟨m, s⟩ := mk_new (v := .int (0 - i)) (d := .int (0 - i)) (us := ["-", sI i]) (ls := ["-", sI i]) (n := 2) (rest := []) dr2 rfl n1 n2 n3 (by simp) (by simp) (by simp)
      exact q l3 _ _ _ _ ⟨rfl, 0 - i, o2, rfl, by unfold intT; rw [if_pos (by omega), show -(0 - i) = i by omega]⟩ m (dr2.same s) (k12.trans (Keep.of s))
    · have h' : ¬ 0 < i := fun z => h (decide_eq_true z)
      have e0 : i = 0 := by omega
      refine ⟨_, rfl, sl 1, fun l1 n1 => ⟨_, rfl, sl 2, fun l2 n2 => ⟨sl 3, fun l3 n3 => ?_⟩⟩⟩
      obtain ⟨m, s⟩ := mk_new (v := .int (0 - i)) (d := .int (0 - i)) (us := [sI i]) (ls := ["-", sI i]) (n := 2) (rest := []) dr2 rfl n1 n2 n3 (by simp) (by simp) (by simp)
      exact q l3 _ _ _ _ ⟨rfl, 0 - i, o2, rfl, by unfold intT; rw [if_neg (by omega), show (0 - i) = i by omega]⟩ m (dr2.same s) (k12.trans (Keep.of s))
end

theorem pc_strs {D : Addr} {H : Hp} : ∀ zs : List Str, All2 (Pc D H) (zs.map V.str) (zs.map fun s => (([s] : List Str), 1))
  | [] => trivial
  | _ :: r => ⟨.inl ⟨_, rfl, rfl⟩, pc_strs r⟩
theorem toks_strs : ∀ zs : List Str, toks (zs.map fun s => (([s] : List Str), 1)) = zs
  | [] => rfl
  | s :: r => by
    show [s] ++ toks (r.map fun s => (([s] : List Str), 1)) = _
    rw [toks_strs r]
    rfl
theorem cost_strs : ∀ zs : List Str, cost (zs.map fun s => (([s] : List Str), 1)) = zs.length
  | [] => rfl
  | s :: r => by
    show 1 + cost (r.map fun s => (([s] : List Str), 1)) = _
    rw [cost_strs r, List.length_cons, Nat.add_comm]
/-- a made thing of texts -/
theorem made_strs {D c : Addr} {H : Hp} {x : V} {d : PyData} {zs : List Str} {q0 : Addr} {Q : VK} (dr : Dr D c H) (hx : Td H d x) (hq : H q0 = some (.lst (zs.map V.str))) (hz : zs.length ≤ 1000)
    (q : ∀ (p : Addr) (H' : Hp), Same H H' → Mk D H' p d zs zs.length [] → Q (.ref p) H') : ∃ a b, ([x, .ref q0] : List V) = [a, b] ∧ rMade a b H Q := by
  obtain ⟨xs, hD⟩ := dr.there
  exact ⟨_, _, rfl, D, d, q0, _, _, hx, rfl, hq, pc_strs zs, by rw [cost_strs]; omega, ⟨_, hD⟩, fun p H' s m => q p H' s (by rw [toks_strs, cost_strs] at m; exact m)⟩
def RNum : PyData → List Str → Nat → Prop := fun t us n => n ≤ 20 ∧ KB t us
section
variable {P : Program} {w : World} {K : PySem.W.Frag} {mg : Str → Option Value} {base : Heap}
theorem ok_drawn_case (T : Tx K mg w) : FnOk P w K mg base CX0 5 T.f_drawn_case T.fd_drawn_case ["_law_d"] (sp1 (rMk RCase)) := by
  refine okR1 T.F_drawn_case sc_drawn_case rfl fun cdv A outer s H Q EE x hr h => ?_
  obtain ⟨d, c, rfl, dr, q⟩ := h
  refine ⟨_, pss_cons (ps_set (i := 1) sc_drawn_case.nd rfl (Or.inl rfl) (pe_call (ok_draw T) (hr.mono (by decide)) rfl T.m_draw T.F_draw.kp T.b_draw .nil pass0 (pa_cons (pv 0) (pa_cons pe_int pa_nil))))
      (pss_cons (ps_if (pt_cmpR op_lt (pv 1) pe_int (nomark _)) (pss_one (ps_ret (pe_call (ok_made T) (hr.mono (by decide)) rfl T.m_made T.F_made.kp T.b_made .nil pass0 (pa_cons (pe_tup (pa_cons pe_str (pa_cons (pv 1) pa_nil))) (pa_cons (pe_lst (pa_cons (pe_ix ix_list (pe_lst (pa_cons pe_str (pa_cons pe_str pa_nil))) (pv 1) (fun _ _ => rfl)) pa_nil)) pa_nil))))) pss_nil)
      (pss_cons (ps_set (i := 2) sc_drawn_case.nd rfl (Or.inl rfl) (pe_call (ok_drawn_name T) (hr.mono (by decide)) rfl T.m_drawn_name T.F_drawn_name.kp T.b_drawn_name .nil pass0 (pa_cons (pv 0) pa_nil)))
      (pss_cons (ps_set (i := 3) sc_drawn_case.nd rfl (Or.inl rfl) (pe_call (ok_drawn_name T) (hr.mono (by decide)) rfl T.m_drawn_name T.F_drawn_name.kp T.b_drawn_name .nil pass0 (pa_cons (pv 0) pa_nil)))
      (pss_one (ps_ret (pe_call (ok_made T) (hr.mono (by decide)) rfl T.m_made T.F_made.kp T.b_made .nil pass0 (pa_cons (pe_tup (pa_cons pe_str (pa_cons (pv 2) (pa_cons (pv 3) pa_nil)))) (pa_cons (pe_lst (pa_cons (pv 2) (pa_cons pe_str (pa_cons (pv 3) pa_nil)))) pa_nil)))))))), ?_⟩
  refine ⟨_, rfl, _, _, rfl, d, c, 4, rfl, rfl, dr, by omega, by omega, fun r H2 r0 r1 dr2 k2 => ?_⟩
  refine ⟨_, rfl, _, _, rfl, rfl, _, rfl, ite2 (fun h => ?_) (fun _ => ?_)⟩
  · have h2 : r < 2 := of_decide_eq_true h
    refine ⟨_, rfl, sl 2, fun t1 m1 => ⟨sl 2, fun l1 n1 => ?_⟩⟩
    have hx := td2 (a := .str "truth") (b := .int r) (x := .str "truth") (y := .int r) m1 rfl rfl
    have s1 := same_new (o := .tup [V.str "truth", V.int r]) m1
    have s2 := same_new (o := .lst [V.str "false", V.str "true"]) n1
    have g2 : upd (upd H2 t1 (.tup [V.str "truth", V.int r])) l1 (.lst [V.str "false", V.str "true"]) l1 = some (.lst [V.str "false", V.str "true"]) := upd_same
    have hx := Td.mono (TS.of s2) _ _ hx
    have s12 := s1.trans s2
    generalize upd (upd H2 t1 (.tup [V.str "truth", V.int r])) l1 (.lst [V.str "false", V.str "true"]) = H3 at hx s12 g2 ⊢
    have dr3 := dr2.same s12
    obtain ⟨z, hz, ez⟩ : ∃ z : Str, atI [V.str "false", V.str "true"] r = some (.str z) ∧ z = if r = 1 then ("true" : Str) else ("false" : Str) := by
      rcases (show r = 0 ∨ r = 1 by omega) with rfl | rfl
      · exact ⟨"false", at_n 0 rfl, rfl⟩
      · exact ⟨"true", at_n 1 rfl, rfl⟩
    refine ⟨_, rfl, l1, _, _, _, rfl, rfl, SqL.of g2, hz, sl 1, fun l2 n2 => ?_⟩
    have s3 := same_new (o := .lst [V.str z]) n2
    refine made_strs (zs := [z]) (dr3.same s3) (Td.mono (TS.of s3) _ _ hx) upd_same (by simp) fun p H5 s5 m5 => ?_
    have s := (s12.trans s3).trans s5
    exact q p H5 _ _ _ ⟨by simp, .inl ⟨r, by omega, rfl, by rw [ez]⟩⟩ m5 (dr2.same s) (k2.trans (Keep.of s))
  · refine ⟨_, rfl, _, rfl, d, c, rfl, dr2, fun z1 H3 o1 dr3 k3 => ?_⟩
    refine ⟨_, rfl, _, rfl, d, c, rfl, dr3, fun z2 H4 o2 dr4 k4 => ?_⟩
    have k24 := (k2.trans k3).trans k4
    refine ⟨_, rfl, _, rfl, sl 3, fun t1 m1 => ⟨_, rfl, _, rfl, sl 3, fun l2 n2 => ?_⟩⟩
    have hx := td3 (a := .str "value") (b := .str z1) (c := .str z2) (x := .str "value") (y := .str z1) (z := .str z2) m1 rfl rfl rfl
    have s1 := same_new (o := .tup [V.str "value", V.str z1, V.str z2]) m1
    have s3 := same_new (o := .lst [V.str z1, V.str ".", V.str z2]) n2
    refine made_strs (zs := [z1, ".", z2]) ((dr4.same s1).same s3) (Td.mono (TS.of s3) _ _ hx) upd_same (by simp) fun p H5 s5 m5 => ?_
    have s := (s1.trans s3).trans s5
    exact q p H5 _ _ _ ⟨by simp, .inr ⟨z1, z2, o1, o2, rfl, rfl⟩⟩ m5 (dr4.same s) (k24.trans (Keep.of s))
theorem ok_drawn_layer (T : Tx K mg w) : FnOk P w K mg base CX0 6 T.f_drawn_layer T.fd_drawn_layer ["_law_d"] (sp1 (rMk RLayer)) := by
  refine okR1 T.F_drawn_layer sc_drawn_layer rfl fun cdv A outer s H Q EE x hr h => ?_
  obtain ⟨d, c, rfl, dr, q⟩ := h
  refine ⟨_, pss_cons (ps_if (pt_cmpR op_eq (pe_call (ok_draw T) (hr.mono (by decide)) rfl T.m_draw T.F_draw.kp T.b_draw .nil pass0 (pa_cons (pv 0) (pa_cons pe_int pa_nil))) pe_int (nomark _)) (pss_cons (ps_set (i := 1) sc_drawn_layer.nd rfl (Or.inl rfl) (pe_call (ok_drawn_name T) (hr.mono (by decide)) rfl T.m_drawn_name T.F_drawn_name.kp T.b_drawn_name .nil pass0 (pa_cons (pv 0) pa_nil)))
      (pss_cons (ps_set (i := 2) sc_drawn_layer.nd rfl (Or.inl rfl) (pe_call (ok_drawn_case T) (hr.mono (by decide)) rfl T.m_drawn_case T.F_drawn_case.kp T.b_drawn_case .nil pass0 (pa_cons (pv 0) pa_nil)))
      (pss_one (ps_ret (pe_call (ok_made T) (hr.mono (by decide)) rfl T.m_made T.F_made.kp T.b_made .nil pass0 (pa_cons (pe_tup (pa_cons pe_str (pa_cons (pv 1) (pa_cons (pe_ix ix_list (pv 2) pe_int (fun _ _ => rfl)) pa_nil)))) (pa_cons (pe_lst (pa_cons (pv 1) (pa_cons pe_str (pa_cons (pv 2) pa_nil)))) pa_nil))))))) pss_nil)
      (pss_cons (ps_set (i := 3) sc_drawn_layer.nd rfl (Or.inl rfl) (pe_call (ok_drawn_number T) (hr.mono (by decide)) rfl T.m_drawn_number T.F_drawn_number.kp T.b_drawn_number .nil pass0 (pa_cons (pv 0) pa_nil)))
      (pss_cons (ps_set (i := 4) sc_drawn_layer.nd rfl (Or.inl rfl) (pe_call (ok_drawn_number T) (hr.mono (by decide)) rfl T.m_drawn_number T.F_drawn_number.kp T.b_drawn_number .nil pass0 (pa_cons (pv 0) pa_nil)))
      (pss_one (ps_ret (pe_call (ok_made T) (hr.mono (by decide)) rfl T.m_made T.F_made.kp T.b_made .nil pass0 (pa_cons (pe_tup (pa_cons pe_str (pa_cons (pv 3) (pa_cons (pv 4) pa_nil)))) (pa_cons (pe_lst (pa_cons pe_str (pa_cons (pe_callTy call_str_int (by rfl) T.z_str (by decide +kernel) (pa_cons (pv 3) pa_nil)) (pa_cons pe_str (pa_cons (pe_callTy call_str_int (by rfl) T.z_str (by decide +kernel) (pa_cons (pv 4) pa_nil)) pa_nil))))) pa_nil))))))), ?_⟩
  refine ⟨_, rfl, _, _, rfl, d, c, 2, rfl, rfl, dr, by omega, by omega, fun r H2 r0 r1 dr2 k2 => ?_⟩
  refine ⟨rfl, _, rfl, ite2 (fun _ => ?_) (fun _ => ?_)⟩
  · refine ⟨_, rfl, _, rfl, d, c, rfl, dr2, fun z1 H3 o1 dr3 k3 => ?_⟩
    refine ⟨_, rfl, _, rfl, d, c, rfl, dr3, fun p4 H4 t4 us4 n4 ⟨nn, vt⟩ m4 dr4 k4 => ?_⟩
    have k24 := (k2.trans k3).trans k4
    obtain ⟨v0, a0, b0, ls0, hp4, hv4, _⟩ := id m4
    refine ⟨_, rfl, _, rfl, p4, _, _, _, rfl, rfl, SqL.of hp4, at_n 0 rfl, sl 3, fun t1 m1 => ⟨_, rfl, _, rfl, sl 3, fun l2 n2 => ?_⟩⟩
    have hx := td3 (a := .str "is") (b := .str z1) (c := v0) (x := .str "is") (y := .str z1) (z := t4) m1 rfl rfl hv4
    have s1 := same_new (o := .tup [V.str "is", V.str z1, v0]) m1
    have s3 := same_new (o := .lst [V.str z1, V.str "is", V.ref p4]) n2
    have s13 := s1.trans s3
    obtain ⟨xs, hD⟩ := (dr4.same s13).there
    have m6 := m4.same s13
    refine ⟨_, _, rfl, d, _, l2, _, [([z1], 1), (["is"], 1), (us4, n4)], Td.mono (TS.of s3) _ _ hx, rfl, upd_same, ⟨.inl ⟨_, rfl, rfl⟩, .inl ⟨_, rfl, rfl⟩, .inr ⟨p4, t4, [], rfl, m6⟩, trivial⟩, by simp only [cost, List.map_cons, List.map_nil, List.sum_cons, List.sum_nil]; omega, ⟨_, hD⟩, fun p H5 s5 m5 => ?_⟩
    have s := s13.trans s5
    refine q p H5 _ _ _ ⟨by simp only [cost, List.map_cons, List.map_nil, List.sum_cons, List.sum_nil]; omega, .inr ⟨z1, t4, us4, o1, vt, rfl, ?_⟩⟩ m5 (dr4.same s) (k24.trans (Keep.of s))
    simp [toks]
  · refine ⟨_, rfl, _, rfl, d, c, rfl, dr2, fun i1 H3 a1 b1 dr3 k3 => ?_⟩
    refine ⟨_, rfl, _, rfl, d, c, rfl, dr3, fun i2 H4 a2 b2 dr4 k4 => ?_⟩
    have k24 := (k2.trans k3).trans k4
    have oi1 : okI i1 := by unfold okI; omega
    have oi2 : okI i2 := by unfold okI; omega
    refine ⟨_, rfl, _, rfl, sl 3, fun t1 m1 => ⟨_, rfl, _, rfl, log_ok oi1, _, rfl, _, rfl, log_ok oi2, sl 4, fun l2 n2 => ?_⟩⟩
    have hx := td3 (a := .str "every") (b := .int i1) (c := .int i2) (x := .str "every") (y := .int i1) (z := .int i2) m1 rfl rfl rfl
    have s1 := same_new (o := .tup [V.str "every", V.int i1, V.int i2]) m1
    have s3 := same_new (o := .lst [V.str "every", V.str (sI i1), V.str "from", V.str (sI i2)]) n2
    refine made_strs (zs := ["every", sI i1, "from", sI i2]) ((dr4.same s1).same s3) (Td.mono (TS.of s3) _ _ hx) upd_same (by simp) fun p H5 s5 m5 => ?_
    have s := (s1.trans s3).trans s5
    exact q p H5 _ _ _ ⟨by simp, .inl ⟨i1, i2, oi1, oi2, a1, a2, rfl, rfl⟩⟩ m5 (dr4.same s) (k24.trans (Keep.of s))
end

def RKind : PyData → List Str → Nat → Prop := fun t us n => n ≤ 100 ∧ KT 2 t us
theorem inter_map {α β : Type} (f : α → β) (c : α) : ∀ l : List α, inter (f c) (l.map f) = (inter c l).map f
  | [] => rfl
  | a :: r => by
    show f a :: ((r.map f).map fun x => [f c, x]).flatten = (a :: (r.map fun x => [c, x]).flatten).map f
    rw [List.map_cons]
    refine congrArg (f a :: ·) ?_
    induction r with
    | nil => rfl
    | cons b r ih =>
      rw [List.map_cons, List.map_cons, List.flatten_cons, List.map_cons, List.flatten_cons, List.map_append, ih]
      rfl
theorem inter_com (ns : List Str) : inter (("," : Str)) ns = comL (ns.map fun s => [s]) := by
  cases ns with
  | nil => rfl
  | cons a r =>
    show a :: (r.map fun x => [(",":Str), x]).flatten = [a] ++ ((r.map fun s => [s]).map fun u => ("," : Str) :: u).flatten
    rw [List.map_map]
    rfl
theorem KT.up {d : PyData} {ts : List Str} : ∀ {n m : Nat}, KT n d ts → n ≤ m → KT m d ts := by
  intro n
  induction n generalizing d ts with
  | zero =>
    intro m h _
    cases m with
    | zero => exact h
    | succ m => exact .inl h
  | succ n ih =>
    intro m h hm
    cases m with
    | zero => omega
    | succ m =>
      rcases h with h | ⟨k, i, t, h1, h2⟩
      · exact .inl h
      · exact .inr ⟨k, i, t, ih h1 (by omega), h2⟩
section
variable {P : Program} {w : World} {K : PySem.W.Frag} {mg : Str → Option Value} {base : Heap}
theorem ok_drawn_num (T : Tx K mg w) : FnOk P w K mg base CX0 5 T.f_drawn_num T.fd_drawn_num ["_law_d"] (sp1 (rMk RNum)) := by
  refine okR1 T.F_drawn_num sc_drawn_num rfl fun cdv A outer s H Q EE x hr h => ?_
  obtain ⟨d, c, rfl, dr, q⟩ := h
  refine ⟨_, pss_cons (ps_set (i := 1) sc_drawn_num.nd rfl (Or.inl rfl) (pe_call (ok_drawn_int T) (hr.mono (by decide)) rfl T.m_drawn_int T.F_drawn_int.kp T.b_drawn_int .nil pass0 (pa_cons (pv 0) pa_nil)))
      (pss_cons (ps_set (i := 2) sc_drawn_num.nd rfl (Or.inl rfl) (pe_call (ok_drawn_int T) (hr.mono (by decide)) rfl T.m_drawn_int T.F_drawn_int.kp T.b_drawn_int .nil pass0 (pa_cons (pv 0) pa_nil)))
      (pss_cons (ps_set (i := 3) sc_drawn_num.nd rfl (Or.inl rfl) (pe_call (ok_pick T) (hr.mono (by decide)) rfl T.m_pick T.F_pick.kp T.b_pick .nil pass0 (pa_cons (pv 0) (pa_cons (pe_lst (pa_cons pe_str (pa_cons pe_str pa_nil))) pa_nil))))
      (pss_cons (ps_set (i := 4) sc_drawn_num.nd rfl (Or.inl rfl) (pe_call (ok_draw T) (hr.mono (by decide)) rfl T.m_draw T.F_draw.kp T.b_draw .nil pass0 (pa_cons (pv 0) (pa_cons pe_int pa_nil))))
      (pss_cons (ps_set (i := 5) sc_drawn_num.nd rfl (Or.inl rfl) (pe_ifExp (pt_cmpR op_lt (pv 4) pe_int (nomark _)) (pe_call (ok_drawn_number T) (hr.mono (by decide)) rfl T.m_drawn_number T.F_drawn_number.kp T.b_drawn_number .nil pass0 (pa_cons (pv 0) pa_nil)) pe_int))
      (pss_cons (ps_set (i := 6) sc_drawn_num.nd rfl (Or.inl rfl) (pe_lst (pa_cons (pv 5) (pa_cons (pe_lst (pa_cons pe_str (pa_cons (pe_callTy call_str_int (by rfl) T.z_str (by decide +kernel) (pa_cons (pv 5) pa_nil)) pa_nil))) (pa_cons (pe_lst (pa_cons pe_str (pa_cons (pe_callTy call_str_int (by rfl) T.z_str (by decide +kernel) (pa_cons (pv 5) pa_nil)) pa_nil))) pa_nil)))))
      (C8.pss_cut (ps_if (pt_cmpR op_eq (pv 5) pe_int (nomark _)) (pss_one (ps_set (i := 6) sc_drawn_num.nd rfl (Or.inl rfl) (pe_lst (pa_cons pe_int (pa_cons (pe_lst pa_nil) (pa_cons (pe_ifExp (pt_cmpR op_eq (pv 4) pe_int (nomark _)) (pe_lst (pa_cons pe_str (pa_cons pe_str pa_nil))) (pe_lst pa_nil)) pa_nil)))))) pss_nil)
      (pss_one (ps_ret (pe_call (ok_made T) (hr.mono (by decide)) rfl T.m_made T.F_made.kp T.b_made .nil pass0 (pa_cons (pe_tup (pa_cons pe_str (pa_cons (pe_ix ix_list (pv 1) pe_int (fun _ _ => rfl)) (pa_cons (pe_ix ix_list (pv 2) pe_int (fun _ _ => rfl)) (pa_cons (pv 5) (pa_cons (pv 3) pa_nil)))))) (pa_cons (pe_lst (pa_cons pe_str (pa_cons (pv 1) (pa_cons pe_str (pa_cons (pv 2) (pa_cons (pv 6) (pa_cons (pv 3) pa_nil))))))) pa_nil))))))))))), ?_⟩
  refine ⟨_, rfl, _, rfl, d, c, rfl, dr, fun p1 H1 t1 us1 n1 ⟨e1, lo, olo, et1, eu1⟩ m1 dr1 k1 => ?_⟩
  refine ⟨_, rfl, _, rfl, d, c, rfl, dr1, fun p2 H2 t2 us2 n2 ⟨e2, hi, ohi, et2, eu2⟩ m2 dr2 k2 => ?_⟩
  subst e1 et1 eu1 e2 et2 eu2
  have m1 := m1.keep dr1 k2
  refine ⟨_, rfl, sl 2, fun l3 n3 => ?_⟩
  have s3 := same_new (o := .lst [V.str "wrap", V.str "hold"]) n3
  refine ⟨_, _, rfl, d, c, [.str "wrap", .str "hold"], rfl, dr2.same s3, by simp, by simp, .inl ⟨l3, rfl, dr2.dne n3, upd_same⟩, fun v H4 hv dr4 k4 => ?_⟩
  obtain ⟨how, rfl, oh⟩ : ∃ z : Str, v = .str z ∧ okN z := by
    simp only [List.mem_cons, List.not_mem_nil, or_false] at hv
    rcases hv with rfl | rfl
    · exact ⟨_, rfl, (by decide +kernel : ("wrap" : Str).length ≤ 12)⟩
    · exact ⟨_, rfl, (by decide +kernel : ("hold" : Str).length ≤ 12)⟩
  have m1 := (m1.same s3).keep (dr2.same s3) k4
  have m2 := (m2.same s3).keep (dr2.same s3) k4
  have k14 := ((k1.trans k2).trans (Keep.of s3)).trans k4
  refine ⟨_, rfl, _, _, rfl, d, c, 5, rfl, rfl, dr4, by omega, by omega, fun r H5 r0 r1 dr5 k5 => ?_⟩
  have m1 := m1.keep dr4 k5
  have m2 := m2.keep dr4 k5
  have k15 := k14.trans k5
  -- the rest, from the number on
  refine (fun (rest : ∀ (per : Int) (H6 : Hp), 0 ≤ per → per ≤ 1000 → Dr d c H6 → Keep d H5 H6 → _) => ⟨_, rfl, _, _, rfl, rfl, _, rfl, ite2 (fun _ => ⟨_, rfl, _, rfl, d, c, rfl, dr5, fun per H6 a6 b6 dr6 k6 => rest per H6 a6 b6 dr6 k6⟩) (fun _ => rest 1 H5 (by omega) (by omega) dr5 (Keep.refl _ _))⟩) ?_
  intro per H6 a6 b6 dr6 k6
  have op : okI per := by unfold okI; omega
  have m1 := m1.keep dr5 k6
  have m2 := m2.keep dr5 k6
  have k16 := k15.trans k6
  refine ⟨_, rfl, _, rfl, _, rfl, log_ok op, sl 2, fun l1 n1 => ⟨_, rfl, _, rfl, log_ok op, sl 2, fun l2 n2 => ⟨sl 3, fun l3 n3 => ?_⟩⟩⟩
  obtain ⟨m7, s7⟩ := mk_new (v := .int per) (d := .int per) (us := ["per", sI per]) (ls := ["per", sI per]) (n := 2) (rest := []) dr6 rfl n1 n2 n3 (by simp) (by simp) (by simp)
  refine ⟨fun σ H8 => ∃ (p7 : Addr), σ = [some (.ref d), some (.ref p1), some (.ref p2), some (.str how), some (.int r), some (.int per), some (.ref p7)] ∧ Same H6 H8 ∧ Mk d H8 p7 (.int per) (if per = 1 then [] else ["per", sI per]) 2 [], ?_, ?_⟩
  · refine ⟨_, rfl, rfl, _, rfl, ite2 (fun h => ?_) (fun h => ?_)⟩
    · have e1 : per = 1 := V.int.inj (of_decide_eq_true h)
      subst e1
      have dr8 := dr6.same s7
      refine ⟨sl 0, fun l4 n4 => ⟨_, rfl, rfl, _, rfl, ite2 (fun _ => ?_) (fun _ => ?_)⟩⟩
      · refine ⟨sl 2, fun l5 n5 => ⟨sl 3, fun l6 n6 => ?_⟩⟩
        obtain ⟨m9, s9⟩ := mk_new (v := .int 1) (d := .int 1) (us := []) (ls := ["per", "1"]) (n := 2) (rest := []) dr8 rfl n4 n5 n6 (by simp) (by simp) (by simp)
        exact ⟨l6, rfl, s7.trans s9, m9⟩
      · refine ⟨sl 0, fun l5 n5 => ⟨sl 3, fun l6 n6 => ?_⟩⟩
        obtain ⟨m9, s9⟩ := mk_new (v := .int 1) (d := .int 1) (us := []) (ls := []) (n := 2) (rest := []) dr8 rfl n4 n5 n6 (by simp) (by simp) (by simp)
        exact ⟨l6, rfl, s7.trans s9, m9⟩
    · refine ⟨l3, rfl, s7, ?_⟩
      rw [if_neg (fun z => h (decide_eq_true (congrArg V.int z)))]
      exact m7
  · rintro σ H8 ⟨p7, rfl, s8, m8⟩
    have m1 := m1.same s8
    have m2 := m2.same s8
    have dr8 := dr6.same s8
    obtain ⟨v1, _, _, _, g1, h1, _⟩ := id m1
    obtain ⟨v2, _, _, _, g2, h2, _⟩ := id m2
    refine ⟨_, rfl, p1, _, _, _, rfl, rfl, SqL.of g1, at_n 0 rfl, _, rfl, p2, _, _, _, rfl, rfl, SqL.of g2, at_n 0 rfl, _, rfl, _, rfl, sl 5, fun t1 nt => ⟨_, rfl, _, rfl, _, rfl, _, rfl, sl 6, fun l9 n9 => ?_⟩⟩
    have hx := td5 (a := .str "num") (b := v1) (c := v2) (d := .int per) (e := .str how) (x := .str "num") (y := .int lo) (z := .int hi) (u := .int per) (v := .str how) nt rfl h1 h2 rfl rfl
    have s9 := same_new (o := .tup [V.str "num", v1, v2, V.int per, V.str how]) nt
    have s10 := same_new (o := .lst [V.str "num", V.ref p1, V.str "..", V.ref p2, V.ref p7, V.str how]) n9
    have s11 := s9.trans s10
    obtain ⟨xs, hD⟩ := (dr8.same s11).there
    refine ⟨_, _, rfl, d, _, l9, _, [(["num"], 1), (intT lo, 2), ([".."], 1), (intT hi, 2), (if per = 1 then [] else ["per", sI per], 2), ([how], 1)], Td.mono (TS.of s10) _ _ hx, rfl, upd_same, ⟨.inl ⟨_, rfl, rfl⟩, .inr ⟨p1, _, [], rfl, m1.same s11⟩, .inl ⟨_, rfl, rfl⟩, .inr ⟨p2, _, [], rfl, m2.same s11⟩, .inr ⟨p7, _, [], rfl, m8.same s11⟩, .inl ⟨_, rfl, rfl⟩, trivial⟩, by simp only [cost, List.map_cons, List.map_nil, List.sum_cons, List.sum_nil]; omega, ⟨_, hD⟩, fun p Hz sz mz => ?_⟩
    have sa := (s8.trans s11).trans sz
    refine q p Hz _ _ _ ⟨by simp only [cost, List.map_cons, List.map_nil, List.sum_cons, List.sum_nil]; omega, .inr (.inr (.inr ⟨lo, hi, per, how, olo, ohi, op, a6, oh, rfl, ?_⟩))⟩ mz (dr6.same sa) (k16.trans (Keep.of sa))
    simp [toks]
end

theorem TdAll.ofStrs {H : Hp} : ∀ ns : List Str, TdAll H (ns.map PyData.str) (ns.map V.str)
  | [] => rfl
  | s :: r => ⟨.str s, _, rfl, rfl, TdAll.ofStrs r⟩
section
variable {P : Program} {w : World} {K : PySem.W.Frag} {mg : Str → Option Value} {base : Heap}
theorem ok_drawn_kind (T : Tx K mg w) : FnOk P w K mg base CX0 6 T.f_drawn_kind T.fd_drawn_kind ["_law_d"] (sp1 (rMk RKind)) := by
  refine okR1 T.F_drawn_kind sc_drawn_kind rfl fun cdv A outer s H Q EE x hr h => ?_
  obtain ⟨d, c, rfl, dr, q⟩ := h
  refine ⟨_, pss_cons (ps_set (i := 1) sc_drawn_kind.nd rfl (Or.inl rfl) (pe_call (ok_draw T) (hr.mono (by decide)) rfl T.m_draw T.F_draw.kp T.b_draw .nil pass0 (pa_cons (pv 0) (pa_cons pe_int pa_nil))))
      (pss_cons (ps_set (i := 2) sc_drawn_kind.nd rfl (Or.inl rfl) (pe_ix ix_list (pe_lst (pa_cons pe_int (pa_cons pe_int (pa_cons pe_int (pa_cons pe_int (pa_cons pe_int (pa_cons pe_int pa_nil))))))) (pe_call (ok_draw T) (hr.mono (by decide)) rfl T.m_draw T.F_draw.kp T.b_draw .nil pass0 (pa_cons (pv 0) (pa_cons pe_int pa_nil))) (fun _ _ => rfl)))
      (C8.pss_cut (ps_if (pt_cmpR op_eq (pv 1) pe_int (nomark _)) (pss_one (ps_set (i := 3) sc_drawn_kind.nd rfl (Or.inl rfl) (pe_call (ok_made T) (hr.mono (by decide)) rfl T.m_made T.F_made.kp T.b_made .nil pass0 (pa_cons (pe_tup (pa_cons pe_str pa_nil)) (pa_cons (pe_lst (pa_cons pe_str pa_nil)) pa_nil))))) (pss_one (ps_if (pt_cmpR op_eq (pv 1) pe_int (nomark _)) (pss_one (ps_set (i := 3) sc_drawn_kind.nd rfl (Or.inl rfl) (pe_call (ok_drawn_num T) (hr.mono (by decide)) rfl T.m_drawn_num T.F_drawn_num.kp T.b_drawn_num .nil pass0 (pa_cons (pv 0) pa_nil)))) (pss_one (ps_if (pt_cmpR op_eq (pv 1) pe_int (nomark _)) (pss_cons (ps_set (i := 4) sc_drawn_kind.nd rfl (Or.inl rfl) (pe_lst pa_nil))
      (pss_cons (ps_for PassesOwn.never rfl (pi_range1 rfl T.z_range (pa_cons (pe_ix ix_list (pe_lst (pa_cons pe_int (pa_cons pe_int (pa_cons pe_int (pa_cons pe_int (pa_cons pe_int (pa_cons pe_int (pa_cons pe_int (pa_cons pe_int pa_nil))))))))) (pe_call (ok_draw T) (hr.mono (by decide)) rfl T.m_draw T.F_draw.kp T.b_draw .nil pass0 (pa_cons (pv 0) (pa_cons pe_int pa_nil))) (fun _ _ => rfl)) pa_nil)) (pg_name (i := 5) sc_drawn_kind.nd rfl (Or.inl rfl))
      (pss_one (ps_expr (pe_bm PySem.F.plainAttrs_list PySem.F.slot_list_append PySem.F.type_list_append mt_append (pv 4) (pa_cons (pe_call (ok_drawn_name T) (hr.mono (by decide)) rfl T.m_drawn_name T.F_drawn_name.kp T.b_drawn_name .nil pass0 (pa_cons (pv 0) pa_nil)) pa_nil)))))
      (pss_one (ps_set (i := 3) sc_drawn_kind.nd rfl (Or.inl rfl) (pe_call (ok_made T) (hr.mono (by decide)) rfl T.m_made T.F_made.kp T.b_made .nil pass0 (pa_cons (pe_tup (pa_cons pe_str (pa_cons (pe_callTy (show CallR _ (.type "tuple") (rTupOf K) from call_tup) (by rfl) T.z_tuple (by decide +kernel) (pa_cons (pv 4) pa_nil)) pa_nil))) (pa_cons (pe_op op_cat (pe_op op_cat (pe_lst (pa_cons pe_str (pa_cons pe_str pa_nil))) (pe_call (ok_commas T) (hr.mono (by decide)) rfl T.m_commas T.F_commas.kp T.b_commas .nil pass0 (pa_cons (pv 4) pa_nil))) (pe_lst (pa_cons pe_str pa_nil))) pa_nil))))))) (pss_cons (ps_set (i := 6) sc_drawn_kind.nd rfl (Or.inl rfl) (pe_call (ok_drawn_name T) (hr.mono (by decide)) rfl T.m_drawn_name T.F_drawn_name.kp T.b_drawn_name .nil pass0 (pa_cons (pv 0) pa_nil)))
      (pss_one (ps_set (i := 3) sc_drawn_kind.nd rfl (Or.inl rfl) (pe_call (ok_made T) (hr.mono (by decide)) rfl T.m_made T.F_made.kp T.b_made .nil pass0 (pa_cons (pe_tup (pa_cons pe_str (pa_cons (pv 6) pa_nil))) (pa_cons (pe_lst (pa_cons (pv 6) pa_nil)) pa_nil)))))))))))
      (pss_cons (ps_for PassesOwn.never rfl (pi_range1 rfl T.z_range (pa_cons (pv 2) pa_nil)) (pg_name (i := 5) sc_drawn_kind.nd rfl (Or.inl rfl))
      (pss_cons (ps_set (i := 7) sc_drawn_kind.nd rfl (Or.inl rfl) (pe_call (ok_drawn_number T) (hr.mono (by decide)) rfl T.m_drawn_number T.F_drawn_number.kp T.b_drawn_number .nil pass0 (pa_cons (pv 0) pa_nil)))
      (pss_one (ps_set (i := 3) sc_drawn_kind.nd rfl (Or.inl rfl) (pe_call (ok_made T) (hr.mono (by decide)) rfl T.m_made T.F_made.kp T.b_made .nil pass0 (pa_cons (pe_tup (pa_cons pe_str (pa_cons (pe_ix ix_list (pv 3) pe_int (fun _ _ => rfl)) (pa_cons (pv 7) pa_nil)))) (pa_cons (pe_lst (pa_cons pe_str (pa_cons (pe_callTy call_str_int (by rfl) T.z_str (by decide +kernel) (pa_cons (pv 7) pa_nil)) (pa_cons pe_str (pa_cons (pv 3) pa_nil))))) pa_nil)))))))
      (pss_one (ps_ret (pv 3)))))), ?_⟩
  refine ⟨_, rfl, _, _, rfl, d, c, 4, rfl, rfl, dr, by omega, by omega, fun r H1 r0 r1 dr1 k1 => ?_⟩
  refine ⟨sl 6, fun l1 n1 => ?_⟩
  have s1 := same_new (o := .lst [V.int 0, V.int 0, V.int 0, V.int 2, V.int 1, V.int 0]) n1
  have ld := dr1.dne n1
  refine ⟨_, rfl, _, _, rfl, d, c, 6, rfl, rfl, dr1.same s1, by omega, by omega, fun r2 H2 q0 q1 dr2 k2 => ?_⟩
  obtain ⟨rows, hn, hm⟩ := at_int (ns := [0, 0, 0, 2, 1, 0]) q0 q1
  have rb : 0 ≤ rows ∧ rows ≤ 2 := by
    simp only [List.mem_cons, List.not_mem_nil, or_false] at hm
    omega
  refine ⟨l1, _, _, _, rfl, rfl, SqL.of (k2 _ _ upd_same ld), hn, ?_⟩
  have k12 := (k1.trans (Keep.of s1)).trans k2
  refine ⟨fun σ H' => ∃ (p : Addr) (t : PyData) (us : List Str) (n : Nat) (v4 v5 v6 : Option V), σ = [some (.ref d), some (.int r), some (.int rows), some (.ref p), v4, v5, v6, none] ∧ KT 0 t us ∧ n ≤ 90 ∧ Mk d H' p t us n [] ∧ Dr d c H' ∧ Keep d H H', ?_, ?_⟩
  · refine ⟨_, rfl, rfl, _, rfl, ite2 (fun _ => ?_) (fun _ => ?_)⟩
    · refine ⟨sl 1, fun t1 nt => ⟨sl 1, fun l2 n2 => ?_⟩⟩
      have hx := td1 (a := .str "bool") (x := .str "bool") nt rfl
      have s3 := same_new (o := .tup [V.str "bool"]) nt
      have s4 := same_new (o := .lst [V.str "bool"]) n2
      refine made_strs (zs := ["bool"]) ((dr2.same s3).same s4) (Td.mono (TS.of s4) _ _ hx) upd_same (by simp) fun p H5 s5 m5 => ?_
      have s := (s3.trans s4).trans s5
      exact ⟨p, _, _, _, none, none, none, rfl, .inl ⟨rfl, rfl⟩, by simp, m5, dr2.same s, k12.trans (Keep.of s)⟩
    refine ⟨_, rfl, rfl, _, rfl, ite2 (fun _ => ?_) (fun _ => ?_)⟩
    · refine ⟨_, rfl, _, rfl, d, c, rfl, dr2, fun p H3 t us n ⟨hn, hk⟩ m dr3 k3 => ?_⟩
      exact ⟨p, t, us, n, none, none, none, rfl, hk, by omega, m, dr3, k12.trans k3⟩
    refine ⟨_, rfl, rfl, _, rfl, ite2 (fun _ => ?_) (fun _ => ?_)⟩
    · refine ⟨sl 0, fun l4 n4 => ⟨sl 8, fun l5 n5 => ?_⟩⟩
      have e45 : l4 ≠ l5 := ne_of_none upd_same n5
      have s4 := same_new (o := .lst []) n4
      have s5 := same_new (o := .lst [V.int 1, V.int 2, V.int 2, V.int 9, V.int 3, V.int 1, V.int 4, V.int 2]) n5
      have d4 := dr2.dne n4
      have d5 := (dr2.same s4).dne n5
      refine ⟨_, rfl, _, _, rfl, d, c, 8, rfl, rfl, (dr2.same s4).same s5, by omega, by omega, fun r3 H3 q2 q3 dr3 k3 => ?_⟩
      obtain ⟨many, hn3, hm3⟩ := at_int (ns := [1, 2, 2, 9, 3, 1, 4, 2]) q2 q3
      have mb : 1 ≤ many ∧ many ≤ 9 := by
        simp only [List.mem_cons, List.not_mem_nil, or_false] at hm3
        omega
      have g4 : H3 l4 = some (.lst (([] : List Str).map V.str)) := k3 _ _ (upd_else upd_same e45) d4
      have k23 : Keep d H2 H3 := (Keep.of (s4.trans s5)).trans k3
      refine ⟨l5, _, _, _, rfl, rfl, SqL.of (k3 _ _ upd_same d5), hn3, ?_⟩
      refine ⟨many, rfl, by omega, by omega, for_range (lo := 0) (n := many.toNat) (fun i σ H' => ∃ (ns : List Str) (v5 : Option V), σ = [some (.ref d), some (.int r), some (.int rows), none, some (.ref l4), v5, none, none] ∧ H' l4 = some (.lst (ns.map V.str)) ∧ ns.length = i ∧ (∀ z ∈ ns, okN z) ∧ Dr d c H' ∧ Keep d H2 H') ⟨[], none, rfl, g4, rfl, by simp, dr3, k23⟩ ?_ ?_⟩
      · rintro i σ H' hi ⟨ns, v5, rfl, h4, ln, hk, dr', k'⟩
        refine ⟨_, rfl, .inl ⟨rfl, _, SqL.of h4⟩, _, rfl, _, rfl, d, c, rfl, dr', fun z H5 oz dr5 k5 => ?_⟩
        have h5 := k5 _ _ h4 d4
        refine ⟨l4, _, _, rfl, rfl, h5, by rw [List.length_map, sizeLine_eq]; omega, ?_⟩
        refine ⟨ns ++ [z], _, rfl, by rw [upd_same, List.map_append]; rfl, by rw [List.length_append, ln]; rfl, ?_, ?_, fun b o e nb => upd_else ((k'.trans k5) b o e nb) (ne_of_none e n4)⟩
        · intro y hy
          rcases List.mem_append.mp hy with hy | hy
          · exact hk y hy
          · rw [List.mem_singleton.mp hy]
            exact oz
        · refine dr5.else d4 ?_
          intro e
          obtain ⟨_, _, _, _, _, _, hc, _⟩ := id dr2
          rw [← e] at hc
          rw [n4] at hc
          cases hc
      · rintro σ H' ⟨ns, v5, rfl, h4, ln, hk, dr', k'⟩
        refine ⟨_, rfl, l4, _, rfl, .inl ⟨SqL.of h4, fun l6 n6 => ⟨sl 2, fun t1 nt => ⟨sl 2, fun l7 n7 => ?_⟩⟩⟩⟩
        have s6 := same_new (o := .tup (ns.map V.str)) n6
        have s7 := same_new (o := .tup [V.str "mode", V.ref l6]) nt
        have s8 := same_new (o := .lst [V.str "mode", V.str "("]) n7
        have h6 : Td (upd H' l6 (.tup (ns.map V.str))) (.tuple (ns.map PyData.str)) (.ref l6) := ⟨l6, _, rfl, upd_same, TdAll.ofStrs ns⟩
        have hx := td2 (a := .str "mode") (b := .ref l6) (x := .str "mode") (y := .tuple (ns.map PyData.str)) nt rfl h6
        have hx := Td.mono (TS.of s8) _ _ hx
        have h7 : SL (upd (upd (upd H' l6 (.tup (ns.map V.str))) t1 (.tup [V.str "mode", V.ref l6])) l7 (.lst [V.str "mode", V.str "("])) l7 (["mode", "("] : List Str) := upd_same
        have s68 := (s6.trans s7).trans s8
        have h4 := s68 _ _ h4
        have drz := dr'.same s68
        generalize upd (upd (upd H' l6 (.tup (ns.map V.str))) t1 (.tup [V.str "mode", V.ref l6])) l7 (.lst [V.str "mode", V.str "("]) = H8 at hx h7 s68 h4 drz ⊢
        have nne : ns ≠ [] := by
          rintro rfl
          rw [List.length_nil] at ln
          omega
        cases ns with
        | nil => exact absurd rfl nne
        | cons a0 rs =>
          rw [List.length_cons] at ln
          refine ⟨_, rfl, _, rfl, l4, .str a0, rs.map V.str, rfl, h4, by rw [List.length_map]; omega, fun p9 H9 s9 h9 => ?_⟩
          have h9' : SL H9 p9 (inter "," (a0 :: rs)) := by
            unfold SL
            rw [h9]
            exact congrArg (fun z => some (HO.lst z)) (inter_map V.str ("," : Str) (a0 :: rs))
          have il : (inter ("," : Str) (a0 :: rs)).length ≤ 20 := by
            rw [inter_com]
            have := com_ones (a0 :: rs)
            rw [List.length_cons] at this
            omega
          refine catS (h7.same s9) h9' (by simp only [List.length_cons, List.length_nil] at *; omega) fun p10 H10 s10 h10 => ?_
          refine ⟨sl 1, fun l11 n11 => ?_⟩
          have s11 := same_new (o := .lst [V.str ")"]) n11
          refine catS (h10.same s11) (us := [")"]) upd_same (by simp only [List.length_append, List.length_cons, List.length_nil] at *; omega) fun p12 H12 s12 h12 => ?_
          have sz := ((s9.trans s10).trans s11).trans s12
          refine made_strs (zs := (["mode", "("] : List Str) ++ inter ("," : Str) (a0 :: rs) ++ ([")"] : List Str)) (drz.same sz) (Td.mono (TS.of sz) _ _ hx) h12 (by simp only [List.length_append, List.length_cons, List.length_nil] at *; omega) fun p H5 s5 m5 => ?_
          have s := (s68.trans sz).trans s5
          refine ⟨p, _, _, _, _, _, none, rfl, .inr (.inr (.inl ⟨a0 :: rs, hk, List.cons_ne_nil _ _, by rw [List.length_cons]; omega, rfl, by rw [inter_com]⟩)), by simp only [List.length_append, List.length_cons, List.length_nil] at *; omega, m5, dr'.same s, (k12.trans k').trans (Keep.of s)⟩
    · refine ⟨_, rfl, _, rfl, d, c, rfl, dr2, fun z H3 oz dr3 k3 => ?_⟩
      refine ⟨_, rfl, sl 2, fun t1 nt => ⟨_, rfl, sl 1, fun l2 n2 => ?_⟩⟩
      have hx := td2 (a := .str "named") (b := .str z) (x := .str "named") (y := .str z) nt rfl rfl
      have s3 := same_new (o := .tup [V.str "named", V.str z]) nt
      have s4 := same_new (o := .lst [V.str z]) n2
      refine made_strs (zs := [z]) ((dr3.same s3).same s4) (Td.mono (TS.of s4) _ _ hx) upd_same (by simp) fun p H5 s5 m5 => ?_
      have s := (s3.trans s4).trans s5
      exact ⟨p, _, _, _, none, none, some (.str z), rfl, .inr (.inl ⟨z, oz, rfl, rfl⟩), by simp, m5, dr3.same s, (k12.trans k3).trans (Keep.of s)⟩
  · rintro σ H' ⟨p, t, us, n, v4, v5, v6, rfl, hk, ln, m, dr', k'⟩
    refine ⟨_, rfl, rows, rfl, by omega, by omega, for_range (lo := 0) (n := rows.toNat) (fun i σ H' => ∃ (p : Addr) (t : PyData) (us : List Str) (n : Nat) (v4 v5 v6 v7 : Option V), σ = [some (.ref d), some (.int r), some (.int rows), some (.ref p), v4, v5, v6, v7] ∧ KT i t us ∧ n ≤ 90 + 3 * i ∧ Mk d H' p t us n [] ∧ Dr d c H' ∧ Keep d H H') ⟨p, t, us, n, v4, v5, v6, none, rfl, hk, by omega, m, dr', k'⟩ ?_ ?_⟩
    · rintro i σ H' hi ⟨p, t, us, n, v4, v5, v6, v7, rfl, hk, ln, m, dr', k'⟩
      refine ⟨_, rfl, _, rfl, d, c, rfl, dr', fun sz H3 a3 b3 dr3 k3 => ?_⟩
      have m := m.keep dr' k3
      have os : okI sz := by unfold okI; omega
      obtain ⟨v0, a0, b0, ls0, hp, hv, _⟩ := id m
      refine ⟨_, rfl, p, _, _, _, rfl, rfl, SqL.of hp, at_n 0 rfl, _, rfl, sl 3, fun t1 nt => ⟨_, rfl, _, rfl, log_ok os, _, rfl, sl 4, fun l2 n2 => ?_⟩⟩
      have hx := td3 (a := .str "row") (b := v0) (c := .int sz) (x := .str "row") (y := t) (z := .int sz) nt rfl hv rfl
      have s1 := same_new (o := .tup [V.str "row", v0, V.int sz]) nt
      have s2 := same_new (o := .lst [V.str "row", V.str (sI sz), V.str "of", V.ref p]) n2
      have s12 := s1.trans s2
      obtain ⟨xs, hD⟩ := (dr3.same s12).there
      refine ⟨_, _, rfl, d, _, l2, _, [(["row"], 1), ([sI sz], 1), (["of"], 1), (us, n)], Td.mono (TS.of s2) _ _ hx, rfl, upd_same, ⟨.inl ⟨_, rfl, rfl⟩, .inl ⟨_, rfl, rfl⟩, .inl ⟨_, rfl, rfl⟩, .inr ⟨p, _, [], rfl, m.same s12⟩, trivial⟩, by simp only [cost, List.map_cons, List.map_nil, List.sum_cons, List.sum_nil]; omega, ⟨_, hD⟩, fun pz Hz sz' mz => ?_⟩
      have sa := s12.trans sz'
      refine ⟨pz, _, _, _, _, _, _, _, rfl, .inr ⟨t, sz, us, hk, os, a3, rfl, ?_⟩, ?_, mz, dr3.same sa, (k'.trans k3).trans (Keep.of sa)⟩
      · simp [toks]
      · simp only [cost, List.map_cons, List.map_nil, List.sum_cons, List.sum_nil]
        omega
    · rintro σ H' ⟨p, t, us, n, v4, v5, v6, v7, rfl, hk, ln, m, dr', k'⟩
      exact ⟨_, rfl, q p H' t us n ⟨by omega, KT.up hk (by omega)⟩ m dr' k'⟩
end

theorem catSn {H : Hp} {a b : Addr} {ts us : List Str} {Q : VK} (ha : SL H a ts) (hb : SL H b us) (hl : ts.length + us.length ≤ 300000) (q : ∀ (p : Addr) (H' : Hp), H p = none → Same H H' → SL H' p (ts ++ us) → Q (.ref p) H') : rCat (.ref a) (.ref b) H Q :=
  ⟨a, b, _, _, rfl, rfl, ha, hb, by rw [List.length_map, List.length_map, sizeLine_eq]; omega, fun p hp => q p _ hp (same_new hp) (by unfold SL; rw [upd_same, List.map_append])⟩
theorem mk_cat {D c p l : Addr} {H : Hp} {t : PyData} {us : List Str} {n : Nat} {x : V} {Q : VK} (dr : Dr D c H) (m : Mk D H p t us n []) (hl : H l = some (.lst [x]))
    (q : ∀ (p' : Addr) (H' : Hp), Same H H' → Mk D H' p' t us n [x] → Q (.ref p') H') : rCat (.ref p) (.ref l) H Q := by
  obtain ⟨v, a, b, ls, h1, h2, h3, h4, h5, h6, h7, h8, h9⟩ := m
  refine ⟨p, l, _, _, rfl, rfl, h1, hl, by rw [sizeLine_eq]; simp, fun p' hp => q p' _ (same_new hp) ?_⟩
  have s := same_new (o := .lst [v, .ref a, .ref b, x]) hp
  exact ⟨v, a, b, ls, upd_same, Td.mono (TS.of s) _ _ h2, h3.same s, h4.same s, h5, h6, dr.dne hp, h8, h9⟩
/-- a made expr -/
def rMkE (R : PyData → List Str → Nat → Nat → Prop) : V → Hp → VK → Prop := fun x H Q => ∃ d c : Addr, x = .ref d ∧ Dr d c H ∧ ∀ (p : Addr) (H' : Hp) (t : PyData) (us : List Str) (n l : Nat), R t us n l → Mk d H' p t us n [.int (l : Int)] → Dr d c H' → Keep d H H' → Q (.ref p) H'
def RLeaf : PyData → List Str → Nat → Nat → Prop := fun t us n l => n ≤ 10 ∧ ET 1 t us l
def rWrap : V → V → V → Hp → VK → Prop := fun x y z H Q => ∃ (d c p : Addr) (t : PyData) (us : List Str) (n l least : Nat), x = .ref d ∧ y = .ref p ∧ z = .int (least : Int) ∧ Dr d c H ∧ Mk d H p t us n [.int (l : Int)] ∧ n ≤ 100000 ∧
  ∀ (p' : Addr) (H' : Hp), Mk d H' p' t (wr (decide (l < least)) us) (n + 2) [] → Dr d c H' → Keep d H H' → Q (.ref p') H'
section
variable {P : Program} {w : World} {K : PySem.W.Frag} {mg : Str → Option Value} {base : Heap}
theorem ok_drawn_leaf (T : Tx K mg w) : FnOk P w K mg base CX0 6 T.f_drawn_leaf T.fd_drawn_leaf ["_law_d"] (sp1 (rMkE RLeaf)) := by
  refine okR1 T.F_drawn_leaf sc_drawn_leaf rfl fun cdv A outer s H Q EE x hr h => ?_
  obtain ⟨d, c, rfl, dr, q⟩ := h
  refine ⟨_, pss_cons (ps_set (i := 1) sc_drawn_leaf.nd rfl (Or.inl rfl) (pe_call (ok_draw T) (hr.mono (by decide)) rfl T.m_draw T.F_draw.kp T.b_draw .nil pass0 (pa_cons (pv 0) (pa_cons pe_int pa_nil))))
      (pss_cons (ps_if (pt_cmpR op_lt (pv 1) pe_int (nomark _)) (pss_cons (ps_set (i := 2) sc_drawn_leaf.nd rfl (Or.inl rfl) (pe_call (ok_drawn_name T) (hr.mono (by decide)) rfl T.m_drawn_name T.F_drawn_name.kp T.b_drawn_name .nil pass0 (pa_cons (pv 0) pa_nil)))
      (pss_one (ps_ret (pe_op op_cat (pe_call (ok_made T) (hr.mono (by decide)) rfl T.m_made T.F_made.kp T.b_made .nil pass0 (pa_cons (pe_tup (pa_cons pe_str (pa_cons (pv 2) pa_nil))) (pa_cons (pe_lst (pa_cons (pv 2) pa_nil)) pa_nil))) (pe_lst (pa_cons pe_int pa_nil)))))) pss_nil)
      (pss_cons (ps_if (pt_cmpR op_eq (pv 1) pe_int (nomark _)) (pss_one (ps_ret (pe_op op_cat (pe_call (ok_drawn_case T) (hr.mono (by decide)) rfl T.m_drawn_case T.F_drawn_case.kp T.b_drawn_case .nil pass0 (pa_cons (pv 0) pa_nil)) (pe_lst (pa_cons pe_int pa_nil))))) pss_nil)
      (pss_cons (ps_if (pt_cmpR op_eq (pv 1) pe_int (nomark _)) (pss_cons (ps_set (i := 2) sc_drawn_leaf.nd rfl (Or.inl rfl) (pe_call (ok_drawn_name T) (hr.mono (by decide)) rfl T.m_drawn_name T.F_drawn_name.kp T.b_drawn_name .nil pass0 (pa_cons (pv 0) pa_nil)))
      (pss_one (ps_ret (pe_op op_cat (pe_call (ok_made T) (hr.mono (by decide)) rfl T.m_made T.F_made.kp T.b_made .nil pass0 (pa_cons (pe_tup (pa_cons pe_str (pa_cons (pv 2) pa_nil))) (pa_cons (pe_lst (pa_cons pe_str (pa_cons pe_str (pa_cons (pv 2) (pa_cons pe_str pa_nil))))) pa_nil))) (pe_lst (pa_cons pe_int pa_nil)))))) pss_nil)
      (pss_cons (ps_set (i := 3) sc_drawn_leaf.nd rfl (Or.inl rfl) (pe_call (ok_drawn_int T) (hr.mono (by decide)) rfl T.m_drawn_int T.F_drawn_int.kp T.b_drawn_int .nil pass0 (pa_cons (pv 0) pa_nil)))
      (pss_cons (ps_if (pt_cmpR op_lt (pe_ix ix_list (pv 3) pe_int (fun _ _ => rfl)) pe_int (nomark _)) (pss_one (ps_ret (pe_lst (pa_cons (pe_tup (pa_cons pe_str (pa_cons (pe_ix ix_list (pv 3) pe_int (fun _ _ => rfl)) pa_nil))) (pa_cons (pe_ix ix_list (pv 3) pe_int (fun _ _ => rfl)) (pa_cons (pe_ix ix_list (pv 3) pe_int (fun _ _ => rfl)) (pa_cons pe_int pa_nil))))))) pss_nil)
      (C8.pss_cut (ps_set (i := 4) sc_drawn_leaf.nd rfl (Or.inl rfl) (pe_ifExp (pt_cmpR op_eq (pe_callB call_len_seq (by rfl) T.z_len (by decide +kernel) (pa_cons (pe_ix ix_list (pv 3) pe_int (fun _ _ => rfl)) pa_nil)) pe_int (nomark _)) (pe_ix ix_list (pv 3) pe_int (fun _ _ => rfl)) (pe_op op_cat (pe_op op_cat (pe_lst (pa_cons pe_str pa_nil)) (pe_ix ix_list (pv 3) pe_int (fun _ _ => rfl))) (pe_lst (pa_cons pe_str pa_nil)))))
      (pss_one (ps_ret (pe_lst (pa_cons (pe_tup (pa_cons pe_str (pa_cons (pe_ix ix_list (pv 3) pe_int (fun _ _ => rfl)) pa_nil))) (pa_cons (pe_ix ix_list (pv 3) pe_int (fun _ _ => rfl)) (pa_cons (pv 4) (pa_cons pe_int pa_nil))))))))))))), ?_⟩
  refine ⟨_, rfl, _, _, rfl, d, c, 6, rfl, rfl, dr, by omega, by omega, fun r H1 r0 r1 dr1 k1 => ?_⟩
  refine ⟨_, rfl, _, _, rfl, rfl, _, rfl, ite2 (fun _ => ?_) (fun _ => ?_)⟩
  · refine ⟨_, rfl, _, rfl, d, c, rfl, dr1, fun z H3 oz dr3 k3 => ?_⟩
    refine ⟨_, rfl, sl 2, fun t1 nt => ⟨_, rfl, sl 1, fun l2 n2 => ?_⟩⟩
    have hx := td2 (a := .str "name") (b := .str z) (x := .str "name") (y := .str z) nt rfl rfl
    have s3 := same_new (o := .tup [V.str "name", V.str z]) nt
    have s4 := same_new (o := .lst [V.str z]) n2
    refine made_strs (zs := [z]) ((dr3.same s3).same s4) (Td.mono (TS.of s4) _ _ hx) upd_same (by simp) fun p H5 s5 m5 => ?_
    have s := (s3.trans s4).trans s5
    refine ⟨sl 1, fun l6 n6 => ?_⟩
    have s6 := same_new (o := .lst [V.int 8]) n6
    refine mk_cat (dr3.same (s.trans s6)) (m5.same s6) upd_same fun p7 H7 s7 m7 => ?_
    have s := (s.trans s6).trans s7
    exact q p7 H7 _ _ _ 8 ⟨by simp, .inr (.inl ⟨z, oz, rfl, rfl, rfl⟩)⟩ m7 (dr3.same s) ((k1.trans k3).trans (Keep.of s))
  refine ⟨_, rfl, rfl, _, rfl, ite2 (fun _ => ?_) (fun _ => ?_)⟩
  · refine ⟨_, rfl, _, rfl, d, c, rfl, dr1, fun p5 H5 t us n ⟨hn, vt⟩ m5 dr5 k5 => ?_⟩
    refine ⟨sl 1, fun l6 n6 => ?_⟩
    have s6 := same_new (o := .lst [V.int 8]) n6
    refine mk_cat (dr5.same s6) (m5.same s6) upd_same fun p7 H7 s7 m7 => ?_
    have s := s6.trans s7
    exact q p7 H7 _ _ _ 8 ⟨by omega, .inr (.inr (.inl ⟨vt, rfl⟩))⟩ m7 (dr5.same s) ((k1.trans k5).trans (Keep.of s))
  refine ⟨_, rfl, rfl, _, rfl, ite2 (fun _ => ?_) (fun _ => ?_)⟩
  · refine ⟨_, rfl, _, rfl, d, c, rfl, dr1, fun z H3 oz dr3 k3 => ?_⟩
    refine ⟨_, rfl, sl 2, fun t1 nt => ⟨_, rfl, sl 4, fun l2 n2 => ?_⟩⟩
    have hx := td2 (a := .str "here") (b := .str z) (x := .str "here") (y := .str z) nt rfl rfl
    have s3 := same_new (o := .tup [V.str "here", V.str z]) nt
    have s4 := same_new (o := .lst [V.str "here", V.str "(", V.str z, V.str ")"]) n2
    refine made_strs (zs := ["here", "(", z, ")"]) ((dr3.same s3).same s4) (Td.mono (TS.of s4) _ _ hx) upd_same (by simp) fun p H5 s5 m5 => ?_
    have s := (s3.trans s4).trans s5
    refine ⟨sl 1, fun l6 n6 => ?_⟩
    have s6 := same_new (o := .lst [V.int 8]) n6
    refine mk_cat (dr3.same (s.trans s6)) (m5.same s6) upd_same fun p7 H7 s7 m7 => ?_
    have s := (s.trans s6).trans s7
    refine q p7 H7 _ _ _ 8 ⟨by simp, .inr (.inr (.inr (.inr (.inr ⟨"here", [.str z], [[z]], ?_, rfl, rfl, rfl⟩))))⟩ m7 (dr3.same s) ((k1.trans k3).trans (Keep.of s))
    exact .inr (.inr (.inr (.inr (.inr (.inl ⟨rfl, z, oz, rfl, rfl⟩)))))
  refine ⟨_, rfl, _, rfl, d, c, rfl, dr1, fun p5 H5 t us n ⟨hn, i, oi, et, eu⟩ m5 dr5 k5 => ?_⟩
  subst hn et eu
  obtain ⟨v, a, b, ls, h1, h2, h3, h4, h5, h6, h7, h8, h9⟩ := id m5
  obtain rfl : v = .int i := h2
  have k15 := k1.trans k5
  refine ⟨_, rfl, p5, _, _, _, rfl, rfl, SqL.of h1, at_n 0 rfl, _, _, rfl, rfl, _, rfl, ite2 (fun h => ?_) (fun h => ?_)⟩
  · have hi : i < 0 := of_decide_eq_true h
    refine ⟨_, rfl, p5, _, _, _, rfl, rfl, SqL.of h1, at_n 0 rfl, sl 2, fun t1 nt => ?_⟩
    have s1 := same_new (o := .tup [V.str "int", V.int i]) nt
    refine ⟨_, rfl, p5, _, _, _, rfl, rfl, SqL.of (s1 _ _ h1), at_n 1 rfl, _, rfl, p5, _, _, _, rfl, rfl, SqL.of (s1 _ _ h1), at_n 2 rfl, sl 4, fun l2 n2 => ?_⟩
    have s2 := same_new (o := .lst [V.ref t1, V.ref a, V.ref b, V.int 7]) n2
    have s := s1.trans s2
    have hx := td2 (a := .str "int") (b := .int i) (x := .str "int") (y := .int i) nt rfl rfl
    exact q l2 _ _ _ 2 7 ⟨by omega, .inl ⟨i, oi, rfl, rfl, by rw [if_pos hi]⟩⟩ ⟨_, a, b, ls, upd_same, Td.mono (TS.of s2) _ _ hx, h3.same s, h4.same s, h5, h6, (dr5.same s1).dne n2, h8, h9⟩ (dr5.same s) (k15.trans (Keep.of s))
  · have hi : ¬ i < 0 := fun z => h (decide_eq_true z)
    refine ⟨fun σ H8 => ∃ (b8 : Addr) (ks : List Str), σ = [some (.ref d), some (.int r), none, some (.ref p5), some (.ref b8)] ∧ Same H5 H8 ∧ SL H8 b8 ks ∧ ks.length ≤ 4 ∧ b8 ≠ d ∧ ks ≠ [], ?_, ?_⟩
    · refine ⟨_, rfl, p5, _, _, _, rfl, rfl, SqL.of h1, at_n 2 rfl, b, _, rfl, .inl (SqL.of h4), rfl, _, rfl, ite2 (fun _ => ?_) (fun _ => ?_)⟩
      · exact ⟨_, rfl, p5, _, _, _, rfl, rfl, SqL.of h1, at_n 2 rfl, b, ls, rfl, Same.refl _, h4, by omega, h9.1, h9.2 (intT_ne i)⟩
      · refine ⟨sl 1, fun l1 n1 => ?_⟩
        have s1 := same_new (o := .lst [V.str "("]) n1
        refine ⟨_, rfl, p5, _, _, _, rfl, rfl, SqL.of (s1 _ _ h1), at_n 2 rfl, ?_⟩
        refine catS (ts := ["("]) upd_same (h4.same s1) (by simp only [List.length_cons, List.length_nil]; omega) fun p2 H2 s2 h2 => ?_
        refine ⟨sl 1, fun l3 n3 => ?_⟩
        have s3 := same_new (o := .lst [V.str ")"]) n3
        have drq := ((dr5.same s1).same s2).same s3
        refine catSn (h2.same s3) (us := [")"]) upd_same (by simp only [List.length_append, List.length_cons, List.length_nil]; omega) fun p4 H4 n4 s4 g4 => ?_
        exact ⟨p4, _, rfl, ((s1.trans s2).trans s3).trans s4, g4, by simp only [List.length_append, List.length_cons, List.length_nil]; omega, drq.dne n4, by simp⟩
    · rintro σ H8 ⟨b8, ks, rfl, s8, h8k, lk, bd, kn⟩
      have h1 := s8 _ _ h1
      refine ⟨_, rfl, p5, _, _, _, rfl, rfl, SqL.of h1, at_n 0 rfl, sl 2, fun t1 nt => ?_⟩
      have s1 := same_new (o := .tup [V.str "int", V.int i]) nt
      refine ⟨_, rfl, p5, _, _, _, rfl, rfl, SqL.of (s1 _ _ h1), at_n 1 rfl, _, rfl, sl 4, fun l2 n2 => ?_⟩
      have s2 := same_new (o := .lst [V.ref t1, V.ref a, V.ref b8, V.int 8]) n2
      have s := (s8.trans s1).trans s2
      have hx := td2 (a := .str "int") (b := .int i) (x := .str "int") (y := .int i) nt rfl rfl
      exact q l2 _ _ _ 4 8 ⟨by omega, .inl ⟨i, oi, rfl, rfl, by rw [if_neg hi]⟩⟩ ⟨_, a, b8, ks, upd_same, Td.mono (TS.of s2) _ _ hx, h3.same s, (h8k.same s1).same s2, by omega, lk, (dr5.same (s8.trans s1)).dne n2, h8, bd, fun _ => kn⟩ (dr5.same s) (k15.trans (Keep.of s))
theorem ok_wrapped (T : Tx K mg w) : FnOk P w K mg base CX0 3 T.f_wrapped T.fd_wrapped ["_law_d", "_law_part", "_law_least"] (sp3 rWrap) := by
  refine okR3 T.F_wrapped sc_wrapped rfl fun cdv A outer s H Q EE x y z hr h => ?_
  obtain ⟨d, c, p, t, us, n, l, least, rfl, rfl, rfl, dr, m, hn, q⟩ := h
  refine ⟨_, pss_cons (ps_set (i := 3) sc_wrapped.nd rfl (Or.inl rfl) (pe_ix ix_list (pv 1) pe_int (fun _ _ => rfl)))
      (pss_cons (ps_set (i := 4) sc_wrapped.nd rfl (Or.inl rfl) (pe_ix ix_list (pv 1) pe_int (fun _ _ => rfl)))
      (pss_cons (ps_set (i := 5) sc_wrapped.nd rfl (Or.inl rfl) (pe_cmpR op_lt (pe_ix ix_list (pv 1) pe_int (fun _ _ => rfl)) (pv 2) (nomark _)))
      (C8.pss_cut (ps_if (pt_val (pv 5)) (pss_one (ps_set (i := 3) sc_wrapped.nd rfl (Or.inl rfl) (pe_op op_cat (pe_op op_cat (pe_lst (pa_cons pe_str pa_nil)) (pv 3)) (pe_lst (pa_cons pe_str pa_nil))))) pss_nil)
      (C8.pss_cut (ps_if (PW.pt (pw_or (pt_val (pv 5)) (pw_or1 (pt_cmpR op_eq (pe_call (ok_draw T) (hr.mono (by decide)) rfl T.m_draw T.F_draw.kp T.b_draw .nil pass0 (pa_cons (pv 0) (pa_cons pe_int pa_nil))) pe_int (nomark _))))) (pss_one (ps_set (i := 4) sc_wrapped.nd rfl (Or.inl rfl) (pe_op op_cat (pe_op op_cat (pe_lst (pa_cons pe_str pa_nil)) (pv 4)) (pe_lst (pa_cons pe_str pa_nil))))) pss_nil)
      (pss_one (ps_ret (pe_lst (pa_cons (pe_ix ix_list (pv 1) pe_int (fun _ _ => rfl)) (pa_cons (pv 3) (pa_cons (pv 4) pa_nil)))))))))), ?_⟩
  obtain ⟨v, a, b, ls, h1, h2, h3, h4, h5, h6, h7, h8, h9⟩ := id m
  refine ⟨_, rfl, p, _, _, _, rfl, rfl, SqL.of h1, at_n 1 rfl, ?_⟩
  refine ⟨_, rfl, p, _, _, _, rfl, rfl, SqL.of h1, at_n 2 rfl, ?_⟩
  refine ⟨_, rfl, p, _, _, _, rfl, rfl, SqL.of h1, at_n 3 rfl, _, rfl, _, _, rfl, rfl, ?_⟩
  refine ⟨fun σ H1 => ∃ a' : Addr, σ = [some (.ref d), some (.ref p), some (.int (least : Int)), some (.ref a'), some (.ref b), some (.bl (decide ((l : Int) < (least : Int))))] ∧ Same H H1 ∧ SL H1 a' (wr (decide (l < least)) us) ∧ a' ≠ d, ?_, ?_⟩
  · refine ⟨_, rfl, _, rfl, ite2 (fun hl => ?_) (fun hl => ?_)⟩
    · have hl' : l < least := by
        have : (l : Int) < (least : Int) := of_decide_eq_true hl
        omega
      refine ⟨sl 1, fun l1 n1 => ?_⟩
      have s1 := same_new (o := .lst [V.str "("]) n1
      refine ⟨_, rfl, ?_⟩
      refine catS (ts := ["("]) upd_same (h3.same s1) (by simp only [List.length_cons, List.length_nil]; omega) fun p2 H2 s2 h2 => ?_
      refine ⟨sl 1, fun l3 n3 => ?_⟩
      have s3 := same_new (o := .lst [V.str ")"]) n3
      refine catSn (h2.same s3) (us := [")"]) upd_same (by simp only [List.length_append, List.length_cons, List.length_nil]; omega) fun p4 H4 n4 s4 g4 => ?_
      refine ⟨p4, rfl, ((s1.trans s2).trans s3).trans s4, ?_, (((dr.same s1).same s2).same s3).dne n4⟩
      rw [decide_eq_true hl']
      exact g4
    · have hl' : ¬ l < least := fun z => hl (decide_eq_true (by omega))
      refine ⟨a, rfl, Same.refl _, ?_, h8⟩
      rw [decide_eq_false hl']
      exact h3
  · rintro σ H1 ⟨a', rfl, s1, g1, ad⟩
    have h1 := s1 _ _ h1
    have h4 := h4.same s1
    have dr1 := dr.same s1
    refine ⟨fun σ H2 => ∃ (b' : Addr) (ks : List Str), σ = [some (.ref d), some (.ref p), some (.int (least : Int)), some (.ref a'), some (.ref b'), some (.bl (decide ((l : Int) < (least : Int))))] ∧ Keep d H1 H2 ∧ Dr d c H2 ∧ SL H2 b' ks ∧ ks.length ≤ n + 2 ∧ b' ≠ d ∧ (wr (decide (l < least)) us ≠ [] → ks ≠ []), ?_, ?_⟩
    · have body : ∀ (H3 : Hp), Keep d H1 H3 → Dr d c H3 → tAsg (tOp rCat (tOp rCat (tLst (tCons (tC (V.str "(")) tNil)) (tVar 4)) (tLst (tCons (tC (V.str ")")) tNil))) (gName 4) { nx := fun σ H2 => ∃ (b' : Addr) (ks : List Str), σ = [some (.ref d), some (.ref p), some (.int (least : Int)), some (.ref a'), some (.ref b'), some (.bl (decide ((l : Int) < (least : Int))))] ∧ Keep d H1 H2 ∧ Dr d c H2 ∧ SL H2 b' ks ∧ ks.length ≤ n + 2 ∧ b' ≠ d ∧ (wr (decide (l < least)) us ≠ [] → ks ≠ []), rt := Q } [some (.ref d), some (.ref p), some (.int (least : Int)), some (.ref a'), some (.ref b), some (.bl (decide ((l : Int) < (least : Int))))] H3 := fun H3 k3 dr3 => by
        have h4 : SL H3 b ls := k3 _ _ h4 h9.1
        refine ⟨sl 1, fun l1 n1 => ?_⟩
        have s1 := same_new (o := .lst [V.str "("]) n1
        refine ⟨_, rfl, ?_⟩
        refine catS (ts := ["("]) upd_same (h4.same s1) (by simp only [List.length_cons, List.length_nil]; omega) fun p2 H2 s2 h2 => ?_
        refine ⟨sl 1, fun l3 n3 => ?_⟩
        have s3 := same_new (o := .lst [V.str ")"]) n3
        refine catSn (h2.same s3) (us := [")"]) upd_same (by simp only [List.length_append, List.length_cons, List.length_nil]; omega) fun p4 H4 n4 s4 g4 => ?_
        have ss := (s1.trans s2).trans s3
        exact ⟨p4, _, rfl, k3.trans (Keep.of (ss.trans s4)), dr3.same (ss.trans s4), g4, by simp only [List.length_append, List.length_cons, List.length_nil]; omega, (dr3.same ss).dne n4, by simp⟩
      refine ⟨_, rfl, _, rfl, ite2 (fun _ => iteT (body H1 (Keep.refl _ _) dr1)) (fun nd => ?_)⟩
      refine ⟨_, rfl, _, _, rfl, d, c, 6, rfl, rfl, dr1, by omega, by omega, fun r H3 r0 r1 dr3 k3 => ?_⟩
      refine ⟨rfl, _, rfl, ite2 (fun _ => body H3 k3 dr3) (fun _ => ?_)⟩
      refine ⟨b, ls, rfl, k3, dr3, k3 _ _ h4 h9.1, by omega, h9.1, fun e => h9.2 ?_⟩
      have nl : ¬ l < least := fun z => nd (decide_eq_true (by omega))
      rw [decide_eq_false nl] at e
      exact e
    · rintro σ H2 ⟨b', ks, rfl, k2, dr2, g2, lk, bd, kn⟩
      refine ⟨_, rfl, p, _, _, _, rfl, rfl, SqL.of (k2 _ _ h1 h7), at_n 0 rfl, _, rfl, _, rfl, sl 3, fun l3 n3 => ?_⟩
      have s3 := same_new (o := .lst [v, V.ref a', V.ref b']) n3
      have wl := @wr_len (decide (l < least)) us
      exact q l3 _ ⟨v, a', b', ks, upd_same, Td.mono (((TS.of s1).trans (TS.dr dr1 k2)).trans (TS.of s3)) _ _ h2, SL.same (k2 _ _ g1 ad) s3, g2.same s3, by omega, lk, dr2.dne n3, ad, bd, kn⟩ (dr2.same s3) (((Keep.of s1).trans k2).trans (Keep.of s3))
end

def rFronted (k : Nat) : V → V → V → Hp → VK → Prop := fun x y z H Q => ∃ (d c p : Addr) (t : PyData) (us : List Str) (n l : Nat) (way : Int), x = .ref d ∧ y = .int way ∧ z = .ref p ∧ 0 ≤ way ∧ way < 3 ∧ Dr d c H ∧ Mk d H p t us n [.int (l : Int)] ∧ ET k t us l ∧ n ≤ 90000 ∧
  ∀ (p' : Addr) (H' : Hp) (t' : PyData) (us' : List Str), ET (k + 1) t' us' 7 → Mk d H' p' t' us' (n + 3) [.int ((7 : Nat) : Int)] → Dr d c H' → Keep d H H' → Q (.ref p') H'
def rBetween (k : Nat) : V → V → V → V → Hp → VK → Prop := fun x y z z2 H Q => ∃ (d c p1 p2 : Addr) (t1 t2 : PyData) (us1 us2 : List Str) (n1 n2 l1 l2 : Nat) (way : Int), x = .ref d ∧ y = .int way ∧ z = .ref p1 ∧ z2 = .ref p2 ∧ 0 ≤ way ∧ way < 12 ∧ Dr d c H ∧ Mk d H p1 t1 us1 n1 [.int (l1 : Int)] ∧ Mk d H p2 t2 us2 n2 [.int (l2 : Int)] ∧ ET k t1 us1 l1 ∧ ET k t2 us2 l2 ∧ n1 ≤ 40000 ∧ n2 ≤ 40000 ∧
  ∀ (p' : Addr) (H' : Hp) (t' : PyData) (us' : List Str) (l' : Nat), ET (k + 1) t' us' l' → Mk d H' p' t' us' (n1 + n2 + 5) [.int (l' : Int)] → Dr d c H' → Keep d H H' → Q (.ref p') H'
theorem frs_way {r : Int} (h0 : 0 ≤ r) (h1 : r < 3) : ∃ g ∈ frs, atI [V.str "not", .str "last", .str "neg"] r = some (.str g.1) ∧ atI [V.str "not", .str "last", .str "-"] r = some (.str g.2) ∧ (r = 2 ↔ g.1 = "neg") := by
  rcases (show r = 0 ∨ r = 1 ∨ r = 2 by omega) with rfl | rfl | rfl
  · exact ⟨("not", "not"), by decide +kernel, at_n 0 rfl, at_n 0 rfl, ⟨fun h => by omega, fun h => absurd h (by decide +kernel)⟩⟩
  · exact ⟨("last", "last"), by decide +kernel, at_n 1 rfl, at_n 1 rfl, ⟨fun h => by omega, fun h => absurd h (by decide +kernel)⟩⟩
  · exact ⟨("neg", "-"), by decide +kernel, at_n 2 rfl, at_n 2 rfl, ⟨fun h => rfl, fun h => rfl⟩⟩
theorem sgs_way {r : Int} (h0 : 0 ≤ r) (h1 : r < 12) : ∃ g ∈ sgs, atI ((sgs.map (·.2.1)).map V.str) r = some (.str g.2.1) ∧ atI ((sgs.map (·.1)).map V.str) r = some (.str g.1) ∧ atI [V.int 0, .int 1, .int 2, .int 3, .int 4, .int 4, .int 4, .int 4, .int 5, .int 5, .int 6, .int 6] r = some (.int (g.2.2 : Int)) := by
  obtain ⟨j, rfl⟩ := Int.eq_ofNat_of_zero_le h0
  have hj : j < sgs.length := by
    have : sgs.length = 12 := rfl
    omega
  have e : sgs[j]? = some sgs[j] := List.getElem?_eq_getElem hj
  refine ⟨sgs[j], List.getElem_mem hj, at_n j ?_, at_n j ?_, ?_⟩
  · rw [List.getElem?_map, List.getElem?_map, e]
    rfl
  · rw [List.getElem?_map, List.getElem?_map, e]
    rfl
  · have e2 : [V.int 0, .int 1, .int 2, .int 3, .int 4, .int 4, .int 4, .int 4, .int 5, .int 5, .int 6, .int 6] = sgs.map fun g => V.int ((g.2.2 : Nat) : Int) := rfl
    rw [e2]
    refine at_n j ?_
    rw [List.getElem?_map, e]
    rfl
theorem split_signs : Txt.split "then or xor and == != < <= + - * /" " " = sgs.map (·.2.1) := by decide +kernel
theorem split_words : Txt.split "then or xor and eq ne lt le add sub mul div" " " = sgs.map (·.1) := by decide +kernel
section
variable {P : Program} {w : World} {K : PySem.W.Frag} {mg : Str → Option Value} {base : Heap} {x : Str} {st : Stmt} {f : Addr} {fd : FuncData} {N ps : List Str} {k : Nat} {dvs : List V} {kws : List (Str × V)}
theorem okR4 {x : Str} {st : Stmt} {f : Addr} {fd : FuncData} {N ps : List Str} {k : Nat} {R : V → V → V → V → Hp → VK → Prop} (F : FunD K x x (defArgs st) (defBody st) (defScope st) [] [] f fd) (S : FnScope N ps (defScope st)) (hl : ps.length = 4)
    (body : ∀ (cdv : Value) (A : Around) (outer : List Env) (s : Shared) (H : Hp) (Q : VK) (E : XK) (a b c d : V), Room k (A.deeper (envOfC x (defScope st) s.heap.objs.size f cdv)) → R a b c d H Q →
      ∃ t, PSs (cxOf CX0 P w K mg base N x (defScope st) f cdv A outer s H E).nox (defBody st) t ∧ t { nx := fun _ H' => Q .non H', rt := Q } (start N [a, b, c, d]) H) : FnOk P w K mg base CX0 (k + 1) f fd ps (sp4 R) := by
  refine okR F S (fun vs H Q E h => ?_) fun cdv A outer s H vs Q E hr h => ?_
  · obtain ⟨_, _, _, _, rfl, _⟩ := h
    exact hl.symm
  · obtain ⟨a, b, c, d, rfl, h⟩ := h
    exact body cdv A outer s H Q E a b c d hr h
end
theorem sgs_in : ∀ g ∈ sgs, inV (V.int (g.2.2 : Int)) [.int 0, .int 4] = decide (g.2.2 = 0 ∨ g.2.2 = 4) := by decide +kernel
section
variable {P : Program} {w : World} {K : PySem.W.Frag} {mg : Str → Option Value} {base : Heap}
theorem ok_fronted (T : Tx K mg w) (k : Nat) : FnOk P w K mg base CX0 4 T.f_fronted T.fd_fronted ["_law_d", "_law_way", "_law_part"] (sp3 (rFronted k)) := by
  refine okR3 T.F_fronted sc_fronted rfl fun cdv A outer s H Q EE x y z hr h => ?_
  obtain ⟨d, c, p, t, us, n, l, way, rfl, rfl, rfl, w0, w1, dr, m, he, hn, q⟩ := h
  refine ⟨_, pss_cons (ps_set (i := 3) sc_fronted.nd rfl (Or.inl rfl) pe_int)
      (C8.pss_cut (ps_if (PW.pt (pw_and (pt_cmpR op_eq (pv 1) pe_int (nomark _)) (pw_and (pt_cmpR op_eq (pe_ix ix_tup (pe_ix ix_list (pv 2) pe_int (fun _ _ => rfl)) pe_int (fun _ _ => rfl)) pe_str (nomark _)) (pw_and1 (pt_cmpR op_ge (pe_ix ix_tup (pe_ix ix_list (pv 2) pe_int (fun _ _ => rfl)) pe_int (fun _ _ => rfl)) pe_int (nomark _)))))) (pss_one (ps_set (i := 3) sc_fronted.nd rfl (Or.inl rfl) pe_int)) pss_nil)
      (pss_cons (ps_set (i := 4) sc_fronted.nd rfl (Or.inl rfl) (pe_call (ok_wrapped T) (hr.mono (by decide)) rfl T.m_wrapped T.F_wrapped.kp T.b_wrapped .nil pass0 (pa_cons (pv 0) (pa_cons (pv 2) (pa_cons (pv 3) pa_nil)))))
      (pss_cons (ps_set (i := 5) sc_fronted.nd rfl (Or.inl rfl) (pe_tup (pa_cons (pe_ix ix_list (pe_lst (pa_cons pe_str (pa_cons pe_str (pa_cons pe_str pa_nil)))) (pv 1) (fun _ _ => rfl)) (pa_cons (pe_ix ix_list (pv 2) pe_int (fun _ _ => rfl)) pa_nil))))
      (pss_one (ps_ret (pe_op op_cat (pe_call (ok_made T) (hr.mono (by decide)) rfl T.m_made T.F_made.kp T.b_made .nil pass0 (pa_cons (pv 5) (pa_cons (pe_lst (pa_cons (pe_ix ix_list (pe_lst (pa_cons pe_str (pa_cons pe_str (pa_cons pe_str pa_nil)))) (pv 1) (fun _ _ => rfl)) (pa_cons (pv 4) pa_nil))) pa_nil))) (pe_lst (pa_cons pe_int pa_nil)))))))), ?_⟩
  obtain ⟨g, hg, e1, e2, e3⟩ := frs_way w0 w1
  obtain ⟨v, a, b0, ls, h1, h2, _⟩ := id m
  obtain ⟨z0, ds, rfl, hd⟩ := ET.head he
  obtain ⟨b, xs, rfl, hb, _, r, rfl, rfl, hr'⟩ := id h2
  refine ⟨fun σ H' => H' = H ∧ σ = [some (.ref d), some (.int way), some (.ref p), some (.int ((flst g.1 (.tuple (.str z0 :: ds)) : Nat) : Int)), none, none], ?_, ?_⟩
  · have not9 : ¬ (g.1 = "neg" ∧ nonneg (.tuple (.str z0 :: ds)) = true) → flst g.1 (.tuple (.str z0 :: ds)) = 7 := fun h => if_neg h
    have fin : ∀ {o : Nat}, flst g.1 (.tuple (.str z0 :: ds)) = o → (H = H ∧ ([some (.ref d), some (.int way), some (.ref p), some (.int (o : Int)), none, none] : L2.St) = [some (.ref d), some (.int way), some (.ref p), some (.int ((flst g.1 (.tuple (.str z0 :: ds)) : Nat) : Int)), none, none]) := fun h => by
      rw [h]
      exact ⟨rfl, rfl⟩
    refine ⟨_, rfl, rfl, _, rfl, ite2 (fun hw => ?_) (fun hw => iteF (fin (o := 7) (not9 fun z => hw (decide_eq_true (congrArg V.int (e3.mpr z.1))))))⟩
    have gneg := e3.mp (V.int.inj (of_decide_eq_true hw))
    refine ⟨_, rfl, p, _, _, _, rfl, rfl, SqL.of h1, at_n 0 rfl, b, _, _, _, rfl, rfl, SqT.of hb, at_n 0 rfl, rfl, _, rfl, ?_⟩
    rcases hd with ⟨i, oi, rfl, rfl, hl⟩ | hd
    · obtain ⟨_, _, rfl, rfl, rfl⟩ := hr'
      have ni : nonneg (.tuple [.str "int", .int i]) = decide (0 ≤ i) := by
        show (decide (("int" : Str) = "int") && decide (0 ≤ i)) = _
        rw [decide_eq_true rfl, Bool.true_and]
      refine iteT ⟨_, rfl, p, _, _, _, rfl, rfl, SqL.of h1, at_n 0 rfl, b, _, _, _, rfl, rfl, SqT.of hb, at_n 1 rfl, _, _, rfl, rfl, _, rfl, ite2 (fun h => ?_) (fun h => ?_)⟩
      · exact fin (o := 9) (if_pos ⟨gneg, ni.trans h⟩)
      · exact fin (o := 7) (not9 fun z => h (ni.symm.trans z.2))
    · refine ite2 (fun h => absurd h (st_ne hd)) (fun _ => iteF (fin (o := 7) (not9 fun z => ?_)))
      rw [nonneg_no hd] at z
      exact absurd z.2 (by decide)
  · rintro σ H' ⟨rfl, rfl⟩
    refine ⟨_, rfl, _, rfl, _, rfl, _, _, _, rfl, d, c, p, _, us, n, l, _, rfl, rfl, rfl, dr, m, by omega, fun p2 H2 m2 dr2 k2 => ?_⟩
    have m := m.keep dr k2
    obtain ⟨v, a, b0, ls, h1, h2, _⟩ := id m
    generalize hw : wr (decide (l < flst g.1 (.tuple (.str z0 :: ds)))) us = ww at m2
    refine ⟨sl 3, fun l1 n1 => ?_⟩
    have s1 := same_new (o := .lst [V.str "not", V.str "last", V.str "neg"]) n1
    refine ⟨_, rfl, l1, _, _, _, rfl, rfl, SqL.of upd_same, e1, _, rfl, p, _, _, _, rfl, rfl, SqL.of (s1 _ _ h1), at_n 0 rfl, sl 2, fun t1 nt => ?_⟩
    have s2 := same_new (o := .tup [V.str g.1, v]) nt
    have hx := td2 (a := .str g.1) (b := v) (x := .str g.1) nt rfl (Td.mono (TS.of s1) _ _ h2)
    refine ⟨_, rfl, sl 3, fun l3 n3 => ?_⟩
    have s3 := same_new (o := .lst [V.str "not", V.str "last", V.str "-"]) n3
    refine ⟨_, rfl, l3, _, _, _, rfl, rfl, SqL.of upd_same, e2, _, rfl, sl 2, fun l4 n4 => ?_⟩
    have s4 := same_new (o := .lst [V.str g.2, V.ref p2]) n4
    have s14 := ((s1.trans s2).trans s3).trans s4
    obtain ⟨xs, hD⟩ := (dr2.same s14).there
    refine ⟨_, _, rfl, d, _, l4, _, [([g.2], 1), (ww, n + 2)], Td.mono (TS.of (s3.trans s4)) _ _ hx, rfl, upd_same, ⟨.inl ⟨_, rfl, rfl⟩, .inr ⟨p2, _, [], rfl, m2.same s14⟩, trivial⟩, by simp only [cost, List.map_cons, List.map_nil, List.sum_cons, List.sum_nil]; omega, ⟨_, hD⟩, fun p5 H5 s5 m5 => ?_⟩
    refine ⟨sl 1, fun l6 n6 => ?_⟩
    have s6 := same_new (o := .lst [V.int 7]) n6
    refine mk_cat (dr2.same ((s14.trans s5).trans s6)) (m5.same s6) upd_same fun p7 H7 s7 m7 => ?_
    have s := ((s14.trans s5).trans s6).trans s7
    have ec : cost [([g.2], 1), (ww, n + 2)] = n + 3 := by
      simp only [cost, List.map_cons, List.map_nil, List.sum_cons, List.sum_nil]
      omega
    rw [ec] at m7
    exact q p7 H7 _ _ (.inr (.inr (.inr (.inr (.inl ⟨g, _, us, l, hg, he, rfl, rfl, by rw [hw]; simp [toks]⟩))))) m7 (dr2.same s) (k2.trans (Keep.of s))
theorem ok_between (T : Tx K mg w) (k : Nat) : FnOk P w K mg base CX0 4 T.f_between T.fd_between ["_law_d", "_law_way", "_law_left", "_law_right"] (sp4 (rBetween k)) := by
  refine okR4 T.F_between sc_between rfl fun cdv A outer s H Q EE x y z z2 hr h => ?_
  obtain ⟨d, c, p1, p2, t1, t2, us1, us2, n1, n2, l1, l2, way, rfl, rfl, rfl, rfl, w0, w1, dr, m1, m2, he1, he2, hn1, hn2, q⟩ := h
  refine ⟨_, pss_cons (ps_set (i := 4) sc_between.nd rfl (Or.inl rfl) (pe_ix ix_list (pe_split pe_str pe_str) (pv 1) (fun _ _ => rfl)))
      (pss_cons (ps_set (i := 5) sc_between.nd rfl (Or.inl rfl) (pe_ix ix_list (pe_split pe_str pe_str) (pv 1) (fun _ _ => rfl)))
      (pss_cons (ps_set (i := 6) sc_between.nd rfl (Or.inl rfl) (pe_ix ix_list (pe_lst (pa_cons pe_int (pa_cons pe_int (pa_cons pe_int (pa_cons pe_int (pa_cons pe_int (pa_cons pe_int (pa_cons pe_int (pa_cons pe_int (pa_cons pe_int (pa_cons pe_int (pa_cons pe_int (pa_cons pe_int pa_nil))))))))))))) (pv 1) (fun _ _ => rfl)))
      (C8.pss_cut (ps_set (i := 7) sc_between.nd rfl (Or.inl rfl) (pe_call (ok_wrapped T) (hr.mono (by decide)) rfl T.m_wrapped T.F_wrapped.kp T.b_wrapped .nil pass0 (pa_cons (pv 0) (pa_cons (pv 2) (pa_cons (pe_ifExp (pt_cmpR op_in_seq (pv 6) (pe_tup (pa_cons pe_int (pa_cons pe_int pa_nil))) (by rfl)) (pe_op op_add (pv 6) pe_int) (pv 6)) pa_nil)))))
      (C8.pss_cut (ps_set (i := 8) sc_between.nd rfl (Or.inl rfl) (pe_call (ok_wrapped T) (hr.mono (by decide)) rfl T.m_wrapped T.F_wrapped.kp T.b_wrapped .nil pass0 (pa_cons (pv 0) (pa_cons (pv 3) (pa_cons (pe_ifExp (pt_cmpR op_eq (pv 6) pe_int (nomark _)) pe_int (pe_op op_add (pv 6) pe_int)) pa_nil)))))
      (pss_one (ps_ret (pe_op op_cat (pe_call (ok_made T) (hr.mono (by decide)) rfl T.m_made T.F_made.kp T.b_made .nil pass0 (pa_cons (pe_tup (pa_cons (pv 5) (pa_cons (pe_ix ix_list (pv 2) pe_int (fun _ _ => rfl)) (pa_cons (pe_ix ix_list (pv 3) pe_int (fun _ _ => rfl)) pa_nil)))) (pa_cons (pe_lst (pa_cons (pv 7) (pa_cons (pv 4) (pa_cons (pv 8) pa_nil)))) pa_nil))) (pe_lst (pa_cons (pv 6) pa_nil))))))))), ?_⟩
  obtain ⟨g, hg, e1, e2, e3⟩ := sgs_way w0 w1
  obtain ⟨_, _, m6, iv⟩ := sgs_tab g hg
  refine ⟨⟨_, rfl⟩, _, _, rfl, rfl, by decide +kernel, sl _ (by decide +kernel), fun la na => ?_⟩
  rw [split_signs]
  have sa := same_new (o := .lst ((sgs.map (·.2.1)).map V.str)) na
  refine ⟨_, rfl, la, _, _, _, rfl, rfl, SqL.of upd_same, e1, ?_⟩
  refine ⟨⟨_, rfl⟩, _, _, rfl, rfl, by decide +kernel, sl _ (by decide +kernel), fun lb nb => ?_⟩
  rw [split_words]
  have sb := same_new (o := .lst ((sgs.map (·.1)).map V.str)) nb
  refine ⟨_, rfl, lb, _, _, _, rfl, rfl, SqL.of upd_same, e2, ?_⟩
  refine ⟨sl 12, fun lc nc => ?_⟩
  have sc := same_new (o := .lst [V.int 0, .int 1, .int 2, .int 3, .int 4, .int 4, .int 4, .int 4, .int 5, .int 5, .int 6, .int 6]) nc
  refine ⟨_, rfl, lc, _, _, _, rfl, rfl, SqL.of upd_same, e3, ?_⟩
  have sabc := (sa.trans sb).trans sc
  have m1 := m1.same sabc
  have m2 := m2.same sabc
  have dr := dr.same sabc
  have k0 := Keep.of (d := d) sabc
  generalize upd (upd (upd H la (.lst ((sgs.map (·.2.1)).map V.str))) lb (.lst ((sgs.map (·.1)).map V.str))) lc (.lst [V.int 0, .int 1, .int 2, .int 3, .int 4, .int 4, .int 4, .int 4, .int 5, .int 5, .int 6, .int 6]) = H0 at m1 m2 dr k0 ⊢
  have lef : lefL g.2.2 = if g.2.2 = 0 ∨ g.2.2 = 4 then g.2.2 + 1 else g.2.2 := rfl
  have rig : rigL g.2.2 = if g.2.2 = 0 then 0 else g.2.2 + 1 := rfl
  have iv := sgs_in g hg
  refine ⟨fun σ H3 => ∃ p3 : Addr, σ = [some (.ref d), some (.int way), some (.ref p1), some (.ref p2), some (.str g.2.1), some (.str g.1), some (.int (g.2.2 : Int)), some (.ref p3), none] ∧ Mk d H3 p3 t1 (wr (decide (l1 < lefL g.2.2)) us1) (n1 + 2) [] ∧ Dr d c H3 ∧ Keep d H0 H3, ?_, ?_⟩
  · refine ⟨_, rfl, _, rfl, _, rfl, sl 2, fun p0 hp0 => ⟨p0, _, rfl, .inr (SqT.of upd_same), rfl, rfl, _, rfl, ?_⟩⟩
    have s0 := same_new (o := .tup [V.int 0, V.int 4]) hp0
    by_cases hm : g.2.2 = 0 ∨ g.2.2 = 4
    · rw [if_pos hm] at lef
      refine ite2 (fun _ => ?_) (fun h => absurd (iv.trans (decide_eq_true hm)) h)
      refine ⟨_, rfl, _, _, rfl, rfl, _, _, _, rfl, d, c, p1, t1, us1, n1, l1, lefL g.2.2, rfl, rfl, congrArg V.int (by omega), dr.same s0, m1.same s0, by omega, fun p3 H3 m3 dr3 k3 => ?_⟩
      exact ⟨p3, rfl, m3, dr3, (Keep.of s0).trans k3⟩
    · rw [if_neg hm] at lef
      refine ite2 (fun h => absurd (iv.symm.trans h) (by rw [decide_eq_false hm]; decide)) (fun _ => ?_)
      refine ⟨_, rfl, _, _, _, rfl, d, c, p1, t1, us1, n1, l1, lefL g.2.2, rfl, rfl, congrArg V.int (by omega), dr.same s0, m1.same s0, by omega, fun p3 H3 m3 dr3 k3 => ?_⟩
      exact ⟨p3, rfl, m3, dr3, (Keep.of s0).trans k3⟩
  · rintro σ H3 ⟨p3, rfl, m3, dr3, k3⟩
    have m1 := m1.keep dr k3
    have m2 := m2.keep dr k3
    refine ⟨fun σ H4 => ∃ p4 : Addr, σ = [some (.ref d), some (.int way), some (.ref p1), some (.ref p2), some (.str g.2.1), some (.str g.1), some (.int (g.2.2 : Int)), some (.ref p3), some (.ref p4)] ∧ Mk d H4 p4 t2 (wr (decide (l2 < rigL g.2.2)) us2) (n2 + 2) [] ∧ Dr d c H4 ∧ Keep d H3 H4, ?_, ?_⟩
    · refine ⟨_, rfl, _, rfl, _, rfl, rfl, _, rfl, ?_⟩
      by_cases hm : g.2.2 = 0
      · rw [if_pos hm] at rig
        refine ite2 (fun _ => ?_) (fun h => absurd (decide_eq_true (congrArg V.int (by omega))) h)
        refine ⟨_, _, _, rfl, d, c, p2, t2, us2, n2, l2, rigL g.2.2, rfl, rfl, congrArg V.int (by omega), dr3, m2, by omega, fun p4 H4 m4 dr4 k4 => ?_⟩
        exact ⟨p4, rfl, m4, dr4, k4⟩
      · rw [if_neg hm] at rig
        refine ite2 (fun h => absurd (V.int.inj (of_decide_eq_true h)) (by omega)) (fun _ => ?_)
        refine ⟨_, rfl, _, _, rfl, rfl, _, _, _, rfl, d, c, p2, t2, us2, n2, l2, rigL g.2.2, rfl, rfl, congrArg V.int (by omega), dr3, m2, by omega, fun p4 H4 m4 dr4 k4 => ?_⟩
        exact ⟨p4, rfl, m4, dr4, k4⟩
    · rintro σ H4 ⟨p4, rfl, m4, dr4, k4⟩
      have m1 := m1.keep dr3 k4
      have m2 := m2.keep dr3 k4
      have m3 := m3.keep dr3 k4
      have k04 := (k0.trans k3).trans k4
      obtain ⟨v1, _, _, _, g1, h1, _⟩ := id m1
      obtain ⟨v2, _, _, _, g2, h2, _⟩ := id m2
      generalize hw1 : wr (decide (l1 < lefL g.2.2)) us1 = ww1 at m3
      generalize hw2 : wr (decide (l2 < rigL g.2.2)) us2 = ww2 at m4
      refine ⟨_, rfl, _, rfl, p1, _, _, _, rfl, rfl, SqL.of g1, at_n 0 rfl, _, rfl, p2, _, _, _, rfl, rfl, SqL.of g2, at_n 0 rfl, sl 3, fun t5 nt => ⟨_, rfl, _, rfl, _, rfl, sl 3, fun l6 n6 => ?_⟩⟩
      have s5 := same_new (o := .tup [V.str g.1, v1, v2]) nt
      have hx := td3 (a := .str g.1) (b := v1) (c := v2) (x := .str g.1) nt rfl h1 h2
      have s6 := same_new (o := .lst [V.ref p3, V.str g.2.1, V.ref p4]) n6
      have s56 := s5.trans s6
      obtain ⟨xs, hD⟩ := (dr4.same s56).there
      refine ⟨_, _, rfl, d, _, l6, _, [(ww1, n1 + 2), ([g.2.1], 1), (ww2, n2 + 2)], Td.mono (TS.of s6) _ _ hx, rfl, upd_same, ⟨.inr ⟨p3, _, [], rfl, m3.same s56⟩, .inl ⟨_, rfl, rfl⟩, .inr ⟨p4, _, [], rfl, m4.same s56⟩, trivial⟩, by simp only [cost, List.map_cons, List.map_nil, List.sum_cons, List.sum_nil]; omega, ⟨_, hD⟩, fun p7 H7 s7 m7 => ?_⟩
      refine ⟨_, rfl, sl 1, fun l8 n8 => ?_⟩
      have s8 := same_new (o := .lst [V.int (g.2.2 : Int)]) n8
      refine mk_cat (dr4.same ((s56.trans s7).trans s8)) (m7.same s8) upd_same fun p9 H9 s9 m9 => ?_
      have s := ((s56.trans s7).trans s8).trans s9
      have ec : cost [(ww1, n1 + 2), ([g.2.1], 1), (ww2, n2 + 2)] = n1 + n2 + 5 := by
        simp only [cost, List.map_cons, List.map_nil, List.sum_cons, List.sum_nil]
        omega
      rw [ec] at m9
      exact q p9 H9 _ _ _ (.inr (.inr (.inr (.inl ⟨g, t1, t2, us1, us2, l1, l2, hg, he1, he2, rfl, rfl, by rw [hw1, hw2]; simp [toks]⟩)))) m9 (dr4.same s) (k04.trans (Keep.of s))
end

/-- the room: two numbers in a list at m -/
def Rm (m : Addr) (H : Hp) : Prop := ∃ x y : Int, H m = some (.lst [.int x, .int y])
/-- all but the objects at d and m stays -/
def K2 (d m : Addr) (H H' : Hp) : Prop := ∀ b o, H b = some o → b ≠ d → b ≠ m → H' b = some o
theorem K2.trans {d m : Addr} {H H1 H2 : Hp} (a : K2 d m H H1) (b : K2 d m H1 H2) : K2 d m H H2 := fun c o h n1 n2 => b c o (a c o h n1 n2) n1 n2
theorem K2.refl (d m : Addr) (H : Hp) : K2 d m H H := fun _ _ h _ _ => h
theorem K2.of {d m : Addr} {H H1 : Hp} (a : Keep d H H1) : K2 d m H H1 := fun c o h n1 _ => a c o h n1
theorem K2.same {d m : Addr} {H H1 : Hp} (a : Same H H1) : K2 d m H H1 := fun c o h _ _ => a c o h
theorem Rm.ne {d c m : Addr} {H : Hp} (r : Rm m H) (dr : Dr d c H) : m ≠ d := by
  rintro rfl
  obtain ⟨x, y, h⟩ := r
  obtain ⟨_, _, _, _, _, h1, _⟩ := dr
  rw [h] at h1
  cases h1
theorem Rm.keep {d c m : Addr} {H H' : Hp} (r : Rm m H) (dr : Dr d c H) (k : Keep d H H') : Rm m H' := by
  have n := r.ne dr
  obtain ⟨x, y, h⟩ := r
  exact ⟨x, y, k _ _ h n⟩
theorem Rm.same {m : Addr} {H H' : Hp} (r : Rm m H) (k : Same H H') : Rm m H' := by
  obtain ⟨x, y, h⟩ := r
  exact ⟨x, y, k _ _ h⟩
theorem K2.ts {d c m : Addr} {H H' : Hp} (k : K2 d m H H') (dr : Dr d c H) (r : Rm m H) : TS H H' := fun b xs e => by
  obtain ⟨ys, hd⟩ := dr.there
  obtain ⟨x, y, hm⟩ := r
  refine k b _ e ?_ ?_
  · rintro rfl
    rw [hd] at e
    cases e
  · rintro rfl
    rw [hm] at e
    cases e
theorem SL.k2 {d m a : Addr} {H H' : Hp} {us : List Str} (h : SL H a us) (k : K2 d m H H') (r : Rm m H) (n : a ≠ d) : SL H' a us := by
  refine k _ _ h n ?_
  rintro rfl
  obtain ⟨x, y, hm⟩ := r
  unfold SL at h
  rw [hm] at h
  injection h with h
  injection h with h
  cases us with
  | nil => cases h
  | cons z zs =>
    rw [List.map_cons] at h
    injection h with h _
    cases h
theorem Mk.k2 {D c m p : Addr} {H H' : Hp} {d : PyData} {us : List Str} {n : Nat} {rest : List V} (h : Mk D H p d us n rest) (dr : Dr D c H) (r : Rm m H) (k : K2 D m H H') : Mk D H' p d us n rest := by
  obtain ⟨v, a, b, ls, h1, h2, h3, h4, h5, h6, h7, h8, h9⟩ := h
  refine ⟨v, a, b, ls, k _ _ h1 h7 ?_, Td.mono (k.ts dr r) _ _ h2, h3.k2 k r h8, h4.k2 k r h9.1, h5, h6, h7, h8, h9⟩
  rintro rfl
  obtain ⟨x, y, hm⟩ := r
  rw [hm] at h1
  injection h1 with h1
  injection h1 with h1
  injection h1 with _ h1
  injection h1 with h1 _
  cases h1
def rSign : V → V → Hp → VK → Prop := fun x y H Q => ∃ d c m : Addr, x = .ref d ∧ y = .ref m ∧ Dr d c H ∧ Rm m H ∧ m ≠ c ∧ ∀ (r : Int) (H' : Hp), 0 ≤ r → r < 12 → Dr d c H' → Rm m H' → K2 d m H H' → Q (.int r) H'
section
variable {P : Program} {w : World} {K : PySem.W.Frag} {mg : Str → Option Value} {base : Heap}
theorem ok_drawn_sign (T : Tx K mg w) : FnOk P w K mg base CX0 3 T.f_drawn_sign T.fd_drawn_sign ["_law_d", "_law_room"] (sp2 rSign) := by
  refine okR2 T.F_drawn_sign sc_drawn_sign rfl fun cdv A outer s H Q EE x y hr h => ?_
  obtain ⟨d, c, m, rfl, rfl, dr, rm, mc, q⟩ := h
  refine ⟨_, pss_cons (ps_set (i := 2) sc_drawn_sign.nd rfl (Or.inl rfl) (pe_ix ix_list (pe_lst (pa_cons pe_int (pa_cons pe_int (pa_cons pe_int (pa_cons pe_int (pa_cons pe_int (pa_cons pe_int (pa_cons pe_int (pa_cons pe_int (pa_cons pe_int (pa_cons pe_int (pa_cons pe_int (pa_cons pe_int (pa_cons pe_int (pa_cons pe_int pa_nil))))))))))))))) (pe_call (ok_draw T) (hr.mono (by decide)) rfl T.m_draw T.F_draw.kp T.b_draw .nil pass0 (pa_cons (pv 0) (pa_cons pe_int pa_nil))) (fun _ _ => rfl)))
      (pss_cons (ps_if (pt_cmpR op_gt (pv 2) pe_int (nomark _)) (pss_one (ps_ret (pv 2))) pss_nil)
      (pss_cons (ps_if (pt_cmpR op_lt (pe_ix ix_list (pv 1) pe_int (fun _ _ => rfl)) pe_int (nomark _)) (pss_one (ps_ret pe_int)) pss_nil)
      (pss_cons (ps_asg (pe_op op_sub (pe_ix ix_list (pv 1) pe_int (fun _ _ => rfl)) pe_int) (pg_sub (pv 1) pe_int set_list))
      (pss_one (ps_ret pe_int))))), ?_⟩
  refine ⟨sl 14, fun l1 n1 => ?_⟩
  have s1 := same_new (o := .lst [V.int 0, V.int 1, V.int 2, V.int 3, V.int 4, V.int 5, V.int 6, V.int 7, V.int 8, V.int 9, V.int 10, V.int 11, V.int 0, V.int 0]) n1
  have ld := dr.dne n1
  refine ⟨_, rfl, _, _, rfl, d, c, 14, rfl, rfl, dr.same s1, by omega, by omega, fun r H2 r0 r1 dr2 k2 => ?_⟩
  obtain ⟨way, hn, hm⟩ := at_int (ns := [0, 1, 2, 3, 4, 5, 6, 7, 8, 9, 10, 11, 0, 0]) r0 r1
  have wb : 0 ≤ way ∧ way < 12 := by
    simp only [List.mem_cons, List.not_mem_nil, or_false] at hm
    omega
  have k12 := (Keep.of (d := d) s1).trans k2
  have rm2 := rm.keep dr k12
  refine ⟨l1, _, _, _, rfl, rfl, SqL.of (k2 _ _ upd_same ld), hn, ?_⟩
  refine ⟨_, rfl, _, _, rfl, rfl, _, rfl, ite2 (fun _ => ?_) (fun _ => ?_)⟩
  · exact ⟨_, rfl, q way H2 wb.1 wb.2 dr2 rm2 (K2.of k12)⟩
  have md := rm2.ne dr2
  obtain ⟨a, b, hr2⟩ := id rm2
  refine ⟨_, rfl, m, _, _, _, rfl, rfl, SqL.of hr2, at_n 1 rfl, _, _, rfl, rfl, _, rfl, ite2 (fun _ => ?_) (fun _ => ?_)⟩
  · exact q 1 H2 (by omega) (by omega) dr2 rm2 (K2.of k12)
  refine ⟨_, rfl, m, _, _, _, rfl, rfl, SqL.of hr2, at_n 1 rfl, _, _, rfl, rfl, _, rfl, m, _, _, 1, rfl, rfl, hr2, rfl, ?_⟩
  exact q 0 _ (by omega) (by omega) (dr2.else md mc) ⟨a, b - 1, upd_same⟩ (fun e o he n1 n2 => upd_else (k12 e o he n1) n2)
end

def B (s : Int) : Nat := if s < 2 then 10 else 130 * s.toNat
theorem B_small {s : Int} (h : s < 2) : B s = 10 := if_pos h
theorem B_big {s : Int} (h : ¬ s < 2) : B s = 130 * s.toNat := if_neg h
theorem B_le {s : Int} {n : Nat} (h : s ≤ n) : B s ≤ 130 * n + 10 := by
  by_cases g : s < 2
  · rw [B_small g]; omega
  · rw [B_big g]; omega
def rExD (n : Nat) : V → V → V → Hp → VK → Prop := fun x y z H Q => ∃ (d c m : Addr) (sz : Int), x = .ref d ∧ y = .int sz ∧ z = .ref m ∧ sz ≤ n ∧ Dr d c H ∧ Rm m H ∧ m ≠ c ∧
  ∀ (p : Addr) (H' : Hp) (t : PyData) (us : List Str) (k l : Nat), ET (n + 1) t us l → k ≤ B sz → Mk d H' p t us k [.int (l : Int)] → Dr d c H' → Rm m H' → K2 d m H H' → Q (.ref p) H'
def ArgR (n : Nat) (s : Str) (sz : Int) (t : PyData) (us : List Str) (k : Nat) : Prop :=
  (s = "k" ∧ k ≤ 100 ∧ KT 2 t us) ∨ (s = "l" ∧ k ≤ 5 ∧ LT t us) ∨ (s = "n" ∧ k ≤ 1 ∧ ∃ z : Str, okN z ∧ t = .str z ∧ us = [z]) ∨ (s = "i" ∧ k ≤ 1 ∧ ∃ i : Int, okI i ∧ 0 ≤ i ∧ t = .int i ∧ us = [sI i]) ∨
  (s = "e" ∧ k ≤ B sz + 2 ∧ ∃ l, ET (n + 1) t us l) ∨ (s = "a" ∧ k ≤ B sz + 6 ∧ ∃ (v e : PyData) (u x : List Str) (l : Nat), VT v u ∧ ET (n + 1) e x l ∧ t = .tuple [v, e] ∧ us = u ++ ([":"] : List Str) ++ x)
def rArgD (n : Nat) : V → V → V → V → Hp → VK → Prop := fun x y z z2 H Q => ∃ (d c m : Addr) (s : Str) (sz : Int), x = .ref d ∧ y = .str s ∧ z = .int sz ∧ z2 = .ref m ∧ s ∈ (["k", "l", "n", "i", "e", "a"] : List Str) ∧ sz ≤ n ∧ Dr d c H ∧ Rm m H ∧ m ≠ c ∧
  ∀ (p : Addr) (H' : Hp) (t : PyData) (us : List Str) (k : Nat), ArgR n s sz t us k → Mk d H' p t us k [] → Dr d c H' → Rm m H' → K2 d m H H' → Q (.ref p) H'
section
variable {P : Program} {w : World} {K : PySem.W.Frag} {mg : Str → Option Value} {base : Heap}
theorem rec_arg (T : Tx K mg w) (n : Nat) (hn : n ≤ 20) (ih : FnOk P w K mg base CX0 (10 + 3 * n) T.f_drawn_expr T.fd_drawn_expr ["_law_d", "_law_size", "_law_room"] (sp3 (rExD n))) : FnOk P w K mg base CX0 (11 + 3 * n) T.f_drawn_argument T.fd_drawn_argument ["_law_d", "_law_sort", "_law_size", "_law_room"] (sp4 (rArgD n)) := by
  rw [show 11 + 3 * n = (10 + 3 * n) + 1 by omega]
  refine okR4 T.F_drawn_argument sc_drawn_argument rfl fun cdv A outer s H Q EE x y z z2 hr h => ?_
  obtain ⟨d, c, m, so, sz, rfl, rfl, rfl, rfl, hso, hsz, dr, rm, mc, q⟩ := h
  refine ⟨_, pss_cons (ps_if (pt_cmpR op_eq (pv 1) pe_str (nomark _)) (pss_one (ps_ret (pe_call (ok_drawn_kind T) (hr.mono (by omega)) rfl T.m_drawn_kind T.F_drawn_kind.kp T.b_drawn_kind .nil pass0 (pa_cons (pv 0) pa_nil)))) pss_nil)
      (pss_cons (ps_if (pt_cmpR op_eq (pv 1) pe_str (nomark _)) (pss_one (ps_ret (pe_call (ok_drawn_layer T) (hr.mono (by omega)) rfl T.m_drawn_layer T.F_drawn_layer.kp T.b_drawn_layer .nil pass0 (pa_cons (pv 0) pa_nil)))) pss_nil)
      (pss_cons (ps_if (pt_cmpR op_eq (pv 1) pe_str (nomark _)) (pss_cons (ps_set (i := 4) sc_drawn_argument.nd rfl (Or.inl rfl) (pe_call (ok_drawn_name T) (hr.mono (by omega)) rfl T.m_drawn_name T.F_drawn_name.kp T.b_drawn_name .nil pass0 (pa_cons (pv 0) pa_nil)))
      (pss_one (ps_ret (pe_call (ok_made T) (hr.mono (by omega)) rfl T.m_made T.F_made.kp T.b_made .nil pass0 (pa_cons (pv 4) (pa_cons (pe_lst (pa_cons (pv 4) pa_nil)) pa_nil)))))) pss_nil)
      (pss_cons (ps_if (pt_cmpR op_eq (pv 1) pe_str (nomark _)) (pss_cons (ps_set (i := 5) sc_drawn_argument.nd rfl (Or.inl rfl) (pe_call (ok_drawn_number T) (hr.mono (by omega)) rfl T.m_drawn_number T.F_drawn_number.kp T.b_drawn_number .nil pass0 (pa_cons (pv 0) pa_nil)))
      (pss_one (ps_ret (pe_call (ok_made T) (hr.mono (by omega)) rfl T.m_made T.F_made.kp T.b_made .nil pass0 (pa_cons (pv 5) (pa_cons (pe_lst (pa_cons (pe_callTy call_str_int (by rfl) T.z_str (by decide +kernel) (pa_cons (pv 5) pa_nil)) pa_nil)) pa_nil)))))) pss_nil)
      (pss_cons (ps_set (i := 6) sc_drawn_argument.nd rfl (Or.inl rfl) (pe_call (ok_wrapped T) (hr.mono (by omega)) rfl T.m_wrapped T.F_wrapped.kp T.b_wrapped .nil pass0 (pa_cons (pv 0) (pa_cons (pe_call ih (hr.mono (by omega)) rfl T.m_drawn_expr T.F_drawn_expr.kp T.b_drawn_expr .nil pass0 (pa_cons (pv 0) (pa_cons (pv 2) (pa_cons (pv 3) pa_nil)))) (pa_cons pe_int pa_nil)))))
      (pss_cons (ps_if (pt_cmpR op_eq (pv 1) pe_str (nomark _)) (pss_one (ps_ret (pv 6))) pss_nil)
      (pss_cons (ps_set (i := 7) sc_drawn_argument.nd rfl (Or.inl rfl) (pe_call (ok_drawn_case T) (hr.mono (by omega)) rfl T.m_drawn_case T.F_drawn_case.kp T.b_drawn_case .nil pass0 (pa_cons (pv 0) pa_nil)))
      (pss_one (ps_ret (pe_call (ok_made T) (hr.mono (by omega)) rfl T.m_made T.F_made.kp T.b_made .nil pass0 (pa_cons (pe_tup (pa_cons (pe_ix ix_list (pv 7) pe_int (fun _ _ => rfl)) (pa_cons (pe_ix ix_list (pv 6) pe_int (fun _ _ => rfl)) pa_nil))) (pa_cons (pe_lst (pa_cons (pv 7) (pa_cons pe_str (pa_cons (pv 6) pa_nil)))) pa_nil))))))))))), ?_⟩
  refine ⟨_, rfl, rfl, _, rfl, ite2 (fun h => ?_) (fun nk => ?_)⟩
  · have e := V.str.inj (of_decide_eq_true h)
    refine ⟨_, rfl, _, rfl, d, c, rfl, dr, fun p H1 t us k ⟨lk, hk⟩ m1 dr1 k1 => ?_⟩
    exact q p H1 t us k (.inl ⟨e, lk, hk⟩) m1 dr1 (rm.keep dr k1) (K2.of k1)
  refine ⟨_, rfl, rfl, _, rfl, ite2 (fun h => ?_) (fun nl => ?_)⟩
  · have e := V.str.inj (of_decide_eq_true h)
    refine ⟨_, rfl, _, rfl, d, c, rfl, dr, fun p H1 t us k ⟨lk, hk⟩ m1 dr1 k1 => ?_⟩
    exact q p H1 t us k (.inr (.inl ⟨e, lk, hk⟩)) m1 dr1 (rm.keep dr k1) (K2.of k1)
  refine ⟨_, rfl, rfl, _, rfl, ite2 (fun h => ?_) (fun nn => ?_)⟩
  · have e := V.str.inj (of_decide_eq_true h)
    refine ⟨_, rfl, _, rfl, d, c, rfl, dr, fun z H1 oz dr1 k1 => ?_⟩
    refine ⟨_, rfl, _, rfl, sl 1, fun l2 n2 => ?_⟩
    have s2 := same_new (o := .lst [V.str z]) n2
    refine made_strs (d := .str z) (zs := [z]) (dr1.same s2) rfl upd_same (by simp) fun p H3 s3 m3 => ?_
    have k3 := k1.trans (Keep.of (s2.trans s3))
    exact q p H3 _ _ _ (.inr (.inr (.inl ⟨e, by simp, z, oz, rfl, rfl⟩))) m3 (dr1.same (s2.trans s3)) (rm.keep dr k3) (K2.of k3)
  refine ⟨_, rfl, rfl, _, rfl, ite2 (fun h => ?_) (fun ni => ?_)⟩
  · have e := V.str.inj (of_decide_eq_true h)
    refine ⟨_, rfl, _, rfl, d, c, rfl, dr, fun i H1 a1 b1 dr1 k1 => ?_⟩
    have oi : okI i := by unfold okI; omega
    refine ⟨_, rfl, _, rfl, _, rfl, log_ok oi, sl 1, fun l2 n2 => ?_⟩
    have s2 := same_new (o := .lst [V.str (sI i)]) n2
    refine made_strs (d := .int i) (zs := [sI i]) (dr1.same s2) rfl upd_same (by simp) fun p H3 s3 m3 => ?_
    have k3 := k1.trans (Keep.of (s2.trans s3))
    exact q p H3 _ _ _ (.inr (.inr (.inr (.inl ⟨e, by simp, i, oi, a1, rfl, rfl⟩)))) m3 (dr1.same (s2.trans s3)) (rm.keep dr k3) (K2.of k3)
  have bl := B_le hsz
  refine ⟨_, rfl, _, rfl, _, rfl, _, rfl, _, _, _, rfl, d, c, m, sz, rfl, rfl, rfl, hsz, dr, rm, mc, fun p1 H1 t us k l he lk m1 dr1 rm1 k1 => ?_⟩
  refine ⟨_, _, _, rfl, d, c, p1, t, us, k, l, 0, rfl, rfl, rfl, dr1, m1, by omega, fun p2 H2 m2 dr2 k2 => ?_⟩
  rw [wr_no (decide_eq_false (Nat.not_lt_zero l))] at m2
  have rm2 := rm1.keep dr1 k2
  have k12 := k1.trans (K2.of k2)
  refine ⟨_, rfl, rfl, _, rfl, ite2 (fun h => ?_) (fun ne => ?_)⟩
  · have e := V.str.inj (of_decide_eq_true h)
    exact ⟨_, rfl, q p2 H2 t us _ (.inr (.inr (.inr (.inr (.inl ⟨e, by omega, l, he⟩))))) m2 dr2 rm2 k12⟩
  have ea : so = "a" := by
    have f : ∀ {a : Str}, ¬ decide (V.str so = V.str a) = true → ¬ so = a := fun h e => h (decide_eq_true (congrArg V.str e))
    simp only [List.mem_cons, List.not_mem_nil, or_false] at hso
    rcases hso with e | e | e | e | e | e
    · exact absurd e (f nk)
    · exact absurd e (f nl)
    · exact absurd e (f nn)
    · exact absurd e (f ni)
    · exact absurd e (f ne)
    · exact e
  refine ⟨_, rfl, _, rfl, d, c, rfl, dr2, fun p3 H3 t3 us3 k3' ⟨lk3, vt⟩ m3 dr3 k3 => ?_⟩
  have m2 := m2.keep dr2 k3
  have rm3 := rm2.keep dr2 k3
  obtain ⟨v2, _, _, _, g2, h2, _⟩ := id m2
  obtain ⟨v3, _, _, _, g3, h3, _⟩ := id m3
  refine ⟨_, rfl, p3, _, _, _, rfl, rfl, SqL.of g3, at_n 0 rfl, _, rfl, p2, _, _, _, rfl, rfl, SqL.of g2, at_n 0 rfl, sl 2, fun t5 nt => ⟨_, rfl, _, rfl, sl 3, fun l6 n6 => ?_⟩⟩
  have s5 := same_new (o := .tup [v3, v2]) nt
  have hx := td2 (a := v3) (b := v2) nt h3 h2
  have s6 := same_new (o := .lst [V.ref p3, V.str ":", V.ref p2]) n6
  have s56 := s5.trans s6
  obtain ⟨xs, hD⟩ := (dr3.same s56).there
  refine ⟨_, _, rfl, d, _, l6, _, [(us3, k3'), ([":"], 1), (us, k + 2)], Td.mono (TS.of s6) _ _ hx, rfl, upd_same, ⟨.inr ⟨p3, _, [], rfl, m3.same s56⟩, .inl ⟨_, rfl, rfl⟩, .inr ⟨p2, _, [], rfl, m2.same s56⟩, trivial⟩, by simp only [cost, List.map_cons, List.map_nil, List.sum_cons, List.sum_nil]; omega, ⟨_, hD⟩, fun p7 H7 s7 m7 => ?_⟩
  have s := s56.trans s7
  refine q p7 H7 _ _ _ (.inr (.inr (.inr (.inr (.inr ⟨ea, ?_, t3, t, us3, us, l, vt, he, rfl, by simp [toks]⟩))))) m7 (dr3.same s) (rm3.same s) ((k12.trans (K2.of k3)).trans (K2.same s))
  simp only [cost, List.map_cons, List.map_nil, List.sum_cons, List.sum_nil]
  omega
end

def rCallD (n : Nat) : V → V → V → Hp → VK → Prop := fun x y z H Q => ∃ (d c m : Addr) (sz : Int), x = .ref d ∧ y = .int sz ∧ z = .ref m ∧ 2 ≤ sz ∧ sz ≤ ((n + 1 : Nat) : Int) ∧ Dr d c H ∧ Rm m H ∧ m ≠ c ∧
  ∀ (p : Addr) (H' : Hp) (t : PyData) (us : List Str) (k : Nat), ET (n + 2) t us 8 → k ≤ B sz → Mk d H' p t us k [.int ((8 : Nat) : Int)] → Dr d c H' → Rm m H' → K2 d m H H' → Q (.ref p) H'
section
variable {P : Program} {w : World} {K : PySem.W.Frag} {mg : Str → Option Value} {base : Heap}
theorem rec_exd (T : Tx K mg w) (n : Nat) (hn : n ≤ 20) (ih : FnOk P w K mg base CX0 (10 + 3 * n) T.f_drawn_expr T.fd_drawn_expr ["_law_d", "_law_size", "_law_room"] (sp3 (rExD n)))
    (ihC : FnOk P w K mg base CX0 (12 + 3 * n) T.f_drawn_call T.fd_drawn_call ["_law_d", "_law_size", "_law_room"] (sp3 (rCallD n))) : FnOk P w K mg base CX0 (10 + 3 * (n + 1)) T.f_drawn_expr T.fd_drawn_expr ["_law_d", "_law_size", "_law_room"] (sp3 (rExD (n + 1))) := by
  rw [show 10 + 3 * (n + 1) = (12 + 3 * n) + 1 by omega]
  refine okR3 T.F_drawn_expr sc_drawn_expr rfl fun cdv A outer s H Q EE x y z hr h => ?_
  obtain ⟨d, c, m, sz, rfl, rfl, rfl, hsz, dr, rm, mc, q⟩ := h
  refine ⟨_, pss_cons (ps_if (PW.pt (pw_or (pt_cmpR op_lt (pv 1) pe_int (nomark _)) (pw_or1 (pt_cmpR op_lt (pe_ix ix_list (pv 2) pe_int (fun _ _ => rfl)) pe_int (nomark _))))) (pss_one (ps_ret (pe_call (ok_drawn_leaf T) (hr.mono (by omega)) rfl T.m_drawn_leaf T.F_drawn_leaf.kp T.b_drawn_leaf .nil pass0 (pa_cons (pv 0) pa_nil)))) pss_nil)
      (pss_cons (ps_set (i := 3) sc_drawn_expr.nd rfl (Or.inl rfl) (pe_call (ok_draw T) (hr.mono (by omega)) rfl T.m_draw T.F_draw.kp T.b_draw .nil pass0 (pa_cons (pv 0) (pa_cons pe_int pa_nil))))
      (pss_cons (ps_if (pt_cmpR op_lt (pv 3) pe_int (nomark _)) (pss_cons (ps_set (i := 4) sc_drawn_expr.nd rfl (Or.inl rfl) (pe_call ih (hr.mono (by omega)) rfl T.m_drawn_expr T.F_drawn_expr.kp T.b_drawn_expr .nil pass0 (pa_cons (pv 0) (pa_cons (pe_op op_sub (pv 1) pe_int) (pa_cons (pv 2) pa_nil)))))
      (pss_one (ps_ret (pe_call (ok_fronted T (n + 1)) (hr.mono (by omega)) rfl T.m_fronted T.F_fronted.kp T.b_fronted .nil pass0 (pa_cons (pv 0) (pa_cons (pe_call (ok_draw T) (hr.mono (by omega)) rfl T.m_draw T.F_draw.kp T.b_draw .nil pass0 (pa_cons (pv 0) (pa_cons pe_int pa_nil))) (pa_cons (pv 4) pa_nil))))))) pss_nil)
      (pss_cons (ps_if (pt_cmpR op_gt (pv 3) pe_int (nomark _)) (pss_one (ps_ret (pe_call ihC (hr.mono (by omega)) rfl T.m_drawn_call T.F_drawn_call.kp T.b_drawn_call .nil pass0 (pa_cons (pv 0) (pa_cons (pv 1) (pa_cons (pv 2) pa_nil)))))) pss_nil)
      (pss_cons (ps_set (i := 5) sc_drawn_expr.nd rfl (Or.inl rfl) (pe_call (ok_drawn_sign T) (hr.mono (by omega)) rfl T.m_drawn_sign T.F_drawn_sign.kp T.b_drawn_sign .nil pass0 (pa_cons (pv 0) (pa_cons (pv 2) pa_nil))))
      (pss_cons (ps_set (i := 6) sc_drawn_expr.nd rfl (Or.inl rfl) (pe_op op_add pe_int (pe_call (ok_draw T) (hr.mono (by omega)) rfl T.m_draw T.F_draw.kp T.b_draw .nil pass0 (pa_cons (pv 0) (pa_cons (pe_op op_sub (pv 1) pe_int) pa_nil)))))
      (pss_cons (ps_set (i := 7) sc_drawn_expr.nd rfl (Or.inl rfl) (pe_call ih (hr.mono (by omega)) rfl T.m_drawn_expr T.F_drawn_expr.kp T.b_drawn_expr .nil pass0 (pa_cons (pv 0) (pa_cons (pv 6) (pa_cons (pv 2) pa_nil)))))
      (pss_cons (ps_set (i := 8) sc_drawn_expr.nd rfl (Or.inl rfl) (pe_call ih (hr.mono (by omega)) rfl T.m_drawn_expr T.F_drawn_expr.kp T.b_drawn_expr .nil pass0 (pa_cons (pv 0) (pa_cons (pe_op op_sub (pe_op op_sub (pv 1) pe_int) (pv 6)) (pa_cons (pv 2) pa_nil)))))
      (pss_one (ps_ret (pe_call (ok_between T (n + 1)) (hr.mono (by omega)) rfl T.m_between T.F_between.kp T.b_between .nil pass0 (pa_cons (pv 0) (pa_cons (pv 5) (pa_cons (pv 7) (pa_cons (pv 8) pa_nil)))))))))))))), ?_⟩
  obtain ⟨ra, rb, hrm⟩ := id rm
  -- a leaf
  have leaf : ∃ a, ([.ref d] : List V) = [a] ∧ rMkE RLeaf a H Q := ⟨_, rfl, d, c, rfl, dr, fun p H1 t us k l ⟨lk, he⟩ m1 dr1 k1 => by
    refine q p H1 t us k l (ET.up he (by omega)) ?_ m1 dr1 (rm.keep dr k1) (K2.of k1)
    by_cases g : sz < 2
    · rw [B_small g]; exact lk
    · rw [B_big g]; omega⟩
  refine ⟨_, rfl, _, _, rfl, rfl, _, rfl, ite2 (fun _ => iteT ⟨_, rfl, leaf⟩) (fun hs => ?_)⟩
  have s2 : ¬ sz < 2 := fun z => hs (decide_eq_true z)
  refine ⟨_, rfl, m, _, _, _, rfl, rfl, SqL.of hrm, at_n 0 rfl, _, _, rfl, rfl, _, rfl, ite2 (fun _ => ⟨_, rfl, leaf⟩) (fun _ => ?_)⟩
  have bz := B_big s2
  refine ⟨_, rfl, _, _, rfl, d, c, 8, rfl, rfl, dr, by omega, by omega, fun r H1 r0 r1 dr1 k1 => ?_⟩
  have rm1 := rm.keep dr k1
  have k1' : K2 d m H H1 := K2.of k1
  have bn : ∀ s : Int, s ≤ sz → B s ≤ 7000 := fun s h => by
    have := B_le (s := s) (n := n + 1) (by omega)
    omega
  refine ⟨_, rfl, _, _, rfl, rfl, _, rfl, ite2 (fun _ => ?_) (fun _ => ?_)⟩
  · refine ⟨_, rfl, _, rfl, _, _, rfl, rfl, _, rfl, _, _, _, rfl, d, c, m, sz - 1, rfl, rfl, rfl, by omega, dr1, rm1, mc, fun p2 H2 t us k l he lk m2 dr2 rm2 k2 => ?_⟩
    have b1 := bn (sz - 1) (by omega)
    refine ⟨_, rfl, _, rfl, _, _, rfl, d, c, 3, rfl, rfl, dr2, by omega, by omega, fun r3 H3 a3 b3 dr3 k3 => ?_⟩
    have m2 := m2.keep dr2 k3
    have rm3 := rm2.keep dr2 k3
    refine ⟨_, rfl, _, _, _, rfl, d, c, p2, t, us, k, l, r3, rfl, rfl, rfl, a3, b3, dr3, m2, he, by omega, fun p4 H4 t4 us4 he4 m4 dr4 k4 => ?_⟩
    refine q p4 H4 t4 us4 _ 7 he4 ?_ m4 dr4 (rm3.keep dr3 k4) (((k1'.trans k2).trans (K2.of k3)).trans (K2.of k4))
    rw [bz]
    by_cases g : sz - 1 < 2
    · rw [B_small g] at lk; omega
    · rw [B_big g] at lk; omega
  refine ⟨_, rfl, _, _, rfl, rfl, _, rfl, ite2 (fun _ => ?_) (fun _ => ?_)⟩
  · refine ⟨_, rfl, _, rfl, _, rfl, _, _, _, rfl, d, c, m, sz, rfl, rfl, rfl, by omega, hsz, dr1, rm1, mc, fun p2 H2 t us k he lk m2 dr2 rm2 k2 => ?_⟩
    exact q p2 H2 t us k 8 he lk m2 dr2 rm2 (k1'.trans k2)
  refine ⟨_, rfl, _, rfl, _, _, rfl, d, c, m, rfl, rfl, dr1, rm1, mc, fun r2 H2 a2 b2 dr2 rm2 k2 => ?_⟩
  refine ⟨_, rfl, _, rfl, _, _, rfl, rfl, _, _, rfl, d, c, sz - 1, rfl, rfl, dr2, by omega, by omega, fun r3 H3 a3 b3 dr3 k3 => ?_⟩
  have rm3 := rm2.keep dr2 k3
  have k13 := (k1'.trans k2).trans (K2.of k3)
  refine ⟨_, _, rfl, rfl, ?_⟩
  refine ⟨_, rfl, _, rfl, _, rfl, _, _, _, rfl, d, c, m, 1 + r3, rfl, rfl, rfl, by omega, dr3, rm3, mc, fun p4 H4 t4 us4 n4 l4 he4 lk4 m4 dr4 rm4 k4 => ?_⟩
  refine ⟨_, rfl, _, rfl, _, _, rfl, rfl, _, rfl, _, _, rfl, rfl, _, rfl, _, _, _, rfl, d, c, m, sz - 1 - (1 + r3), rfl, rfl, rfl, by omega, dr4, rm4, mc, fun p5 H5 t5 us5 n5 l5 he5 lk5 m5 dr5 rm5 k5 => ?_⟩
  have m4 := m4.k2 dr4 rm4 k5
  have b4 := bn (1 + r3) (by omega)
  have b5 := bn (sz - 1 - (1 + r3)) (by omega)
  refine ⟨_, rfl, _, rfl, _, rfl, _, rfl, _, _, _, _, rfl, d, c, p4, p5, t4, t5, us4, us5, n4, n5, l4, l5, r2, rfl, rfl, rfl, rfl, a2, b2, dr5, m4, m5, he4, he5, by omega, by omega, fun p6 H6 t6 us6 l6 he6 m6 dr6 k6 => ?_⟩
  refine q p6 H6 t6 us6 _ l6 he6 ?_ m6 dr6 (rm5.keep dr5 k6) (((k13.trans k4).trans k5).trans (K2.of k6))
  rw [bz]
  by_cases g : 1 + r3 < 2
  · rw [B_small g] at lk4
    by_cases g2 : sz - 1 - (1 + r3) < 2
    · rw [B_small g2] at lk5; omega
    · rw [B_big g2] at lk5; omega
  · rw [B_big g] at lk4
    by_cases g2 : sz - 1 - (1 + r3) < 2
    · rw [B_small g2] at lk5; omega
    · rw [B_big g2] at lk5; omega
end

/-- the sorts of a word's parts, a sign each -/
def SortOk (w : Str) (zs : List Str) : Prop :=
  (w ∈ nary ∧ zs = List.replicate zs.length ("e" : Str) ∧ 1 ≤ zs.length ∧ zs.length ≤ 7) ∨ (w = "as" ∧ zs = (["e", "k"] : List Str)) ∨ (w = "when" ∧ zs = (["e", "l"] : List Str)) ∨ (w = "held" ∧ zs = (["e", "e", "l"] : List Str)) ∨ (w = "else" ∧ zs = (["n", "e"] : List Str)) ∨ (w = "fresh" ∧ zs = (["n", "i", "e"] : List Str)) ∨
  (w = "merge" ∧ ∃ j : Nat, 1 ≤ j ∧ j ≤ 3 ∧ zs = ("n" : Str) :: List.replicate j ("a" : Str))
def ov (s : Str) : Nat := if s = "k" then 100 else 16
def sgn1 (z : Str) : List Str := z.cps.toList.map fun c => (⟨#[c]⟩ : Str)
theorem ov_sum_rep (n : Nat) (s : Str) (h : ov s = 16) : ((List.replicate n s).map ov).sum = 16 * n := by
  induction n with
  | zero => rfl
  | succ n ih =>
    rw [List.replicate_succ, List.map_cons, List.sum_cons, ih, h]
    omega
theorem SortOk.cost {w : Str} {zs : List Str} (h : SortOk w zs) : (zs.map ov).sum ≤ 120 ∧ 1 ≤ zs.length ∧ zs.length ≤ 7 := by
  rcases h with ⟨_, e, h1, h2⟩ | ⟨_, rfl⟩ | ⟨_, rfl⟩ | ⟨_, rfl⟩ | ⟨_, rfl⟩ | ⟨_, rfl⟩ | ⟨_, j, j1, j3, rfl⟩
  · refine ⟨?_, h1, h2⟩
    rw [e, ov_sum_rep _ _ (by decide +kernel)]
    omega
  · exact ⟨by decide +kernel, by simp, by simp⟩
  · exact ⟨by decide +kernel, by simp, by simp⟩
  · exact ⟨by decide +kernel, by simp, by simp⟩
  · exact ⟨by decide +kernel, by simp, by simp⟩
  · exact ⟨by decide +kernel, by simp, by simp⟩
  · rw [List.map_cons, List.sum_cons, ov_sum_rep _ _ (by decide +kernel), List.length_cons, List.length_replicate, show ov "n" = 16 by decide +kernel]
    omega
theorem SortOk.mem {w : Str} {zs : List Str} (h : SortOk w zs) : ∀ z ∈ zs, z ∈ (["k", "l", "n", "i", "e", "a"] : List Str) := by
  rcases h with ⟨_, e, _⟩ | ⟨_, rfl⟩ | ⟨_, rfl⟩ | ⟨_, rfl⟩ | ⟨_, rfl⟩ | ⟨_, rfl⟩ | ⟨_, j, _, _, rfl⟩
  · intro z hz
    rw [e] at hz
    rw [List.eq_of_mem_replicate hz]
    simp
  · decide +kernel
  · decide +kernel
  · decide +kernel
  · decide +kernel
  · decide +kernel
  · intro z hz
    rcases List.mem_cons.mp hz with rfl | hz
    · simp
    · rw [List.eq_of_mem_replicate hz]
      simp
/-- a made part with its sort -/
def Arg (n : Nat) (s : Str) (q : PyData × List Str × Nat) : Prop := ∃ sz : Int, ArgR n s sz q.1 q.2.1 q.2.2
theorem Arg.e {n : Nat} {q : PyData × List Str × Nat} (h : Arg n "e" q) : ∃ l, ET (n + 1) q.1 q.2.1 l := by
  obtain ⟨sz, h | h | h | h | h | h⟩ := h
  · exact absurd h.1 (by decide +kernel)
  · exact absurd h.1 (by decide +kernel)
  · exact absurd h.1 (by decide +kernel)
  · exact absurd h.1 (by decide +kernel)
  · exact h.2.2
  · exact absurd h.1 (by decide +kernel)
theorem Arg.k {n : Nat} {q : PyData × List Str × Nat} (h : Arg n "k" q) : KT 2 q.1 q.2.1 := by
  obtain ⟨sz, h | h | h | h | h | h⟩ := h
  · exact h.2.2
  · exact absurd h.1 (by decide +kernel)
  · exact absurd h.1 (by decide +kernel)
  · exact absurd h.1 (by decide +kernel)
  · exact absurd h.1 (by decide +kernel)
  · exact absurd h.1 (by decide +kernel)
theorem Arg.l {n : Nat} {q : PyData × List Str × Nat} (h : Arg n "l" q) : LT q.1 q.2.1 := by
  obtain ⟨sz, h | h | h | h | h | h⟩ := h
  · exact absurd h.1 (by decide +kernel)
  · exact h.2.2
  · exact absurd h.1 (by decide +kernel)
  · exact absurd h.1 (by decide +kernel)
  · exact absurd h.1 (by decide +kernel)
  · exact absurd h.1 (by decide +kernel)
theorem Arg.n {n : Nat} {q : PyData × List Str × Nat} (h : Arg n "n" q) : ∃ z : Str, okN z ∧ q.1 = .str z ∧ q.2.1 = [z] := by
  obtain ⟨sz, h | h | h | h | h | h⟩ := h
  · exact absurd h.1 (by decide +kernel)
  · exact absurd h.1 (by decide +kernel)
  · exact h.2.2
  · exact absurd h.1 (by decide +kernel)
  · exact absurd h.1 (by decide +kernel)
  · exact absurd h.1 (by decide +kernel)
theorem Arg.i {n : Nat} {q : PyData × List Str × Nat} (h : Arg n "i" q) : ∃ i : Int, okI i ∧ 0 ≤ i ∧ q.1 = .int i ∧ q.2.1 = [sI i] := by
  obtain ⟨sz, h | h | h | h | h | h⟩ := h
  · exact absurd h.1 (by decide +kernel)
  · exact absurd h.1 (by decide +kernel)
  · exact absurd h.1 (by decide +kernel)
  · exact h.2.2
  · exact absurd h.1 (by decide +kernel)
  · exact absurd h.1 (by decide +kernel)
theorem Arg.a {n : Nat} {q : PyData × List Str × Nat} (h : Arg n "a" q) : ∃ (v e : PyData) (u x : List Str) (l : Nat), VT v u ∧ ET (n + 1) e x l ∧ q.1 = .tuple [v, e] ∧ q.2.1 = u ++ ([":"] : List Str) ++ x := by
  obtain ⟨sz, h | h | h | h | h | h⟩ := h
  · exact absurd h.1 (by decide +kernel)
  · exact absurd h.1 (by decide +kernel)
  · exact absurd h.1 (by decide +kernel)
  · exact absurd h.1 (by decide +kernel)
  · exact absurd h.1 (by decide +kernel)
  · exact h.2.2
def treeD (w : Str) (ds : List PyData) : PyData := if w = "merge" then (match ds with | d :: r => .tuple [.str w, d, .tuple r] | [] => .tuple [.str w]) else .tuple (.str w :: ds)
theorem treeD_no {w : Str} {ds : List PyData} (h : ¬ w = "merge") : treeD w ds = .tuple (.str w :: ds) := if_neg h
theorem treeD_merge {d : PyData} {r : List PyData} : treeD "merge" (d :: r) = .tuple [.str "merge", d, .tuple r] := if_pos rfl
theorem All2.rep {α β : Type} {R : α → β → Prop} {a : α} : ∀ {n : Nat} {bs : List β}, All2 R (List.replicate n a) bs → bs.length = n ∧ ∀ b ∈ bs, R a b
  | 0, [], _ => ⟨rfl, fun _ h => by cases h⟩
  | 0, _ :: _, z => z.elim
  | _ + 1, [], z => z.elim
  | n + 1, b :: bs, z => by
    obtain ⟨h1, h2⟩ := All2.rep (n := n) z.2
    refine ⟨by rw [List.length_cons, h1], fun c hc => ?_⟩
    rcases List.mem_cons.mp hc with rfl | hc
    · exact z.1
    · exact h2 c hc
theorem All2.maps {α β γ : Type} {R : β → γ → Prop} {f : α → β} {g : α → γ} : ∀ {as : List α}, (∀ a ∈ as, R (f a) (g a)) → All2 R (as.map f) (as.map g)
  | [], _ => trivial
  | a :: as, h => ⟨h a List.mem_cons_self, All2.maps fun b hb => h b (List.mem_cons_of_mem _ hb)⟩
theorem All2.head {α β : Type} {R : α → β → Prop} {a : α} {as : List α} {bs : List β} (h : All2 R (a :: as) bs) : ∃ b r, bs = b :: r ∧ R a b ∧ All2 R as r := by
  cases bs with
  | nil => exact h.elim
  | cons b r => exact ⟨b, r, rfl, h.1, h.2⟩
theorem All2.none {α β : Type} {R : α → β → Prop} {bs : List β} (h : All2 R ([] : List α) bs) : bs = [] := by
  cases bs with
  | nil => rfl
  | cons b r => exact h.elim
theorem All2.two {α β : Type} {R : α → β → Prop} {a b : α} {bs : List β} (h : All2 R [a, b] bs) : ∃ x y, bs = [x, y] ∧ R a x ∧ R b y := by
  obtain ⟨x, r, rfl, h1, h2⟩ := All2.head h
  obtain ⟨y, r, rfl, h3, h4⟩ := All2.head h2
  obtain rfl := All2.none h4
  exact ⟨x, y, rfl, h1, h3⟩
theorem All2.three {α β : Type} {R : α → β → Prop} {a b c : α} {bs : List β} (h : All2 R [a, b, c] bs) : ∃ x y z, bs = [x, y, z] ∧ R a x ∧ R b y ∧ R c z := by
  obtain ⟨x, r, rfl, h1, h2⟩ := All2.head h
  obtain ⟨y, z, rfl, h3, h4⟩ := All2.two h2
  exact ⟨x, y, z, rfl, h1, h3, h4⟩
/-- the call of a word by its parts -/
theorem call_tree {n : Nat} {w : Str} {zs : List Str} {qs : List (PyData × List Str × Nat)} (h : SortOk w zs) (a : All2 (Arg n) zs qs) :
    ET (n + 2) (treeD w (qs.map (·.1))) ([w] ++ ((["("] : List Str) ++ comL (qs.map (·.2.1)) ++ ([")"] : List Str))) 8 := by
  refine .inr (.inr (.inr (.inr (.inr ?_))))
  rcases h with ⟨hw, e, h1, h2⟩ | ⟨rfl, rfl⟩ | ⟨rfl, rfl⟩ | ⟨rfl, rfl⟩ | ⟨rfl, rfl⟩ | ⟨rfl, rfl⟩ | ⟨rfl, j, j1, j3, rfl⟩
  · have nm := (show ∀ w ∈ nary, ¬ w = "merge" by decide +kernel) w hw
    have lz := All2.len a
    rw [e] at a
    obtain ⟨l1, l2⟩ := All2.rep a
    refine ⟨w, qs.map (fun q => q.1), qs.map (fun q => q.2.1), .inl ⟨hw, ?_, by rw [List.length_map]; omega, All2.maps fun q hq => (l2 q hq).e⟩, treeD_no nm, rfl, rfl⟩
    intro e2
    rw [List.map_eq_nil_iff.mp e2] at l1
    rw [List.length_nil] at l1
    omega
  · obtain ⟨q1, q2, rfl, a1, a2⟩ := All2.two a
    exact ⟨"as", [q1.1, q2.1], [q1.2.1, q2.2.1], .inr (.inl ⟨rfl, _, _, _, _, a1.e, a2.k, rfl, rfl⟩), treeD_no (by decide +kernel), rfl, rfl⟩
  · obtain ⟨q1, q2, rfl, a1, a2⟩ := All2.two a
    exact ⟨"when", [q1.1, q2.1], [q1.2.1, q2.2.1], .inr (.inr (.inl ⟨rfl, _, _, _, _, a1.e, a2.l, rfl, rfl⟩)), treeD_no (by decide +kernel), rfl, rfl⟩
  · obtain ⟨q1, q2, q3, rfl, a1, a2, a3⟩ := All2.three a
    exact ⟨"held", [q1.1, q2.1, q3.1], [q1.2.1, q2.2.1, q3.2.1], .inr (.inr (.inr (.inl ⟨rfl, _, _, _, _, _, _, a1.e, a2.e, a3.l, rfl, rfl⟩))), treeD_no (by decide +kernel), rfl, rfl⟩
  · obtain ⟨q1, q2, rfl, a1, a2⟩ := All2.two a
    obtain ⟨z, oz, e1, e2⟩ := a1.n
    refine ⟨"else", [q1.1, q2.1], [q1.2.1, q2.2.1], .inr (.inr (.inr (.inr (.inr (.inr (.inl ⟨rfl, z, q2.1, q2.2.1, oz, a2.e, ?_, ?_⟩)))))), treeD_no (by decide +kernel), rfl, rfl⟩
    · rw [e1]
    · rw [e2]
  · obtain ⟨q1, q2, q3, rfl, a1, a2, a3⟩ := All2.three a
    obtain ⟨z, oz, e1, e2⟩ := a1.n
    obtain ⟨i, oi, i0, e3, e4⟩ := a2.i
    refine ⟨"fresh", [q1.1, q2.1, q3.1], [q1.2.1, q2.2.1, q3.2.1], .inr (.inr (.inr (.inr (.inr (.inr (.inr ⟨rfl, z, i, q3.1, q3.2.1, oz, oi, i0, a3.e, ?_, ?_⟩)))))), treeD_no (by decide +kernel), rfl, rfl⟩
    · rw [e1, e3]
    · rw [e2, e4]
  · obtain ⟨q1, qr, rfl, a1, ar⟩ := All2.head a
    obtain ⟨z, oz, e1, e2⟩ := a1.n
    obtain ⟨l1, l2⟩ := All2.rep ar
    refine ⟨"merge", [q1.1, .tuple (qr.map fun (q : PyData × List Str × Nat) => q.1)], q1.2.1 :: qr.map (fun (q : PyData × List Str × Nat) => q.2.1), .inr (.inr (.inr (.inr (.inl ⟨rfl, z, qr.map (fun q => q.1), qr.map (fun q => q.2.1), oz, by rw [List.length_map]; omega, All2.maps fun q hq => ?_, ?_, ?_⟩)))), treeD_merge, rfl, rfl⟩
    · obtain ⟨v, e, u, x, l, h1, h2, h3, h4⟩ := (l2 q hq).a
      exact ⟨v, e, u, x, h1, ⟨l, h2⟩, h3, h4⟩
    · rw [e1]
    · rw [e2]

def wordsL : List Str := ["pick", "mid", "vote", "put", "min", "max", "at", "sum", "any", "all", "as", "when", "held", "else", "fresh", "merge", "row", "weave"]
def sortsL : List Str := ["eee", "eee", "eee", "eee", "ee", "ee", "ee", "e", "e", "e", "ek", "el", "eel", "ne", "nie", "n", "e", "e"]
theorem split_words2 : Txt.split "pick mid vote put min max at sum any all as when held else fresh merge row weave" " " = wordsL := by decide +kernel
theorem split_sorts : Txt.split "eee eee eee eee ee ee ee e e e ek el eel ne nie n e e" " " = sortsL := by decide +kernel
def sortB (w : Str) (zs : List Str) : Bool :=
  (decide (w ∈ nary) && (decide (zs = List.replicate zs.length ("e" : Str)) && (decide (1 ≤ zs.length) && decide (zs.length ≤ 7)))) || (decide (w = "as") && decide (zs = (["e", "k"] : List Str))) || (decide (w = "when") && decide (zs = (["e", "l"] : List Str))) || (decide (w = "held") && decide (zs = (["e", "e", "l"] : List Str))) || (decide (w = "else") && decide (zs = (["n", "e"] : List Str))) || (decide (w = "fresh") && decide (zs = (["n", "i", "e"] : List Str)))
theorem sortB_ok {w : Str} {zs : List Str} (h : sortB w zs = true) : SortOk w zs := by
  unfold sortB at h
  simp only [Bool.or_eq_true, Bool.and_eq_true, decide_eq_true_eq] at h
  rcases h with ((((h | h) | h) | h) | h) | h
  · exact .inl ⟨h.1, h.2.1, h.2.2.1, h.2.2.2⟩
  · exact .inr (.inl h)
  · exact .inr (.inr (.inl h))
  · exact .inr (.inr (.inr (.inl h)))
  · exact .inr (.inr (.inr (.inr (.inl h))))
  · exact .inr (.inr (.inr (.inr (.inr (.inl h)))))
theorem ways_ok : ((wordsL.take 15).zip (sortsL.take 15)).all (fun p => sortB p.1 (sgn1 p.2)) = true := by decide +kernel
theorem call_way {r : Int} (h0 : 0 ≤ r) (h1 : r < 18) : ∃ w z : Str, atI (wordsL.map V.str) r = some (.str w) ∧ atI (sortsL.map V.str) r = some (.str z) ∧ (r < 15 → SortOk w (sgn1 z)) ∧ (r = 15 → w = "merge") ∧ (15 < r → w ∈ nary) := by
  obtain ⟨j, rfl⟩ := Int.eq_ofNat_of_zero_le h0
  have lw : wordsL.length = 18 := rfl
  have ls : sortsL.length = 18 := rfl
  have jw : j < wordsL.length := by omega
  have js : j < sortsL.length := by omega
  refine ⟨wordsL[j], sortsL[j], at_n j ?_, at_n j ?_, fun h => ?_, fun h => ?_, fun h => ?_⟩
  · rw [List.getElem?_map, List.getElem?_eq_getElem jw]
    rfl
  · rw [List.getElem?_map, List.getElem?_eq_getElem js]
    rfl
  · refine sortB_ok (List.all_eq_true.mp ways_ok (wordsL[j], sortsL[j]) ?_)
    have hj : j < 15 := by omega
    refine List.mem_iff_getElem?.mpr ⟨j, ?_⟩
    rw [List.getElem?_zip_eq_some, List.getElem?_take_of_lt hj, List.getElem?_take_of_lt hj]
    exact ⟨List.getElem?_eq_getElem jw, List.getElem?_eq_getElem js⟩
  · obtain rfl : j = 15 := by omega
    rfl
  · rcases (show j = 16 ∨ j = 17 by omega) with rfl | rfl
    · exact (by decide +kernel : ("row" : Str) ∈ nary)
    · exact (by decide +kernel : ("weave" : Str) ∈ nary)
theorem mul_a : ∀ n : Fin 4, sgn1 (("n" : Str) ++ Txt.mul "a" (n.1 : Int)) = ("n" : Str) :: List.replicate n.1 ("a" : Str) := by decide +kernel
theorem mul_e : ∀ n : Fin 8, sgn1 (Txt.mul "e" (n.1 : Int)) = List.replicate n.1 ("e" : Str) := by decide +kernel
theorem sort_merge {n : Int} (h1 : 1 ≤ n) (h2 : n ≤ 3) : SortOk "merge" (sgn1 (("n" : Str) ++ Txt.mul "a" n)) := by
  obtain ⟨j, rfl⟩ := Int.eq_ofNat_of_zero_le (show 0 ≤ n by omega)
  exact .inr (.inr (.inr (.inr (.inr (.inr ⟨rfl, j, by omega, by omega, mul_a ⟨j, by omega⟩⟩)))))
theorem sort_nary {w : Str} {n : Int} (hw : w ∈ nary) (h1 : 1 ≤ n) (h2 : n ≤ 7) : SortOk w (sgn1 (Txt.mul "e" n)) := by
  obtain ⟨j, rfl⟩ := Int.eq_ofNat_of_zero_le (show 0 ≤ n by omega)
  have e := mul_e ⟨j, by omega⟩
  refine .inl ⟨hw, ?_, ?_, ?_⟩
  · rw [e, List.length_replicate]
  · rw [e, List.length_replicate]
    show 1 ≤ j
    omega
  · rw [e, List.length_replicate]
    show j ≤ 7
    omega

theorem ArgR.ne {n : Nat} {s : Str} {sz : Int} {t : PyData} {us : List Str} {k : Nat} (h : ArgR n s sz t us k) : us ≠ [] := by
  rcases h with ⟨_, _, h⟩ | ⟨_, _, h⟩ | ⟨_, _, z, _, _, rfl⟩ | ⟨_, _, i, _, _, _, rfl⟩ | ⟨_, _, l, h⟩ | ⟨_, _, v, e, u, x, l, _, _, _, rfl⟩
  · exact KT.ne h
  · exact LT.ne h
  · exact List.cons_ne_nil _ _
  · exact List.cons_ne_nil _ _
  · exact ET.ne h
  · simp
/-- a made thing stays when a list of made things is written -/
theorem Mk.wr {D p L : Addr} {H : Hp} {t : PyData} {us : List Str} {n : Nat} {vs vs' : List V} (h : Mk D H p t us n []) (une : us ≠ []) (hL : H L = some (.lst vs)) (hv : ∀ v ∈ vs, ∃ p' t' us' n', v = .ref p' ∧ Mk D H p' t' us' n' []) : Mk D (upd H L (.lst vs')) p t us n [] := by
  obtain ⟨v, a, b, ls, h1, h2, h3, h4, h5, h6, h7, h8, h9, hne⟩ := h
  have txt : ∀ {x : Addr} {zs : List Str}, SL H x zs → zs ≠ [] → x ≠ L := fun {x zs} hx zn e => by
    subst e
    unfold SL at hx
    rw [hL] at hx
    injection hx with hx
    injection hx with hx
    cases zs with
    | nil => exact zn rfl
    | cons z r =>
      obtain ⟨p', _, _, _, e, _⟩ := hv (.str z) (by rw [hx]; simp)
      cases e
  have pL : p ≠ L := by
    rintro rfl
    rw [hL] at h1
    injection h1 with h1
    injection h1 with h1
    obtain ⟨p', t', us', n', e, v', a', b', _, g1, _⟩ := hv (.ref a) (by rw [h1]; simp)
    cases e
    unfold SL at h3
    rw [g1] at h3
    injection h3 with h3
    injection h3 with h3
    cases us with
    | nil => cases h3
    | cons z r =>
      rw [List.map_cons] at h3
      injection h3 with _ h3
      cases r with
      | nil => cases h3
      | cons y r =>
        rw [List.map_cons] at h3
        injection h3 with h3 _
        cases h3
  exact ⟨v, a, b, ls, upd_else h1 pL, Td.mono (TS.wr hL) _ _ h2, upd_else h3 (txt h3 une), upd_else h4 (txt h4 (hne une)), h5, h6, h7, h8, h9, hne⟩
theorem mulok_a {n : Int} (h1 : 1 ≤ n) (h2 : n ≤ 3) : MulOk "a" n := by
  rcases (show n = 1 ∨ n = 2 ∨ n = 3 by omega) with rfl | rfl | rfl <;> unfold MulOk <;> decide +kernel
theorem mul_a_len {n : Int} (h1 : 1 ≤ n) (h2 : n ≤ 3) : ("n" : Str).length + (Txt.mul "a" n).length ≤ sizeLine := by
  have : ("n" : Str).length + (Txt.mul "a" n).length ≤ 10 := by
    rcases (show n = 1 ∨ n = 2 ∨ n = 3 by omega) with rfl | rfl | rfl <;> decide +kernel
  exact Nat.le_trans this (sl 10)
theorem mulok_e {n : Int} (h1 : 1 ≤ n) (h2 : n ≤ 7) : MulOk "e" n := by
  rcases (show n = 1 ∨ n = 2 ∨ n = 3 ∨ n = 4 ∨ n = 5 ∨ n = 6 ∨ n = 7 by omega) with rfl | rfl | rfl | rfl | rfl | rfl | rfl <;> unfold MulOk <;> decide +kernel
def PcA (D : Addr) (H : Hp) (v : V) (q : PyData × List Str × Nat) : Prop := ∃ p, v = .ref p ∧ q.2.1 ≠ [] ∧ Mk D H p q.1 q.2.1 q.2.2 []
def costQ (qs : List (PyData × List Str × Nat)) : Nat := (qs.map (·.2.2)).sum
theorem costQ_snoc (qs : List (PyData × List Str × Nat)) (q : PyData × List Str × Nat) : costQ (qs ++ [q]) = costQ qs + q.2.2 := by
  unfold costQ
  rw [List.map_append, List.sum_append]
  simp
theorem sgn1_len (z : Str) : (sgn1 z).length = z.cps.size := by
  unfold sgn1
  rw [List.length_map, Array.length_toList]
theorem sgn1_at {z : Str} {i : Nat} {c : Nat} (h : z.cps[i]? = some c) : (sgn1 z)[i]? = some ⟨#[c]⟩ := by
  unfold sgn1
  rw [List.getElem?_map, Array.getElem?_toList, h]
  rfl
theorem ea_in {s : Str} (h : s ∈ (["k", "l", "n", "i", "e", "a"] : List Str)) : inV (V.str s) [.str "e", .str "a"] = decide (s = "e" ∨ s = "a") := by
  simp only [List.mem_cons, List.not_mem_nil, or_false] at h
  rcases h with rfl | rfl | rfl | rfl | rfl | rfl <;> decide +kernel
theorem B_ten (s : Int) : 10 ≤ B s := by
  by_cases g : s < 2
  · rw [B_small g]; omega
  · rw [B_big g]; omega
theorem ArgR.cost {n : Nat} {s : Str} {sz : Int} {t : PyData} {us : List Str} {k : Nat} (h : ArgR n s sz t us k) : k + 10 ≤ B sz + ov s := by
  have b := B_ten sz
  rcases h with ⟨rfl, h, _⟩ | ⟨rfl, h, _⟩ | ⟨rfl, h, _⟩ | ⟨rfl, h, _⟩ | ⟨rfl, h, _⟩ | ⟨rfl, h, _⟩
  · rw [show ov "k" = 100 by decide +kernel]; omega
  · rw [show ov "l" = 16 by decide +kernel]; omega
  · rw [show ov "n" = 16 by decide +kernel]; omega
  · rw [show ov "i" = 16 by decide +kernel]; omega
  · rw [show ov "e" = 16 by decide +kernel]; omega
  · rw [show ov "a" = 16 by decide +kernel]; omega
theorem All2.mapR {α β γ : Type} {R : α → γ → Prop} {f : β → γ} : ∀ {as : List α} {bs : List β}, All2 (fun a b => R a (f b)) as bs → All2 R as (bs.map f)
  | [], [], _ => trivial
  | [], _ :: _, z => z.elim
  | _ :: _, [], z => z.elim
  | _ :: _, _ :: _, z => ⟨z.1, All2.mapR z.2⟩
theorem All2.app {α β : Type} {R : α → β → Prop} : ∀ {as : List α} {bs : List β} {cs : List α} {ds : List β}, All2 R as bs → All2 R cs ds → All2 R (as ++ cs) (bs ++ ds)
  | [], [], _, _, _, h => h
  | [], _ :: _, _, _, z, _ => z.elim
  | _ :: _, [], _, _, z, _ => z.elim
  | _ :: _, _ :: _, _, _, z, h => ⟨z.1, All2.app z.2 h⟩
theorem All2.imp2 {α β : Type} {R S : α → β → Prop} : ∀ {as : List α} {bs : List β}, (∀ a b, a ∈ as → R a b → S a b) → All2 R as bs → All2 S as bs
  | [], [], _, _ => trivial
  | [], _ :: _, _, z => z.elim
  | _ :: _, [], _, z => z.elim
  | a :: as, b :: bs, h, z => ⟨h a b List.mem_cons_self z.1, All2.imp2 (fun c d hc => h c d (List.mem_cons_of_mem _ hc)) z.2⟩
theorem All2.seps {α β : Type} {R : α → β → Prop} {c : α} {c' : β} (hc : R c c') : ∀ {as : List α} {bs : List β}, All2 R as bs → All2 R (as.map fun x => [c, x]).flatten (bs.map fun x => [c', x]).flatten
  | [], [], _ => trivial
  | [], _ :: _, z => z.elim
  | _ :: _, [], z => z.elim
  | _ :: _, _ :: _, z => ⟨hc, z.1, All2.seps hc z.2⟩
theorem All2.inter {α β : Type} {R : α → β → Prop} {c : α} {c' : β} (hc : R c c') : ∀ {as : List α} {bs : List β}, All2 R as bs → All2 R (inter c as) (inter c' bs)
  | [], [], _ => trivial
  | [], _ :: _, z => z.elim
  | _ :: _, [], z => z.elim
  | _ :: _, _ :: _, z => ⟨z.1, All2.seps hc z.2⟩
theorem toks_cons (a : List Str × Nat) (r : List (List Str × Nat)) : toks (a :: r) = a.1 ++ toks r := rfl
theorem cost_cons (a : List Str × Nat) (r : List (List Str × Nat)) : cost (a :: r) = a.2 + cost r := rfl
theorem toks_inter (qs : List (PyData × List Str × Nat)) : toks (inter (([","] : List Str), 1) (qs.map fun q => q.2)) = comL (qs.map (·.2.1)) := by
  cases qs with
  | nil => rfl
  | cons q r =>
    show toks (q.2 :: ((r.map fun q => q.2).map fun x => [(([","] : List Str), 1), x]).flatten) = q.2.1 ++ ((r.map (·.2.1)).map fun u => ("," : Str) :: u).flatten
    rw [toks_cons]
    refine congrArg (q.2.1 ++ ·) ?_
    induction r with
    | nil => rfl
    | cons b r ih =>
      rw [List.map_cons, List.map_cons, List.flatten_cons, toks_app, ih]
      show toks [(([","] : List Str), 1), b.2] ++ _ = (("," : Str) :: b.2.1) ++ _
      rw [toks_cons, toks_cons]
      show (([","] : List Str) ++ (b.2.1 ++ [])) ++ _ = _
      rw [List.append_nil]
      rfl
theorem cost_inter (qs : List (PyData × List Str × Nat)) : cost (inter (([","] : List Str), 1) (qs.map fun q => q.2)) ≤ costQ qs + qs.length := by
  cases qs with
  | nil => exact Nat.zero_le _
  | cons q r =>
    show cost (q.2 :: ((r.map fun q => q.2).map fun x => [(([","] : List Str), 1), x]).flatten) ≤ _
    have : ∀ r : List (PyData × List Str × Nat), cost ((r.map fun q => q.2).map fun x => [(([","] : List Str), 1), x]).flatten = costQ r + r.length := by
      intro r
      induction r with
      | nil => rfl
      | cons b r ih =>
        rw [List.map_cons, List.map_cons, List.flatten_cons, cost_app, ih]
        show (1 + (b.2.2 + 0)) + _ = (b.2.2 + costQ r) + (r.length + 1)
        omega
    rw [cost_cons, this]
    show q.2.2 + (costQ r + r.length) ≤ (q.2.2 + costQ r) + (r.length + 1)
    omega
theorem inter_len {α : Type} (c : α) (l : List α) : (inter c l).length ≤ 2 * l.length := by
  cases l with
  | nil => exact Nat.zero_le _
  | cons a r =>
    show (a :: (r.map fun x => [c, x]).flatten).length ≤ _
    have : ∀ r : List α, (r.map fun x => [c, x]).flatten.length = 2 * r.length := by
      intro r
      induction r with
      | nil => rfl
      | cons b r ih =>
        rw [List.map_cons, List.flatten_cons, List.length_append, ih]
        simp
        omega
    rw [List.length_cons, this, List.length_cons]
    omega
theorem merge_15 : ∀ j : Fin 18, j.1 ≠ 15 → (wordsL[j.1]? == some "merge") = false := by decide +kernel
theorem way_nm {r : Int} {w : Str} (h0 : 0 ≤ r) (h1 : r < 18) (e : atI (wordsL.map V.str) r = some (.str w)) (n : ¬ r = 15) : ¬ w = "merge" := by
  obtain ⟨j, rfl⟩ := Int.eq_ofNat_of_zero_le h0
  rintro rfl
  have hj : j < wordsL.length := by
    have : wordsL.length = 18 := rfl
    omega
  have e2 : atI (wordsL.map V.str) (j : Int) = some (.str wordsL[j]) := at_n j (by rw [List.getElem?_map, List.getElem?_eq_getElem hj]; rfl)
  rw [e2] at e
  have e3 : wordsL[j] = "merge" := V.str.inj (Option.some.inj e)
  have := merge_15 ⟨j, by omega⟩ (fun z => n (by rw [show j = 15 from z]; rfl))
  rw [show wordsL[(⟨j, by omega⟩ : Fin 18).1]? = wordsL[j]? from rfl, List.getElem?_eq_getElem hj, e3] at this
  exact absurd this (by decide +kernel)
section
variable {P : Program} {w : World} {K : PySem.W.Frag} {mg : Str → Option Value} {base : Heap}
theorem rec_call (T : Tx K mg w) (n : Nat) (hn : n ≤ 20) (ihA : FnOk P w K mg base CX0 (11 + 3 * n) T.f_drawn_argument T.fd_drawn_argument ["_law_d", "_law_sort", "_law_size", "_law_room"] (sp4 (rArgD n))) : FnOk P w K mg base CX0 (12 + 3 * n) T.f_drawn_call T.fd_drawn_call ["_law_d", "_law_size", "_law_room"] (sp3 (rCallD n)) := by
  rw [show 12 + 3 * n = (11 + 3 * n) + 1 by omega]
  refine okR3 T.F_drawn_call sc_drawn_call rfl fun cdv A outer s H Q EE x y z hr h => ?_
  obtain ⟨d, c, m, sz, rfl, rfl, rfl, s2, sn, dr, rm, mc, q⟩ := h
  refine ⟨_, pss_cons (ps_set (i := 3) sc_drawn_call.nd rfl (Or.inl rfl) (pe_split pe_str pe_str))
      (pss_cons (ps_set (i := 4) sc_drawn_call.nd rfl (Or.inl rfl) (pe_split pe_str pe_str))
      (pss_cons (ps_set (i := 5) sc_drawn_call.nd rfl (Or.inl rfl) (pe_call (ok_draw T) (hr.mono (by omega)) rfl T.m_draw T.F_draw.kp T.b_draw .nil pass0 (pa_cons (pv 0) (pa_cons pe_int pa_nil))))
      (pss_cons (ps_set (i := 6) sc_drawn_call.nd rfl (Or.inl rfl) (pe_ix ix_list (pv 3) (pv 5) (fun _ _ => rfl)))
      (pss_cons (ps_set (i := 7) sc_drawn_call.nd rfl (Or.inl rfl) (pe_ix ix_list (pv 4) (pv 5) (fun _ _ => rfl)))
      (C8.pss_cut (ps_if (pt_cmpR op_eq (pv 5) pe_int (nomark _)) (pss_one (ps_set (i := 7) sc_drawn_call.nd rfl (Or.inl rfl) (pe_op op_add_str pe_str (pe_op op_mul_str pe_str (pe_op op_add pe_int (pe_call (ok_draw T) (hr.mono (by omega)) rfl T.m_draw T.F_draw.kp T.b_draw .nil pass0 (pa_cons (pv 0) (pa_cons pe_int pa_nil)))))))) pss_nil)
      (C8.pss_cut (ps_if (pt_cmpR op_gt (pv 5) pe_int (nomark _)) (pss_one (ps_set (i := 7) sc_drawn_call.nd rfl (Or.inl rfl) (pe_op op_mul_str pe_str (pe_op op_add pe_int (pe_call (ok_draw T) (hr.mono (by omega)) rfl T.m_draw T.F_draw.kp T.b_draw .nil pass0 (pa_cons (pv 0) (pa_cons (pe_callB (call_min2 rfl) (by rfl) T.z_min (by decide +kernel) (pa_cons (pv 1) (pa_cons pe_int pa_nil))) pa_nil))))))) pss_nil)
      (pss_cons (ps_set (i := 8) sc_drawn_call.nd rfl (Or.inl rfl) (pe_op op_sub (pv 1) pe_int))
      (pss_cons (ps_set (i := 9) sc_drawn_call.nd rfl (Or.inl rfl) (pe_lst pa_nil))
      (pss_cons (ps_for PassesOwn.never rfl (pi_str (pv 7)) (pg_name (i := 10) sc_drawn_call.nd rfl (Or.inl rfl))
      (pss_cons (ps_set (i := 11) sc_drawn_call.nd rfl (Or.inl rfl) pe_int)
      (C8.pss_cut (ps_if (pt_cmpR op_in_seq (pv 10) (pe_tup (pa_cons pe_str (pa_cons pe_str pa_nil))) (by rfl)) (pss_cons (ps_set (i := 11) sc_drawn_call.nd rfl (Or.inl rfl) (pe_op op_add pe_int (pe_call (ok_draw T) (hr.mono (by omega)) rfl T.m_draw T.F_draw.kp T.b_draw .nil pass0 (pa_cons (pv 0) (pa_cons (pe_callB (call_max2 rfl) (by rfl) T.z_max (by decide +kernel) (pa_cons pe_int (pa_cons (pv 8) pa_nil))) pa_nil)))))
      (pss_one (ps_set (i := 8) sc_drawn_call.nd rfl (Or.inl rfl) (pe_op op_sub (pv 8) (pv 11))))) pss_nil)
      (pss_one (ps_expr (pe_bm PySem.F.plainAttrs_list PySem.F.slot_list_append PySem.F.type_list_append mt_append (pv 9) (pa_cons (pe_call ihA (hr.mono (by omega)) rfl T.m_drawn_argument T.F_drawn_argument.kp T.b_drawn_argument .nil pass0 (pa_cons (pv 0) (pa_cons (pv 10) (pa_cons (pv 11) (pa_cons (pv 2) pa_nil))))) pa_nil)))))))
      (pss_cons (ps_set (i := 12) sc_drawn_call.nd rfl (Or.inl rfl) (pe_call (ok_trees T) (hr.mono (by omega)) rfl T.m_trees T.F_trees.kp T.b_trees .nil pass0 (pa_cons (pv 9) pa_nil)))
      (C8.pss_cut (ps_set (i := 13) sc_drawn_call.nd rfl (Or.inl rfl) (pe_ifExp (pt_cmpR op_eq (pv 5) pe_int (nomark _)) (pe_tup (pa_cons (pv 6) (pa_cons (pe_ix ix_tup (pv 12) pe_int (fun _ _ => rfl)) (pa_cons (pe_slice sl_tupA (pv 12) (po_some pe_int) po_none) pa_nil)))) (pe_op op_catA (pe_tup (pa_cons (pv 6) pa_nil)) (pv 12))))
      (pss_one (ps_ret (pe_op op_cat (pe_call (ok_made T) (hr.mono (by omega)) rfl T.m_made T.F_made.kp T.b_made .nil pass0 (pa_cons (pv 13) (pa_cons (pe_op op_cat (pe_op op_cat (pe_lst (pa_cons (pv 6) (pa_cons pe_str pa_nil))) (pe_call (ok_commas T) (hr.mono (by omega)) rfl T.m_commas T.F_commas.kp T.b_commas .nil pass0 (pa_cons (pv 9) pa_nil))) (pe_lst (pa_cons pe_str pa_nil))) pa_nil))) (pe_lst (pa_cons pe_int pa_nil)))))))))))))))), ?_⟩
  refine ⟨⟨_, rfl⟩, _, _, rfl, rfl, by decide +kernel, sl _ (by decide +kernel), fun la na => ?_⟩
  rw [split_words2]
  have sa := same_new (o := .lst (wordsL.map V.str)) na
  refine ⟨⟨_, rfl⟩, _, _, rfl, rfl, by decide +kernel, sl _ (by decide +kernel), fun lb nb => ?_⟩
  rw [split_sorts]
  have sb := same_new (o := .lst (sortsL.map V.str)) nb
  have sab := sa.trans sb
  have ga := sb _ _ (upd_same (H := H) (a := la) (o := .lst (wordsL.map V.str)))
  have gb := upd_same (H := upd H la (.lst (wordsL.map V.str))) (a := lb) (o := .lst (sortsL.map V.str))
  have dr0 := dr.same sab
  have rm0 := rm.same sab
  have ad := dr.dne na
  have bd := (dr.same sa).dne nb
  generalize upd (upd H la (.lst (wordsL.map V.str))) lb (.lst (sortsL.map V.str)) = H0 at sab ga gb dr0 rm0 ⊢
  refine ⟨_, rfl, _, _, rfl, d, c, 18, rfl, rfl, dr0, by omega, by omega, fun r H1 r0 r1 dr1 k1 => ?_⟩
  have ga := k1 _ _ ga ad
  have gb := k1 _ _ gb bd
  have rm1 := rm0.keep dr0 k1
  obtain ⟨wd, z, e1, e2, w1, w2, w3⟩ := call_way r0 r1
  refine ⟨_, rfl, _, rfl, la, _, _, _, rfl, rfl, SqL.of ga, e1, ?_⟩
  refine ⟨_, rfl, _, rfl, lb, _, _, _, rfl, rfl, SqL.of gb, e2, ?_⟩
  have k01 : K2 d m H H1 := (K2.same sab).trans (K2.of k1)
  refine ⟨fun σ H2 => ∃ z : Str, σ = [some (.ref d), some (.int sz), some (.ref m), some (.ref la), some (.ref lb), some (.int r), some (.str wd), some (.str z), none, none, none, none, none, none] ∧ (r ≤ 15 → SortOk wd (sgn1 z)) ∧ Dr d c H2 ∧ Keep d H1 H2, ?_, ?_⟩
  · refine ⟨_, rfl, rfl, _, rfl, ite2 (fun h => ?_) (fun h => ⟨z, rfl, fun hle => w1 ?_, dr1, Keep.refl _ _⟩)⟩
    · have e15 : r = 15 := V.int.inj (of_decide_eq_true h)
      refine ⟨_, rfl, _, _, rfl, d, c, 3, rfl, rfl, dr1, by omega, by omega, fun r3 H2 a3 b3 dr2 k2 => ?_⟩
      refine ⟨_, _, rfl, rfl, _, _, rfl, rfl, ?_, _, _, rfl, rfl, ?_, ?_⟩
      · exact mulok_a (by omega) (by omega)
      · exact mul_a_len (by omega) (by omega)
      · refine ⟨_, rfl, fun _ => ?_, dr2, k2⟩
        rw [w2 e15]
        exact sort_merge (by omega) (by omega)
    · have n15 : ¬ r = 15 := fun e => h (decide_eq_true (congrArg V.int e))
      omega
  · rintro σ H2 ⟨z, rfl, so, dr2, k2⟩
    have rm2 := rm1.keep dr1 k2
    refine ⟨fun σ H3 => ∃ z : Str, σ = [some (.ref d), some (.int sz), some (.ref m), some (.ref la), some (.ref lb), some (.int r), some (.str wd), some (.str z), none, none, none, none, none, none] ∧ SortOk wd (sgn1 z) ∧ Dr d c H3 ∧ Keep d H2 H3, ?_, ?_⟩
    · refine ⟨_, rfl, _, _, rfl, rfl, _, rfl, ite2 (fun h => ?_) (fun h => ⟨z, rfl, so ?_, dr2, Keep.refl _ _⟩)⟩
      · have h15 : 15 < r := of_decide_eq_true h
        have mm : 1 ≤ (if (7 : Int) < sz then 7 else sz) ∧ (if (7 : Int) < sz then 7 else sz) ≤ 7 := by
          by_cases g : (7 : Int) < sz
          · rw [if_pos g]; omega
          · rw [if_neg g]; omega
        refine ⟨_, rfl, _, rfl, _, _, rfl, _, _, rfl, d, c, (if (7 : Int) < sz then 7 else sz), rfl, rfl, dr2, by omega, by omega, fun r3 H3 a3 b3 dr3 k3 => ?_⟩
        refine ⟨_, _, rfl, rfl, _, _, rfl, rfl, ?_, ?_⟩
        · exact mulok_e (by omega) (by omega)
        · exact ⟨_, rfl, sort_nary (w3 h15) (by omega) (by omega), dr3, k3⟩
      · have n15 : ¬ (15 : Int) < r := fun g => h (decide_eq_true g)
        omega
    · rintro σ H3 ⟨z, rfl, so, dr3, k3⟩
      have rm3 := rm2.keep dr2 k3
      have k03 : K2 d m H H3 := (k01.trans (K2.of k2)).trans (K2.of k3)
      obtain ⟨c120, l1z, l7z⟩ := so.cost
      have zm := so.mem
      refine ⟨_, rfl, _, _, rfl, rfl, sl 0, fun L nL => ?_⟩
      have sL := same_new (o := .lst []) nL
      have Ld := dr3.dne nL
      have Lc := dr3.cne nL
      have Lm : L ≠ m := by
        rintro rfl
        obtain ⟨a, b, h⟩ := rm3
        rw [nL] at h
        cases h
      have HL : ∀ b o, H b = some o → b ≠ d → b ≠ m → b ≠ L := fun b o e n1 n2 => ne_of_none (k03 b o e n1 n2) nL
      refine ⟨_, rfl, z, rfl, for_it walk_str (fun i σ H' => ∃ (rest : Int) (vs : List V) (qs : List (PyData × List Str × Nat)) (v10 v11 : Option V), σ = [some (.ref d), some (.int sz), some (.ref m), some (.ref la), some (.ref lb), some (.int r), some (.str wd), some (.str z), some (.int rest), some (.ref L), v10, v11, none, none] ∧ rest ≤ sz - 1 ∧ H' L = some (.lst vs) ∧ All2 (Arg n) ((sgn1 z).take i) qs ∧ All2 (PcA d H') vs qs ∧ costQ qs + 130 * rest.toNat ≤ 130 * (sz - 1).toNat + (((sgn1 z).take i).map ov).sum ∧ Dr d c H' ∧ Rm m H' ∧ K2 d m H H') ?_ ?_ ?_ ?_⟩
      · refine ⟨sz - 1, [], [], none, none, rfl, Int.le_refl _, upd_same, ?_, trivial, ?_, dr3.same sL, rm3.same sL, k03.trans (K2.same sL)⟩
        · rw [List.take_zero]
          trivial
        · rw [List.take_zero]
          show 0 + _ ≤ _ + 0
          omega
      · intro i σ H' _ _
        trivial
      · rintro i x σ H4x H4 hi ⟨rest, vs, qs, v10, v11, rfl, rl, hL, aq, pq, ck, dr4, rm4, k4⟩ ⟨rfl, cc, hcc, rfl⟩
        have hsi := sgn1_at hcc
        generalize hs : (⟨#[cc]⟩ : Str) = so1 at hsi
        have smem := zm so1 (List.mem_of_getElem? hsi)
        have lqs := All2.len aq
        have lvs := All2.len pq
        rw [List.length_take, sgn1_len] at lqs
        rw [sgn1_len] at l7z
        refine ⟨fun σ H5 => ∃ rest' share : Int, σ = [some (.ref d), some (.int sz), some (.ref m), some (.ref la), some (.ref lb), some (.int r), some (.str wd), some (.str z), some (.int rest'), some (.ref L), some (.str so1), some (.int share), none, none] ∧ share ≤ n ∧ rest' ≤ sz - 1 ∧ B share + 130 * rest'.toNat ≤ 130 * rest.toNat + 10 ∧ Dr d c H5 ∧ Keep d H4 H5, ?_, ?_⟩
        · refine ⟨_, rfl, sl 2, fun p0 hp0 => ⟨p0, _, rfl, .inr (SqT.of upd_same), rfl, rfl, _, rfl, ?_⟩⟩
          have s0 := same_new (o := .tup [V.str "e", V.str "a"]) hp0
          by_cases hm : so1 = "e" ∨ so1 = "a"
          · refine ite2 (fun _ => ?_) (fun h => absurd ((ea_in smem).trans (decide_eq_true hm)) h)
            have mm : 1 ≤ (if rest > (1 : Int) then rest else 1) ∧ (if rest > (1 : Int) then rest else 1) ≤ sz ∧ ((if rest > (1 : Int) then rest else 1) = 1 ∨ (if rest > (1 : Int) then rest else 1) = rest) := by
              by_cases g : rest > (1 : Int)
              · rw [if_pos g]; omega
              · rw [if_neg g]; omega
            refine ⟨_, rfl, _, rfl, _, _, rfl, _, _, rfl, d, c, (if rest > (1 : Int) then rest else 1), rfl, rfl, dr4.same s0, by omega, by omega, fun r3 H5 a3 b3 dr5 k5 => ?_⟩
            refine ⟨_, _, rfl, rfl, _, rfl, _, rfl, _, _, rfl, rfl, ?_⟩
            refine ⟨rest - (1 + r3), 1 + r3, rfl, by omega, by omega, ?_, dr5, (Keep.of s0).trans k5⟩
            by_cases g : 1 + r3 < 2
            · rw [B_small g]; omega
            · rw [B_big g]; omega
          · refine ite2 (fun h => absurd ((ea_in smem).symm.trans h) (by rw [decide_eq_false hm]; decide)) (fun _ => ?_)
            refine ⟨rest, 1, rfl, by omega, by omega, ?_, dr4.same s0, Keep.of s0⟩
            rw [B_small (by omega)]
            omega
        · rintro σ H5 ⟨rest', share, rfl, shn, rl', cb, dr5, k5⟩
          have rm5 := rm4.keep dr4 k5
          have hL5 := k5 _ _ hL Ld
          have pq5 : All2 (PcA d H5) vs qs := All2.imp (fun v q ⟨p, e, ne, mk⟩ => ⟨p, e, ne, mk.keep dr4 k5⟩) pq
          refine ⟨_, rfl, .inl ⟨rfl, _, SqL.of hL5⟩, _, rfl, _, rfl, _, rfl, _, rfl, _, _, _, _, rfl, d, c, m, so1, share, rfl, rfl, rfl, rfl, smem, shn, dr5, rm5, mc, fun p6 H6 t6 us6 k6 ha m6 dr6 rm6 k56 => ?_⟩
          have hL6 := k56 _ _ hL5 Ld Lm
          have pq6 : All2 (PcA d H6) vs qs := All2.imp (fun v q ⟨p, e, ne, mk⟩ => ⟨p, e, ne, mk.k2 dr5 rm5 k56⟩) pq5
          refine ⟨L, _, _, rfl, rfl, hL6, by rw [sizeLine_eq]; omega, ?_⟩
          have hv : ∀ v ∈ vs, ∃ p' t' us' n', v = .ref p' ∧ Mk d H6 p' t' us' n' [] := fun v hv => by
            obtain ⟨j, hj⟩ := List.mem_iff_getElem?.mp hv
            obtain ⟨q, _, p, e, _, mk⟩ := All2.at pq6 hj
            exact ⟨p, _, _, _, e, mk⟩
          have tk1 : (sgn1 z).take (i + 1) = (sgn1 z).take i ++ [so1] := by
            rw [List.take_succ, hsi]
            rfl
          refine ⟨rest', vs ++ [.ref p6], qs ++ [(t6, us6, k6)], _, _, rfl, rl', upd_same, ?_, ?_, ?_, dr6.else Ld Lc, ?_, ?_⟩
          · rw [tk1]
            exact All2.snoc ⟨share, ha⟩ aq
          · refine All2.snoc ⟨p6, rfl, ha.ne, m6.wr ha.ne hL6 hv⟩ (All2.imp (fun v q ⟨p, e, ne, mk⟩ => ⟨p, e, ne, mk.wr ne hL6 hv⟩) pq6)
          · have ac := ha.cost
            rw [tk1, costQ_snoc, List.map_append, List.sum_append]
            show costQ qs + k6 + _ ≤ _ + (_ + (ov so1 + 0))
            omega
          · obtain ⟨a, b, h⟩ := rm6
            exact ⟨a, b, upd_else h Lm.symm⟩
          · intro b o e n1 n2
            exact upd_else (k56 _ _ (k5 _ _ (k4 b o e n1 n2) n1) n1 n2) (HL b o e n1 n2)
      · rintro σ H4 ⟨rest, vs, qs, v10, v11, rfl, rl, hL, aq, pq, ck, dr4, rm4, k4⟩
        rw [← sgn1_len, List.take_length] at aq ck
        have lqs := All2.len aq
        have lvs := All2.len pq
        have trs : All2 (fun v d' => ∃ p us n rest, v = .ref p ∧ Mk d H4 p d' us n rest) vs (qs.map (·.1)) := All2.mapR (All2.imp (fun v q ⟨p, e, _, mk⟩ => ⟨p, _, _, _, e, mk⟩) pq)
        refine ⟨_, rfl, _, rfl, d, L, vs, _, rfl, hL, by omega, trs, fun tr H5 s5 htr => ?_⟩
        refine ⟨fun σ H6 => ∃ v, σ = [some (.ref d), some (.int sz), some (.ref m), some (.ref la), some (.ref lb), some (.int r), some (.str wd), some (.str z), some (.int rest), some (.ref L), v10, v11, some tr, some v] ∧ Td H6 (treeD wd (qs.map (·.1))) v ∧ Same H5 H6, ?_, ?_⟩
        · refine ⟨_, rfl, rfl, _, rfl, ite2 (fun h => ?_) (fun h => ?_)⟩
          · have e15 : r = 15 := V.int.inj (of_decide_eq_true h)
            obtain rfl := w2 e15
            cases qs with
            | nil =>
              rw [List.length_nil] at lqs
              omega
            | cons q0 qr =>
              obtain ⟨a, xs, rfl, ha, hx⟩ := id htr
              obtain ⟨v0, r0, rfl, h0, hr0⟩ := id hx
              refine ⟨_, rfl, _, rfl, a, _, _, _, rfl, rfl, SqT.of ha, at_n 0 rfl, _, rfl, _, rfl, slFD htr fun p H6 s6 h6 => ⟨sl 3, fun t7 n7 => ?_⟩⟩
              rw [List.map_cons, cut_tail] at h6
              refine ⟨_, rfl, ?_, s6.trans (same_new n7)⟩
              rw [List.map_cons, treeD_merge]
              exact td3 n7 rfl (Td.mono (TS.of s6) _ _ h0) h6
          · have n15 : ¬ r = 15 := fun e => h (decide_eq_true (congrArg V.int e))
            refine ⟨_, rfl, sl 1, fun t1 n1 => ⟨_, rfl, catD (ds := [.str wd]) (td1 n1 rfl) (Td.mono (TS.new n1) _ _ htr) (by rw [List.length_map, List.length_singleton]; omega) fun p H6 s6 h6 => ?_⟩⟩
            refine ⟨_, rfl, ?_, (same_new n1).trans s6⟩
            rw [treeD_no (way_nm r0 r1 e1 n15)]
            exact h6
        · rintro σ H6 ⟨tv, rfl, htd, s6⟩
          have s56 := s5.trans s6
          have hL6 := s56 _ _ hL
          refine ⟨_, rfl, _, rfl, sl 2, fun l7 n7 => ?_⟩
          have s7 := same_new (o := .lst [V.str wd, V.str "("]) n7
          cases vs with
          | nil =>
            rw [List.length_nil] at lvs
            omega
          | cons v0 vr =>
            have lvr : vr.length ≤ 6 := by
              rw [List.length_cons] at lvs
              omega
            refine ⟨_, rfl, _, rfl, L, v0, vr, rfl, s7 _ _ hL6, by omega, fun p8 H8 s8 h8 => ?_⟩
            have li := inter_len (V.str ",") (v0 :: vr)
            rw [List.length_cons] at li
            refine ⟨l7, p8, _, _, rfl, rfl, s8 _ _ upd_same, h8, by simp only [List.length_cons, List.length_nil, sizeLine_eq]; omega, fun p9 n9 => ?_⟩
            have s9 := same_new (o := .lst ([V.str wd, V.str "("] ++ inter (V.str ",") (v0 :: vr))) n9
            refine ⟨sl 1, fun l10 n10 => ?_⟩
            have s10 := same_new (o := .lst [V.str ")"]) n10
            refine ⟨p9, l10, _, _, rfl, rfl, s10 _ _ upd_same, upd_same, by simp only [List.length_append, List.length_cons, List.length_nil, sizeLine_eq]; omega, fun p11 n11 => ?_⟩
            have s11 := same_new (o := .lst ([V.str wd, V.str "("] ++ inter (V.str ",") (v0 :: vr) ++ [V.str ")"])) n11
            have g11 := upd_same (H := upd (upd H8 p9 (.lst ([V.str wd, V.str "("] ++ inter (V.str ",") (v0 :: vr)))) l10 (.lst [V.str ")"])) (a := p11) (o := .lst ([V.str wd, V.str "("] ++ inter (V.str ",") (v0 :: vr) ++ [V.str ")"]))
            have s6x := (((s7.trans s8).trans s9).trans s10).trans s11
            have s4x := s56.trans s6x
            generalize upd (upd (upd H8 p9 (.lst ([V.str wd, V.str "("] ++ inter (V.str ",") (v0 :: vr)))) l10 (.lst [V.str ")"])) p11 (.lst ([V.str wd, V.str "("] ++ inter (V.str ",") (v0 :: vr) ++ [V.str ")"])) = H11 at g11 s6x s4x ⊢
            have pc : All2 (Pc d H11) (v0 :: vr) (qs.map fun q => q.2) := All2.mapR (All2.imp (fun v q ⟨p, e, _, mk⟩ => .inr ⟨p, _, [], e, mk.same s4x⟩) pq)
            have pcs : All2 (Pc d H11) ([V.str wd, V.str "("] ++ inter (V.str ",") (v0 :: vr) ++ [V.str ")"]) ([(([wd] : List Str), 1), ((["("] : List Str), 1)] ++ inter (([","] : List Str), 1) (qs.map fun q => q.2) ++ [(([")"] : List Str), 1)]) :=
              All2.app (All2.app ⟨.inl ⟨_, rfl, rfl⟩, .inl ⟨_, rfl, rfl⟩, trivial⟩ (All2.inter (.inl ⟨_, rfl, rfl⟩) pc)) ⟨.inl ⟨_, rfl, rfl⟩, trivial⟩
            have ecost : cost ([(([wd] : List Str), 1), ((["("] : List Str), 1)] ++ inter (([","] : List Str), 1) (qs.map fun q => q.2) ++ [(([")"] : List Str), 1)]) ≤ costQ qs + qs.length + 3 := by
              have := cost_inter qs
              rw [cost_app, cost_app]
              show 1 + (1 + 0) + _ + (1 + 0) ≤ _
              omega
            have etoks : toks ([(([wd] : List Str), 1), ((["("] : List Str), 1)] ++ inter (([","] : List Str), 1) (qs.map fun q => q.2) ++ [(([")"] : List Str), 1)]) = [wd] ++ ((["("] : List Str) ++ comL (qs.map (·.2.1)) ++ ([")"] : List Str)) := by
              rw [toks_app, toks_app, toks_inter]
              rfl
            have b300 : costQ qs + qs.length + 3 ≤ B sz := by
              rw [B_big (by omega)]
              omega
            have bsz := B_le (s := sz) (n := n + 1) sn
            obtain ⟨xs, hD⟩ := (dr4.same s4x).there
            refine ⟨_, _, rfl, d, _, p11, _, _, Td.mono (TS.of s6x) _ _ htd, rfl, g11, pcs, by omega, ⟨_, hD⟩, fun p12 H12 s12 m12 => ?_⟩
            refine ⟨sl 1, fun l13 n13 => ?_⟩
            have s13 := same_new (o := .lst [V.int 8]) n13
            have sz := (s4x.trans s12).trans s13
            refine mk_cat (dr4.same sz) (m12.same s13) upd_same fun p14 H14 s14 m14 => ?_
            have sz := sz.trans s14
            rw [etoks] at m14
            exact q p14 H14 _ _ _ (call_tree so aq) (by omega) m14 (dr4.same sz) (rm4.same sz) (k4.trans (K2.same sz))
end

theorem FnOk.ex {P : Program} {w : World} {K : PySem.W.Frag} {mg : Str → Option Value} {base : Heap} {CX : CXT} {k : Nat} {f : Addr} {fd : FuncData} {ps : List Str} {α : Type} {sp : α → Sp} (F : ∀ a, FnOk P w K mg base CX k f fd ps (sp a)) :
    FnOk P w K mg base CX k f fd ps (fun vs H Q E => ∃ a, sp a vs H Q E) :=
  ⟨fun vs H Q E ⟨a, h⟩ => (F a).len vs H Q E h, fun A outer s H args us vs Q E hr he hb hv ⟨a, hs⟩ => (F a).run A outer s H args us vs Q E hr he hb hv hs⟩
section
variable {P : Program} {w : World} {K : PySem.W.Frag} {mg : Str → Option Value} {base : Heap}
theorem exd_base (T : Tx K mg w) : FnOk P w K mg base CX0 10 T.f_drawn_expr T.fd_drawn_expr ["_law_d", "_law_size", "_law_room"] (sp3 (rExD 0)) := by
  refine okR3 T.F_drawn_expr sc_drawn_expr rfl fun cdv A outer s H Q EE x y z hr h => ?_
  obtain ⟨d, c, m, sz, rfl, rfl, rfl, hsz, dr, rm, mc, q⟩ := h
  refine ⟨_, pss_cons (ps_if (PW.pt (pw_or (pt_cmpR op_lt (pv 1) pe_int (nomark _)) (pw_or1 (pt_cmpR op_lt (pe_ix ix_list (pv 2) pe_int (fun _ _ => rfl)) pe_int (nomark _))))) (pss_one (ps_ret (pe_call (ok_drawn_leaf T) (hr.mono (by omega)) rfl T.m_drawn_leaf T.F_drawn_leaf.kp T.b_drawn_leaf .nil pass0 (pa_cons (pv 0) pa_nil)))) pss_nil)
      (pss_cons ps_never
      (pss_cons ps_never
      (pss_cons ps_never
      (pss_cons ps_never
      (pss_cons ps_never
      (pss_cons ps_never
      (pss_cons ps_never
      (pss_one ps_never)))))))), ?_⟩
  have leaf : ∃ a, ([.ref d] : List V) = [a] ∧ rMkE RLeaf a H Q := ⟨_, rfl, d, c, rfl, dr, fun p H1 t us k l ⟨lk, he⟩ m1 dr1 k1 => by
    refine q p H1 t us k l (ET.up he (by omega)) ?_ m1 dr1 (rm.keep dr k1) (K2.of k1)
    rw [B_small (by omega)]
    exact lk⟩
  refine ⟨_, rfl, _, _, rfl, rfl, _, rfl, ite2 (fun _ => iteT ⟨_, rfl, leaf⟩) (fun hs => absurd (decide_eq_true (by omega)) hs)⟩
theorem exd_all (T : Tx K mg w) : ∀ n, n ≤ 12 → FnOk P w K mg base CX0 (10 + 3 * n) T.f_drawn_expr T.fd_drawn_expr ["_law_d", "_law_size", "_law_room"] (sp3 (rExD n))
  | 0, _ => exd_base T
  | n + 1, h => rec_exd T n (by omega) (exd_all T n (by omega)) (rec_call T n (by omega) (rec_arg T n (by omega) (exd_all T n (by omega))))
theorem ok_drawn_expr (T : Tx K mg w) : FnOk P w K mg base CX0 43 T.f_drawn_expr T.fd_drawn_expr ["_law_d", "_law_size", "_law_room"] (sp3 (rExD 11)) := exd_all T 11 (by decide)
theorem fronted_all (T : Tx K mg w) : FnOk P w K mg base CX0 4 T.f_fronted T.fd_fronted ["_law_d", "_law_way", "_law_part"] (fun vs H Q E => ∃ k, sp3 (rFronted k) vs H Q E) := FnOk.ex fun k => ok_fronted T k
theorem between_all (T : Tx K mg w) : FnOk P w K mg base CX0 4 T.f_between T.fd_between ["_law_d", "_law_way", "_law_left", "_law_right"] (fun vs H Q E => ∃ k, sp4 (rBetween k) vs H Q E) := FnOk.ex fun k => ok_between T k
end

def rChain : V → V → V → Hp → VK → Prop := fun x y z H Q => ∃ (d c m : Addr) (mo : Int), x = .ref d ∧ y = .ref m ∧ z = .int mo ∧ 2 ≤ mo ∧ mo ≤ 27 ∧ Dr d c H ∧ Rm m H ∧ m ≠ c ∧
  ∀ (p : Addr) (H' : Hp) (t : PyData) (us : List Str) (k l : Nat), ET 30 t us l → k ≤ 600 → Mk d H' p t us k [.int (l : Int)] → Dr d c H' → Rm m H' → K2 d m H H' → Q (.ref p) H'
theorem keep_k2 {d e : Addr} {H H1 : Hp} {o : HO} (ne : H e = none) (k : K2 d e (upd H e o) H1) : Keep d H H1 := fun b u h n => k b u (upd_else h (ne_of_none h ne)) n (ne_of_none h ne)
theorem bit1 (i : Int) (h : 0 ≤ i) : 0 ≤ Builtin.bitAnd i 1 ∧ Builtin.bitAnd i 1 < 2 := by
  rw [bitAnd_pp h (by decide), show (1 : Int).toNat = 1 from rfl, Nat.and_one_is_mod]
  omega
section
variable {P : Program} {w : World} {K : PySem.W.Frag} {mg : Str → Option Value} {base : Heap}
theorem ok_drawn_chain (T : Tx K mg w) : FnOk P w K mg base CX0 7 T.f_drawn_chain T.fd_drawn_chain ["_law_d", "_law_room", "_law_most"] (sp3 rChain) := by
  refine okR3 T.F_drawn_chain sc_drawn_chain rfl fun cdv A outer s H Q EE x y z hr h => ?_
  obtain ⟨d, c, m, mo, rfl, rfl, rfl, mo1, mo2, dr, rm, mc, q⟩ := h
  refine ⟨_, pss_cons (ps_set (i := 3) sc_drawn_chain.nd rfl (Or.inl rfl) (pe_call (ok_draw T) (hr.mono (by omega)) rfl T.m_draw T.F_draw.kp T.b_draw .nil pass0 (pa_cons (pv 0) (pa_cons pe_int pa_nil))))
      (pss_cons (ps_set (i := 4) sc_drawn_chain.nd rfl (Or.inl rfl) (pe_lst (pa_cons (pe_call (ok_drawn_sign T) (hr.mono (by omega)) rfl T.m_drawn_sign T.F_drawn_sign.kp T.b_drawn_sign .nil pass0 (pa_cons (pv 0) (pa_cons (pe_lst (pa_cons pe_int (pa_cons pe_int pa_nil))) pa_nil))) (pa_cons (pe_call (ok_drawn_sign T) (hr.mono (by omega)) rfl T.m_drawn_sign T.F_drawn_sign.kp T.b_drawn_sign .nil pass0 (pa_cons (pv 0) (pa_cons (pe_lst (pa_cons pe_int (pa_cons pe_int pa_nil))) pa_nil))) pa_nil))))
      (C8.pss_cut (ps_if (PW.pt (pw_and (pt_cmpR op_gt (pe_ix ix_list (pv 1) pe_int (fun _ _ => rfl)) (pv 2) (nomark _)) (pw_and1 (pt_cmpR op_eq (pe_call (ok_draw T) (hr.mono (by omega)) rfl T.m_draw T.F_draw.kp T.b_draw .nil pass0 (pa_cons (pv 0) (pa_cons pe_int pa_nil))) pe_int (nomark _))))) (pss_cons (ps_asg (pe_op op_sub (pe_ix ix_list (pv 1) pe_int (fun _ _ => rfl)) (pv 2)) (pg_sub (pv 1) pe_int set_list))
      (pss_one (ps_asg pe_int (pg_sub (pv 4) pe_int set_list)))) pss_nil)
      (C8.pss_cut (ps_if (pt_cmpR op_eq (pe_call (ok_draw T) (hr.mono (by omega)) rfl T.m_draw T.F_draw.kp T.b_draw .nil pass0 (pa_cons (pv 0) (pa_cons pe_int pa_nil))) pe_int (nomark _)) (pss_one (ps_asg (pe_ix ix_list (pv 4) pe_int (fun _ _ => rfl)) (pg_sub (pv 4) pe_int set_list))) pss_nil)
      (pss_cons (ps_set (i := 5) sc_drawn_chain.nd rfl (Or.inl rfl) (pe_call (ok_drawn_leaf T) (hr.mono (by omega)) rfl T.m_drawn_leaf T.F_drawn_leaf.kp T.b_drawn_leaf .nil pass0 (pa_cons (pv 0) pa_nil)))
      (pss_cons (ps_for PassesOwn.never rfl (pi_range1 rfl T.z_range (pa_cons (pe_op op_add pe_int (pe_call (ok_draw T) (hr.mono (by omega)) rfl T.m_draw T.F_draw.kp T.b_draw .nil pass0 (pa_cons (pv 0) (pa_cons (pe_op op_sub (pv 2) pe_int) pa_nil)))) pa_nil)) (pg_name (i := 6) sc_drawn_chain.nd rfl (Or.inl rfl))
      (pss_cons (ps_set (i := 7) sc_drawn_chain.nd rfl (Or.inl rfl) (pe_ix ix_list (pv 4) (pe_op op_and (pv 6) pe_int) (fun _ _ => rfl)))
      (pss_one (ps_if (pt_cmpR op_eq (pv 3) pe_int (nomark _)) (pss_one (ps_set (i := 5) sc_drawn_chain.nd rfl (Or.inl rfl) (pe_call (between_all T) (hr.mono (by omega)) rfl T.m_between T.F_between.kp T.b_between .nil pass0 (pa_cons (pv 0) (pa_cons (pv 7) (pa_cons (pv 5) (pa_cons (pe_call (ok_drawn_leaf T) (hr.mono (by omega)) rfl T.m_drawn_leaf T.F_drawn_leaf.kp T.b_drawn_leaf .nil pass0 (pa_cons (pv 0) pa_nil)) pa_nil))))))) (pss_one (ps_if (pt_cmpR op_eq (pv 3) pe_int (nomark _)) (pss_one (ps_set (i := 5) sc_drawn_chain.nd rfl (Or.inl rfl) (pe_call (between_all T) (hr.mono (by omega)) rfl T.m_between T.F_between.kp T.b_between .nil pass0 (pa_cons (pv 0) (pa_cons (pv 7) (pa_cons (pe_call (ok_drawn_leaf T) (hr.mono (by omega)) rfl T.m_drawn_leaf T.F_drawn_leaf.kp T.b_drawn_leaf .nil pass0 (pa_cons (pv 0) pa_nil)) (pa_cons (pv 5) pa_nil))))))) (pss_one (ps_set (i := 5) sc_drawn_chain.nd rfl (Or.inl rfl) (pe_call (fronted_all T) (hr.mono (by omega)) rfl T.m_fronted T.F_fronted.kp T.b_fronted .nil pass0 (pa_cons (pv 0) (pa_cons (pe_call (ok_draw T) (hr.mono (by omega)) rfl T.m_draw T.F_draw.kp T.b_draw .nil pass0 (pa_cons (pv 0) (pa_cons pe_int pa_nil))) (pa_cons (pv 5) pa_nil))))))))))))
      (pss_one (ps_ret (pv 5)))))))), ?_⟩
  refine ⟨_, rfl, _, _, rfl, d, c, 4, rfl, rfl, dr, by omega, by omega, fun way H1 w0 w1 dr1 k1 => ?_⟩
  have rm1 := rm.keep dr k1
  refine ⟨_, rfl, sl 2, fun e1 ne1 => ?_⟩
  have x1 := same_new (o := .lst [V.int 0, V.int 0]) ne1
  refine ⟨_, _, rfl, d, c, e1, rfl, rfl, dr1.same x1, ⟨0, 0, upd_same⟩, dr1.cne ne1, fun a H2 a0 a1 dr2 _ k2' => ?_⟩
  have k2 := keep_k2 ne1 k2'
  have rm2 := rm1.keep dr1 k2
  refine ⟨_, rfl, sl 2, fun e2 ne2 => ?_⟩
  have x2 := same_new (o := .lst [V.int 0, V.int 0]) ne2
  refine ⟨_, _, rfl, d, c, e2, rfl, rfl, dr2.same x2, ⟨0, 0, upd_same⟩, dr2.cne ne2, fun b H3 b0 b1 dr3 _ k3' => ?_⟩
  have k3 := keep_k2 ne2 k3'
  have rm3 := rm2.keep dr2 k3
  refine ⟨sl 2, fun S nS => ?_⟩
  have xS := same_new (o := .lst [V.int a, V.int b]) nS
  have Sd := dr3.dne nS
  have Sc := dr3.cne nS
  have Sm : S ≠ m := by
    rintro rfl
    obtain ⟨u, v, h⟩ := rm3
    rw [nS] at h
    cases h
  have k03 : Keep d H (upd H3 S (.lst [V.int a, V.int b])) := ((k1.trans k2).trans k3).trans (Keep.of xS)
  have dr4 := dr3.same xS
  have rm4 := rm3.same xS
  have hS : upd H3 S (.lst [V.int a, V.int b]) S = some (.lst [V.int a, V.int b]) := upd_same
  have HS : ∀ {u o}, H u = some o → u ≠ d → u ≠ S := fun h n => ne_of_none (((k1.trans k2).trans k3) _ _ h n) nS
  generalize upd H3 S (.lst [V.int a, V.int b]) = H4 at k03 dr4 rm4 hS ⊢
  refine ⟨fun σ H' => σ = [some (.ref d), some (.ref m), some (.int mo), some (.int way), some (.ref S), none, none, none] ∧ (∃ a b : Int, 0 ≤ a ∧ a < 12 ∧ 0 ≤ b ∧ b < 12 ∧ H' S = some (.lst [.int a, .int b])) ∧ Dr d c H' ∧ Rm m H' ∧ K2 d m H H', ?_, ?_⟩
  · have stay : ∀ {H' : Hp}, Dr d c H' → Keep d H4 H' → (∃ a b : Int, 0 ≤ a ∧ a < 12 ∧ 0 ≤ b ∧ b < 12 ∧ H' S = some (.lst [.int a, .int b])) ∧ Dr d c H' ∧ Rm m H' ∧ K2 d m H H' := fun dr' k' =>
      ⟨⟨a, b, a0, a1, b0, b1, k' _ _ hS Sd⟩, dr', rm4.keep dr4 k', K2.of (k03.trans k')⟩
    obtain ⟨u, v, hm4⟩ := id rm4
    refine ⟨_, rfl, m, _, _, _, rfl, rfl, SqL.of hm4, at_n 1 rfl, _, rfl, _, _, rfl, rfl, _, rfl, ite2 (fun _ => ?_) (fun _ => iteF ⟨rfl, stay dr4 (Keep.refl _ _)⟩)⟩
    refine ⟨_, rfl, _, _, rfl, d, c, 4, rfl, rfl, dr4, by omega, by omega, fun r5 H5 a5 b5 dr5 k5 => ⟨rfl, _, rfl, ite2 (fun _ => ?_) (fun _ => ⟨rfl, stay dr5 k5⟩)⟩⟩
    have rm5 := rm4.keep dr4 k5
    have md := rm5.ne dr5
    have hS5 := k5 _ _ hS Sd
    obtain ⟨u, v, hm5⟩ := id rm5
    refine ⟨_, rfl, m, _, _, _, rfl, rfl, SqL.of hm5, at_n 1 rfl, _, rfl, _, _, rfl, rfl, _, rfl, m, _, _, 1, rfl, rfl, hm5, rfl, ?_⟩
    refine ⟨_, rfl, S, _, _, 0, rfl, rfl, upd_else hS5 Sm, rfl, ?_⟩
    refine ⟨rfl, ⟨0, b, by omega, by omega, b0, b1, upd_same⟩, (dr5.else md mc).else Sd Sc, ⟨u, _, upd_else upd_same Sm.symm⟩, fun e o he n1 n2 => upd_else (upd_else ((k03.trans k5) _ _ he n1) n2) ?_⟩
    exact HS he n1
  · rintro σ H5 ⟨rfl, ⟨a, b, a0, a1, b0, b1, hS5⟩, dr5, rm5, k05⟩
    refine ⟨fun σ H' => σ = [some (.ref d), some (.ref m), some (.int mo), some (.int way), some (.ref S),  none, none, none] ∧ (∃ a b : Int, 0 ≤ a ∧ a < 12 ∧ 0 ≤ b ∧ b < 12 ∧ H' S = some (.lst [.int a, .int b])) ∧ Dr d c H' ∧ Rm m H' ∧ K2 d m H H', ?_, ?_⟩
    · refine ⟨_, rfl, _, _, rfl, d, c, 2, rfl, rfl, dr5, by omega, by omega, fun r6 H6 a6 b6 dr6 k6 => ⟨rfl, _, rfl, ite2 (fun _ => ?_) (fun _ => ⟨rfl, ⟨a, b, a0, a1, b0, b1, k6 _ _ hS5 Sd⟩, dr6, rm5.keep dr5 k6, k05.trans (K2.of k6)⟩)⟩⟩
      have hS6 := k6 _ _ hS5 Sd
      obtain ⟨u, v, hm6⟩ := rm5.keep dr5 k6
      refine ⟨_, rfl, S, _, _, _, rfl, rfl, SqL.of hS6, at_n 0 rfl, _, rfl, S, _, _, 1, rfl, rfl, hS6, rfl, ?_⟩
      exact ⟨rfl, ⟨a, a, a0, a1, a0, a1, upd_same⟩, dr6.else Sd Sc, ⟨u, v, upd_else hm6 Sm.symm⟩, fun e o he n1 n2 => upd_else ((k05.trans (K2.of k6)) e o he n1 n2) (HS he n1)⟩
    · rintro σ H6 ⟨rfl, ⟨a, b, a0, a1, b0, b1, hS6⟩, dr6, rm6, k06⟩
      refine ⟨_, rfl, _, rfl, d, c, rfl, dr6, fun p7 H7 t us k l ⟨lk, he⟩ m7 dr7 k7 => ?_⟩
      have hS7 := k7 _ _ hS6 Sd
      refine ⟨_, rfl, _, rfl, _, _, rfl, rfl, _, _, rfl, d, c, mo - 1, rfl, rfl, dr7, by omega, by omega, fun r8 H8 a8 b8 dr8 k8 => ?_⟩
      refine ⟨_, _, rfl, rfl, 2 + r8, rfl, by omega, by omega, for_range (lo := 0) (n := (2 + r8).toNat) (fun i σ H' => ∃ (p : Addr) (t : PyData) (us : List Str) (k l : Nat) (v6 v7 : Option V), σ = [some (.ref d), some (.ref m), some (.int mo), some (.int way), some (.ref S),  some (.ref p), v6, v7] ∧ ET (i + 1) t us l ∧ k ≤ 10 + 15 * i ∧ Mk d H' p t us k [.int (l : Int)] ∧ H' S = some (.lst [.int a, .int b]) ∧ Dr d c H' ∧ Keep d H7 H') ⟨p7, t, us, k, l, none, none, rfl, he, by omega, m7.keep dr7 k8, k8 _ _ hS7 Sd, dr8, k8⟩ ?_ ?_⟩
      · rintro i σ H' hi ⟨p, t, us, k, l, v6, v7, rfl, he, lk, mk, hS', dr', k'⟩
        obtain ⟨sg, s0, s1, esg⟩ : ∃ sg : Int, 0 ≤ sg ∧ sg < 12 ∧ atI [V.int a, V.int b] (Builtin.bitAnd (0 + (i : Int)) 1) = some (.int sg) := by
          have bb := bit1 (0 + (i : Int)) (by omega)
          generalize Builtin.bitAnd (0 + (i : Int)) 1 = g at bb
          rcases (show g = 0 ∨ g = 1 by omega) with rfl | rfl
          · exact ⟨a, a0, a1, at_n 0 rfl⟩
          · exact ⟨b, b0, b1, at_n 1 rfl⟩
        have ci : (i : Int) < 2 + r8 := by omega
        refine ⟨_, rfl, _, rfl, _, _, rfl, rfl, S, _, _, _, rfl, rfl, SqL.of hS', esg, ?_⟩
        refine ⟨_, rfl, rfl, _, rfl, ite2 (fun _ => ?_) (fun _ => ?_)⟩
        · refine ⟨_, rfl, _, rfl, _, rfl, _, rfl, _, rfl, d, c, rfl, dr', fun p9 H9 t9 us9 k9 l9 ⟨lk9, he9⟩ m9 dr9 kk9 => ?_⟩
          refine ⟨i + 1, _, _, _, _, rfl, d, c, p, p9, t, t9, us, us9, k, k9, l, l9, sg, rfl, rfl, rfl, rfl, s0, s1, dr9, mk.keep dr' kk9, m9, he, ET.up he9 (by omega), by omega, by omega, fun p10 H10 t10 us10 l10 he10 m10 dr10 k10 => ?_⟩
          exact ⟨p10, _, _, _, _, _, _, rfl, he10, by omega, m10, k10 _ _ (kk9 _ _ hS' Sd) Sd, dr10, (k'.trans kk9).trans k10⟩
        refine ⟨_, rfl, rfl, _, rfl, ite2 (fun _ => ?_) (fun _ => ?_)⟩
        · refine ⟨_, rfl, _, rfl, _, rfl, _, rfl, d, c, rfl, dr', fun p9 H9 t9 us9 k9 l9 ⟨lk9, he9⟩ m9 dr9 kk9 => ?_⟩
          refine ⟨_, rfl, i + 1, _, _, _, _, rfl, d, c, p9, p, t9, t, us9, us, k9, k, l9, l, sg, rfl, rfl, rfl, rfl, s0, s1, dr9, m9, mk.keep dr' kk9, ET.up he9 (by omega), he, by omega, by omega, fun p10 H10 t10 us10 l10 he10 m10 dr10 k10 => ?_⟩
          exact ⟨p10, _, _, _, _, _, _, rfl, he10, by omega, m10, k10 _ _ (kk9 _ _ hS' Sd) Sd, dr10, (k'.trans kk9).trans k10⟩
        · refine ⟨_, rfl, _, rfl, _, _, rfl, d, c, 3, rfl, rfl, dr', by omega, by omega, fun r9 H9 a9 b9 dr9 kk9 => ?_⟩
          refine ⟨_, rfl, i + 1, _, _, _, rfl, d, c, p, t, us, k, l, r9, rfl, rfl, rfl, a9, b9, dr9, mk.keep dr' kk9, he, by omega, fun p10 H10 t10 us10 he10 m10 dr10 k10 => ?_⟩
          exact ⟨p10, _, _, _, _, _, _, rfl, he10, by omega, m10, k10 _ _ (kk9 _ _ hS' Sd) Sd, dr10, (k'.trans kk9).trans k10⟩
      · rintro σ H' ⟨p, t, us, k, l, v6, v7, rfl, he, lk, mk, hS', dr', k'⟩
        have k67 := k7.trans k'
        exact ⟨_, rfl, q p H' t us k l (ET.up he (by omega)) (by omega) mk dr' (rm6.keep dr6 k67) (k06.trans (K2.of k67))⟩
end

/-! ### programs: their tokens -/
def EX (e : PyData) (u : List Str) : Prop := (∃ l, ET 30 e u l) ∧ u.length ≤ 2000
theorem EX.ne {e : PyData} {u : List Str} (h : EX e u) : u ≠ [] := by
  obtain ⟨⟨l, h⟩, _⟩ := h
  exact ET.ne h
/-- a turn -/
def TT (w : Str) (d : PyData) (ts : List Str) : Prop := ∃ (e : PyData) (u : List Str) (how n : Str), EX e u ∧ okN how ∧ okN n ∧ d = .tuple [e, .str how, .str n] ∧ ts = [w] ++ u ++ ([how, n, ";"] : List Str)
/-- a state, by what its items are -/
def STt (R : PyData → List Str → Prop) (d : PyData) (ts : List Str) : Prop := ∃ (n : Str) (un it un2 : List PyData) (ut iu ut2 : List (List Str)), okN n ∧ All2 (TT "unless") un ut ∧ All2 R it iu ∧ All2 (TT "until") un2 ut2 ∧ un.length ≤ 10 ∧ it.length ≤ 10 ∧ un2.length ≤ 10 ∧
  d = .tuple [.str n, .tuple un, .tuple it, .tuple un2] ∧ ts = (["state", n] : List Str) ++ ((["{"] : List Str) ++ (ut ++ iu ++ ut2).flatten ++ (["}"] : List Str))
def UseT (d : PyData) (ts : List Str) : Prop := ∃ (ns : List Str) (u : Str) (as : List PyData) (us : List (List Str)) (ev : PyData) (vs : List Str), (∀ s ∈ ns, okN s) ∧ ns ≠ [] ∧ ns.length ≤ 10 ∧ okN u ∧ All2 EX as us ∧ as ≠ [] ∧ as.length ≤ 10 ∧ ((ev = .none ∧ vs = []) ∨ ∃ v, EX ev v ∧ ¬ ev = .none ∧ vs = (["every"] : List Str) ++ v) ∧
  d = .tuple [.str "use", .tuple (ns.map PyData.str), .str u, .tuple as, ev] ∧ ts = (["use"] : List Str) ++ comL (ns.map fun s => [s]) ++ (["=", u] : List Str) ++ ((["("] : List Str) ++ comL us ++ ([")"] : List Str)) ++ vs ++ ([";"] : List Str)
/-- an item without machines -/
def IB (d : PyData) (ts : List Str) : Prop := (∃ n : Str, okN n ∧ d = .tuple [.str "local", .str n, .none] ∧ ts = (["local", n, ";"] : List Str)) ∨
  (∃ (n : Str) (k : PyData) (u : List Str), okN n ∧ KT 2 k u ∧ d = .tuple [.str "local", .str n, k] ∧ ts = (["local"] : List Str) ++ ((([n, ":"] : List Str)) ++ u) ++ ([";"] : List Str)) ∨
  (∃ (n : Str) (e : PyData) (u : List Str), okN n ∧ EX e u ∧ d = .tuple [.str "set", .str n, e] ∧ ts = ([n, "="] : List Str) ++ u ++ ([";"] : List Str)) ∨ UseT d ts ∨
  (∃ (w : Str) (e : PyData) (u : List Str), (w = "assume" ∨ w = "keep") ∧ EX e u ∧ d = .tuple [.str w, e] ∧ ts = ([w] : List Str) ++ u ++ ([";"] : List Str))
def IT : Nat → PyData → List Str → Prop
  | 0, d, ts => IB d ts
  | m + 1, d, ts => IB d ts ∨ ∃ (n : Str) (ss : List PyData) (us : List (List Str)), okN n ∧ ss.length ≤ 10 ∧ All2 (STt (IT m)) ss us ∧ d = .tuple [.str "machine", .str n, .tuple ss] ∧ ts = (["machine", n] : List Str) ++ ((["{"] : List Str) ++ us.flatten ++ (["}"] : List Str))
theorem TT.ne {w : Str} {d : PyData} {ts : List Str} (h : TT w d ts) : ts ≠ [] := by
  obtain ⟨_, _, _, _, _, _, _, _, rfl⟩ := h
  simp
theorem STt.ne {R : PyData → List Str → Prop} {d : PyData} {ts : List Str} (h : STt R d ts) : ts ≠ [] := by
  obtain ⟨_, _, _, _, _, _, _, _, _, _, _, _, _, _, _, rfl⟩ := h
  simp
theorem IB.ne {d : PyData} {ts : List Str} (h : IB d ts) : ts ≠ [] := by
  rcases h with ⟨_, _, _, rfl⟩ | ⟨_, _, _, _, _, _, rfl⟩ | ⟨_, _, _, _, _, _, rfl⟩ | ⟨_, _, _, _, _, _, _, _, _, _, _, _, _, _, _, rfl⟩ | ⟨_, _, _, _, _, _, rfl⟩ <;> simp
theorem IT.ne {m : Nat} {d : PyData} {ts : List Str} (h : IT m d ts) : ts ≠ [] := by
  cases m with
  | zero => exact IB.ne h
  | succ m =>
    rcases h with h | ⟨_, _, _, _, _, _, _, rfl⟩
    · exact IB.ne h
    · simp
def DeclT (d : PyData) (ts : List Str) : Prop := ∃ (n : Str) (k : PyData) (u : List Str), okN n ∧ KT 2 k u ∧ d = .tuple [.str n, k] ∧ ts = ([n, ":"] : List Str) ++ u
def InT (d : PyData) (ts : List Str) : Prop := ∃ (n : Str) (k : PyData) (u : List Str) (ev : Int), okN n ∧ KT 2 k u ∧ (ev = 0 ∨ ev = 1) ∧ d = .tuple [.str n, k, .int ev] ∧ ts = (if ev = 1 then (["event"] : List Str) else []) ++ (([n, ":"] : List Str) ++ u)
def UnitT (d : PyData) (ts : List Str) : Prop := ∃ (n : Str) (ins outs items : List PyData) (iu ou tu : List (List Str)), okN n ∧ All2 InT ins iu ∧ All2 DeclT outs ou ∧ All2 (IT 2) items tu ∧ ins.length ≤ 10 ∧ outs.length ≤ 10 ∧ items.length ≤ 10 ∧
  d = .tuple [.str "unit", .str n, .tuple ins, .tuple outs, .tuple items] ∧ ts = (["unit", n, "("] : List Str) ++ comL iu ++ ([")"] : List Str) ++ ((["gives", "("] : List Str) ++ comL ou ++ ([")"] : List Str)) ++ ((["{"] : List Str) ++ tu.flatten ++ (["}"] : List Str))
def NKT (d : PyData) (ts : List Str) : Prop := ∃ (n : Str) (k : PyData) (u : List Str), okN n ∧ KT 2 k u ∧ d = .tuple [.str n, k] ∧ ts = (["kind", n, "="] : List Str) ++ u ++ ([";"] : List Str)
def ProgT (d : PyData) (ts : List Str) : Prop := ∃ (ks us : List PyData) (kt ut : List (List Str)), All2 NKT ks kt ∧ All2 UnitT us ut ∧ ks.length ≤ 10 ∧ us.length ≤ 10 ∧ d = .tuple [.str "program", .tuple ks, .tuple us] ∧ ts = kt.flatten ++ ut.flatten
def gapS (t : Str) : Str := if t = "{" ∨ t = "}" ∨ t = ";" then "\n" else " "
theorem inV_gap (t : Str) : inV (V.str t) [.str "{", .str "}", .str ";"] = decide (t = "{" ∨ t = "}" ∨ t = ";") := by
  show (decide (("{" : Str) = t) || (decide (("}" : Str) = t) || (decide ((";" : Str) = t) || false))) = _
  by_cases h1 : t = "{"
  · subst h1; decide +kernel
  · by_cases h2 : t = "}"
    · subst h2; decide +kernel
    · by_cases h3 : t = ";"
      · subst h3; decide +kernel
      · rw [decide_eq_false (fun z => h1 z.symm), decide_eq_false (fun z => h2 z.symm), decide_eq_false (fun z => h3 z.symm), decide_eq_false (fun z => z.elim h1 (fun z => z.elim h2 h3))]
        rfl
/-- sums of lists of texts of any size here -/
theorem catB {H : Hp} {a b : Addr} {ts us : List Str} {Q : VK} (ha : SL H a ts) (hb : SL H b us) (hl : ts.length + us.length ≤ 8000000) (q : ∀ (p : Addr) (H' : Hp), Same H H' → SL H' p (ts ++ us) → Q (.ref p) H') : rCat (.ref a) (.ref b) H Q :=
  ⟨a, b, _, _, rfl, rfl, ha, hb, by rw [List.length_map, List.length_map, sizeLine_eq]; omega, fun p hp => q p _ (same_new hp) (by unfold SL; rw [upd_same, List.map_append])⟩
theorem flat_mem {tss : List (List Str)} {t : List Str} (h : t ∈ tss) : t.length ≤ tss.flatten.length := by
  induction tss with
  | nil => cases h
  | cons a r ih =>
    rw [List.flatten_cons, List.length_append]
    rcases List.mem_cons.mp h with rfl | h
    · omega
    · have := ih h
      omega
/-- parts made by a comprehension over a tuple of data -/
theorem comp_parts {K : PySem.W.Frag} {a : Addr} {xs : List V} {g : TG} {te : TE} {vs : List Nat} {σ : L2.St} {H1 : Hp} {D : Addr} {Qd : Hp → Prop} {ds : List PyData} {tss : List (List Str)} {R : PyData → List Str → Prop} (ha : H1 a = some (.tup xs)) (hD : H1 D = none) (hx : TdAll H1 ds xs) (hR : All2 R ds tss) (hs : ds.length ≤ 1000) (ne : ∀ d t, R d t → t ≠ [])
    (step : ∀ (x : V) (d : PyData) (t : List Str) (H : Hp) (C : VK) (C2 : Hp → Prop), Td H d x → R d t → t ∈ tss → Same H1 H → (∀ p H4, Same H H4 → SL H4 p t → C (.ref p) H4) → g x (wipe σ vs) H fun σ2 H2 => wipe σ2 vs = wipe σ vs ∧ tYes σ2 H2 fun b H3 => if b = true then te σ2 H3 C else C2 H3)
    (hd : ∀ H acc, Same H1 H → H D = some (.lst acc) → Parts H acc tss → Qd H) :
    ∃ W : Nat → Nat → Hp → Prop, (∃ m, W 0 m (upd H1 D (.lst []))) ∧ ∀ i m H, W i m H →
      ((Itt K a).stop i H ∧ Qd H) ∨ ((Itt K a).go i H ∧ ∃ Nx : Hp → Prop, (∀ H', Nx H' → ∃ m', m' < m ∧ W (i + 1) m' H') ∧ ∀ x H', (Itt K a).yld i H x H' → g x (wipe σ vs) H' fun σ2 H2 => wipe σ2 vs = wipe σ vs ∧ tYes σ2 H2 fun b H3 =>
        if b = true then te σ2 H3 fun y H4 => ∃ acc, H4 D = some (.lst acc) ∧ acc.length < sizeLine ∧ Nx (upd H4 D (.lst (acc ++ [y]))) else Nx H3) := by
  have l1 := TdAll.len _ _ hx
  have l2 := All2.len hR
  refine parts_comp ha hD (tss := tss) (by omega) (by omega) (fun t ht => ?_) (fun i x t H C C2 hi ht s k => ?_) hd
  · obtain ⟨d, _, h⟩ := All2.mem hR ht
    exact ne d t h
  · have hil : i < ds.length := by
      have := (List.getElem?_eq_some_iff.mp hi).1
      omega
    obtain ⟨u', hu', hr⟩ := All2.at hR (List.getElem?_eq_getElem hil)
    rw [ht] at hu'
    cases hu'
    obtain ⟨v', hv1, hv2⟩ := TdAll.at i _ _ _ hx (List.getElem?_eq_getElem hil)
    rw [hi] at hv1
    cases hv1
    exact step x _ t H C C2 (Td.mono (TS.of s) _ _ hv2) hr (List.mem_of_getElem? ht) s k
def rBlock : V → Hp → VK → Prop := fun x H Q => ∃ (p : Addr) (vs : List V) (tss : List (List Str)), x = .ref p ∧ H p = some (.lst vs) ∧ Parts H vs tss ∧ tss.flatten.length ≤ 4000000 ∧ ∀ (p : Addr) (H' : Hp), Same H H' → SL H' p ((["{"] : List Str) ++ tss.flatten ++ (["}"] : List Str)) → Q (.ref p) H'
def rDecl : V → V → Hp → VK → Prop := fun x y H Q => ∃ (n : Str) (k : PyData) (u : List Str), x = .str n ∧ Td H k y ∧ KT 2 k u ∧ ∀ (p : Addr) (H' : Hp), Same H H' → SL H' p (([n, ":"] : List Str) ++ u) → Q (.ref p) H'
def rGap : V → Hp → VK → Prop := fun x H Q => ∃ t : Str, x = .str t ∧ Q (.str (gapS t)) H
def rTurnT : V → V → Hp → VK → Prop := fun x y H Q => ∃ (w : Str) (d : PyData) (ts : List Str), x = .str w ∧ Td H d y ∧ TT w d ts ∧ ∀ (p : Addr) (H' : Hp), Same H H' → SL H' p ts → Q (.ref p) H'
def rTok (R : PyData → List Str → Prop) : V → Hp → VK → Prop := fun x H Q => ∃ (d : PyData) (ts : List Str), Td H d x ∧ R d ts ∧ ts.length ≤ 3000000 ∧ ∀ (p : Addr) (H' : Hp), Same H H' → SL H' p ts → Q (.ref p) H'
section
variable {P : Program} {w : World} {K : PySem.W.Frag} {mg : Str → Option Value} {base : Heap}
theorem ok_block (T : Tx K mg w) : FnOk P w K mg base CX0 1 T.f_block T.fd_block ["parts"] (sp1 rBlock) := by
  refine okR1 T.F_block sc_block rfl fun cdv A outer s H Q EE x hr h => ?_
  obtain ⟨p, vs, tss, rfl, hp, hps, len, q⟩ := h
  refine ⟨_, pss_cons (ps_set (i := 1) sc_block.nd rfl (Or.inl rfl) (pe_lst (pa_cons pe_str pa_nil)))
      (pss_cons (ps_for PassesOwn.never rfl (pi_list (pv 0)) (pg_name (i := 2) sc_block.nd rfl (Or.inl rfl))
      (pss_one (ps_expr (pe_bm PySem.F.plainAttrs_list PySem.F.slot_list_extend PySem.F.type_list_extend mt_extend (pv 1) (pa_cons (pv 2) pa_nil)))))
      (pss_one (ps_ret (pe_op op_cat (pv 1) (pe_lst (pa_cons pe_str pa_nil)))))), ?_⟩
  have lv := All2.len hps
  refine ⟨sl 1, fun t ht => ?_⟩
  refine ⟨_, rfl, p, rfl, ⟨_, SqL.of (same_new ht _ _ hp)⟩, for_list (K := K) (a := p) (xs := vs) (fun i σ H' => ∃ v2 : Option V, σ = [some (.ref p), some (.ref t), v2] ∧ Same H H' ∧ SL H' t ((["{"] : List Str) ++ (tss.take i).flatten)) ⟨none, rfl, same_new ht, by unfold SL; rw [upd_same]; rfl⟩ ?_ ?_ ?_⟩
  · rintro i σ H' _ ⟨_, _, s1, _⟩
    exact SqL.of (s1 _ _ hp)
  · rintro i v σ H' hi ⟨v2, rfl, s1, h1⟩
    obtain ⟨u, hu, a, rfl, ha⟩ := All2.at hps hi
    have tk1 : tss.take (i + 1) = tss.take i ++ [u] := by rw [List.take_succ, hu]; rfl
    have l1 : ((tss.take i).flatten ++ u).length ≤ tss.flatten.length := by
      have e : tss.flatten = (tss.take (i + 1)).flatten ++ (tss.drop (i + 1)).flatten := by rw [← List.flatten_append, List.take_append_drop]
      rw [e, tk1, List.flatten_append, List.length_append, List.length_append, List.length_append]
      simp
    rw [List.length_append] at l1
    refine ⟨_, rfl, .inl ⟨rfl, _, SqL.of h1⟩, _, rfl, t, a, _, _, rfl, rfl, h1, s1 _ _ ha, ?_, ?_⟩
    · rw [List.length_map, List.length_map, List.length_append, List.length_cons, List.length_nil, sizeLine_eq]
      omega
    · refine ⟨_, rfl, fun b o e => upd_else (s1 _ _ e) (ne_of_none e ht), ?_⟩
      unfold SL
      rw [upd_same, tk1, List.flatten_append, ← List.append_assoc, List.map_append]
      simp
  · rintro σ H' ⟨v2, rfl, s1, h1⟩
    rw [lv, List.take_length] at h1
    refine ⟨_, rfl, sl 1, fun l hl => ?_⟩
    have s2 := same_new (o := .lst [V.str "}"]) hl
    exact catB (h1.same s2) (us := ["}"]) upd_same (by simp only [List.length_append, List.length_cons, List.length_nil]; omega) fun p2 H2 s3 h2 => q p2 H2 ((s1.trans s2).trans s3) h2
theorem ok_p_declared (T : Tx K mg w) : FnOk P w K mg base CX0 3 T.f_p_declared T.fd_p_declared ["name", "kind"] (sp2 rDecl) := by
  refine okR2 T.F_p_declared sc_p_declared rfl fun cdv A outer s H Q EE x y hr h => ?_
  obtain ⟨n, k, u, rfl, hk, kt, q⟩ := h
  refine ⟨_, pss_one (ps_ret (pe_op op_cat (pe_lst (pa_cons (pv 0) (pa_cons pe_str pa_nil))) (pe_call (ok_kind_tokens T) (hr.mono (by decide)) rfl T.m_kind_tokens T.F_kind_tokens.kp T.b_kind_tokens .nil pass0 (pa_cons (pv 1) pa_nil)))), ?_⟩
  have len := KT.len kt
  refine ⟨_, rfl, sl 2, fun l hl => ?_⟩
  have s1 := same_new (o := .lst [V.str n, V.str ":"]) hl
  have h1 : SL (upd H l (.lst [V.str n, V.str ":"])) l ([n, ":"] : List Str) := upd_same
  refine ⟨_, rfl, _, rfl, k, 2, u, Td.mono (TS.of s1) _ _ hk, kt, by omega, fun p2 H2 s2 h2 => ?_⟩
  exact catB (h1.same s2) h2 (by simp only [List.length_cons, List.length_nil]; omega) fun p3 H3 s3 h3 => q p3 H3 ((s1.trans s2).trans s3) h3
theorem ok_gap (T : Tx K mg w) : FnOk P w K mg base CX0 1 T.f_gap T.fd_gap ["token"] (sp1 rGap) := by
  refine okR1 T.F_gap sc_gap rfl fun cdv A outer s H Q EE x hr h => ?_
  obtain ⟨t, rfl, q⟩ := h
  refine ⟨_, pss_one (ps_ret (pe_ifExp (pt_cmpR op_in_seq (pv 0) (pe_glob (v := .ref (He.ga K "LINE_ENDS")) rfl T.mg_LINE_ENDS rfl) (by rfl)) pe_str pe_str)), ?_⟩
  refine ⟨_, rfl, He.ga K "LINE_ENDS", _, rfl, .inr (T.tp_LINE_ENDS H), rfl, rfl, _, rfl, ?_⟩
  show if inV (V.str t) [.str "{", .str "}", .str ";"] = true then Q (.str "\n") H else Q (.str " ") H
  rw [inV_gap]
  unfold gapS at q
  by_cases h : t = "{" ∨ t = "}" ∨ t = ";"
  · rw [if_pos h] at q
    exact ite2 (fun _ => q) (fun z => absurd (decide_eq_true h) z)
  · rw [if_neg h] at q
    exact ite2 (fun z => absurd (of_decide_eq_true z) h) (fun _ => q)
end

section
variable {P : Program} {w : World} {K : PySem.W.Frag} {mg : Str → Option Value} {base : Heap}
theorem SL.new {H : Hp} {l : Addr} {ts : List Str} : SL (upd H l (.lst (ts.map V.str))) l ts := upd_same
theorem catBn {H : Hp} {a b : Addr} {ts us : List Str} {Q : VK} (ha : SL H a ts) (hb : SL H b us) (hl : ts.length + us.length ≤ 8000000) (q : ∀ (p : Addr) (H' : Hp), H p = none → Same H H' → SL H' p (ts ++ us) → Q (.ref p) H') : rCat (.ref a) (.ref b) H Q :=
  ⟨a, b, _, _, rfl, rfl, ha, hb, by rw [List.length_map, List.length_map, sizeLine_eq]; omega, fun p hp => q p _ hp (same_new hp) (by unfold SL; rw [upd_same, List.map_append])⟩
theorem ext_len {ts us : List Str} (h : ts.length + us.length ≤ 8000000) : (ts.map V.str).length + (us.map V.str).length ≤ sizeLine := by
  rw [List.length_map, List.length_map, sizeLine_eq]
  omega
theorem ext_SL {H : Hp} {t : Addr} {ts us : List Str} : SL (upd H t (.lst (ts.map V.str ++ us.map V.str))) t (ts ++ us) := by
  unfold SL
  rw [upd_same, List.map_append]
theorem EX.tup {H : Hp} {e : PyData} {u : List Str} {v : V} (h : EX e u) (hv : Td H e v) : ∃ a, v = .ref a := by
  obtain ⟨⟨l, h⟩, _⟩ := h
  obtain ⟨w, ds, rfl, _⟩ := ET.head h
  obtain ⟨a, xs, e, _⟩ := hv
  exact ⟨a, e⟩
theorem ok_turn_tokens (T : Tx K mg w) : FnOk P w K mg base CX0 124 T.f_turn_tokens T.fd_turn_tokens ["word", "turn"] (sp2 rTurnT) := by
  refine okR2 T.F_turn_tokens sc_turn_tokens rfl fun cdv A outer s H Q EE x y hr h => ?_
  obtain ⟨w0, d, ts, rfl, hx, ⟨e, u, how, n, ⟨⟨l, he⟩, hl⟩, oh, on, rfl, rfl⟩, q⟩ := h
  refine ⟨_, pss_cons (ps_asg (pv 1) (pg_tup rfl (pgs_cons (pg_name (i := 2) sc_turn_tokens.nd rfl (Or.inl rfl)) (pgs_cons (pg_name (i := 3) sc_turn_tokens.nd rfl (Or.inl rfl)) (pgs_cons (pg_name (i := 4) sc_turn_tokens.nd rfl (Or.inl rfl)) pgs_nil)))))
      (pss_one (ps_ret (pe_op op_cat (pe_op op_cat (pe_lst (pa_cons (pv 0) pa_nil)) (pe_call (ok_expr_tokens T) (hr.mono (by omega)) rfl T.m_expr_tokens T.F_expr_tokens.kp T.b1_expr_tokens T.v1_expr_tokens pass0 (pa_cons (pv 2) pa_nil))) (pe_lst (pa_cons (pv 3) (pa_cons (pv 4) (pa_cons pe_str pa_nil))))))), ?_⟩
  obtain ⟨b, xs, rfl, hb, ev, _, rfl, hev, hv, _, rfl, rfl, nv, _, rfl, rfl, rfl⟩ := id hx
  refine ⟨_, rfl, b, _, rfl, SqT.of hb, rfl, _, _, rfl, _, _, rfl, _, _, rfl, rfl, ?_⟩
  refine ⟨_, rfl, sl 1, fun l1 n1 => ?_⟩
  have s1 := same_new (o := .lst [V.str w0]) n1
  have h1 : SL (upd H l1 (.lst [V.str w0])) l1 ([w0] : List Str) := upd_same
  refine ⟨_, rfl, rEx.one (Td.mono (TS.of s1) _ _ hev) he (by omega) fun p2 H2 s2 h2 => ?_⟩
  refine catB (h1.same s2) h2 (by simp only [List.length_cons, List.length_nil]; omega) fun p3 H3 s3 h3 => ?_
  refine ⟨_, rfl, _, rfl, sl 3, fun l4 n4 => ?_⟩
  have s4 := same_new (o := .lst [V.str how, V.str n, V.str ";"]) n4
  have h4 : SL (upd H3 l4 (.lst [V.str how, V.str n, V.str ";"])) l4 ([how, n, ";"] : List Str) := upd_same
  exact catB (h3.same s4) h4 (by simp only [List.length_append, List.length_cons, List.length_nil]; omega) fun p5 H5 s5 h5 => q p5 H5 ((((s1.trans s2).trans s3).trans s4).trans s5) h5
theorem ok_in_tokens (T : Tx K mg w) : FnOk P w K mg base CX0 4 T.f_in_tokens T.fd_in_tokens ["each"] (sp1 (rTok InT)) := by
  refine okR1 T.F_in_tokens sc_in_tokens rfl fun cdv A outer s H Q EE x hr h => ?_
  obtain ⟨d, ts, hx, ⟨n, k, u, ev, on, kt, he, rfl, rfl⟩, len, q⟩ := h
  refine ⟨_, pss_cons (ps_asg (pv 0) (pg_tup rfl (pgs_cons (pg_name (i := 1) sc_in_tokens.nd rfl (Or.inl rfl)) (pgs_cons (pg_name (i := 2) sc_in_tokens.nd rfl (Or.inl rfl)) (pgs_cons (pg_name (i := 3) sc_in_tokens.nd rfl (Or.inl rfl)) pgs_nil)))))
      (pss_one (ps_ret (pe_op op_cat (pe_ifExp (pt_cmpR op_eq (pv 3) pe_int (nomark _)) (pe_lst (pa_cons pe_str pa_nil)) (pe_lst pa_nil)) (pe_call (ok_p_declared T) (hr.mono (by decide)) rfl T.m_p_declared T.F_p_declared.kp T.b_p_declared .nil pass0 (pa_cons (pv 1) (pa_cons (pv 2) pa_nil)))))), ?_⟩
  have lk := KT.len kt
  obtain ⟨b, xs, rfl, hb, nv, _, rfl, rfl, kv, _, rfl, hk, iv, _, rfl, rfl, rfl⟩ := id hx
  refine ⟨_, rfl, b, _, rfl, SqT.of hb, rfl, _, _, rfl, _, _, rfl, _, _, rfl, rfl, ?_⟩
  refine ⟨_, rfl, rfl, _, rfl, ite2 (fun h => ?_) (fun h => ?_)⟩
  · have e1 := V.int.inj (of_decide_eq_true h)
    rw [if_pos e1] at q
    refine ⟨sl 1, fun l1 n1 => ?_⟩
    have s1 := same_new (o := .lst [V.str "event"]) n1
    have h1 : SL (upd H l1 (.lst [V.str "event"])) l1 (["event"] : List Str) := upd_same
    refine ⟨_, rfl, _, rfl, _, _, rfl, n, k, u, rfl, Td.mono (TS.of s1) _ _ hk, kt, fun p2 H2 s2 h2 => ?_⟩
    exact catB (h1.same s2) h2 (by simp only [List.length_append, List.length_cons, List.length_nil]; omega) fun p3 H3 s3 h3 => q p3 H3 ((s1.trans s2).trans s3) h3
  · have e1 : ¬ ev = 1 := fun z => h (decide_eq_true (congrArg V.int z))
    rw [if_neg e1] at q
    refine ⟨sl 0, fun l1 n1 => ?_⟩
    have s1 := same_new (o := .lst []) n1
    have h1 : SL (upd H l1 (.lst [])) l1 ([] : List Str) := upd_same
    refine ⟨_, rfl, _, rfl, _, _, rfl, n, k, u, rfl, Td.mono (TS.of s1) _ _ hk, kt, fun p2 H2 s2 h2 => ?_⟩
    exact catB (h1.same s2) h2 (by simp only [List.length_append, List.length_cons, List.length_nil]; omega) fun p3 H3 s3 h3 => q p3 H3 ((s1.trans s2).trans s3) h3
theorem ok_use_tokens (T : Tx K mg w) : FnOk P w K mg base CX0 124 T.f_use_tokens T.fd_use_tokens ["item"] (sp1 (rTok UseT)) := by
  refine okR1 T.F_use_tokens sc_use_tokens rfl fun cdv A outer s H Q EE x hr h => ?_
  obtain ⟨d, ts, hx, ⟨ns, un, as, us, ev, vs, on, nne, nl, ou, hus, ane, al, hev, rfl, rfl⟩, len, q⟩ := h
  refine ⟨_, pss_cons (ps_asg (pv 0) (pg_tup rfl (pgs_cons (pg_name (i := 1) sc_use_tokens.nd rfl (Or.inl rfl)) (pgs_cons (pg_name (i := 2) sc_use_tokens.nd rfl (Or.inl rfl)) (pgs_cons (pg_name (i := 3) sc_use_tokens.nd rfl (Or.inl rfl)) (pgs_cons (pg_name (i := 4) sc_use_tokens.nd rfl (Or.inl rfl)) (pgs_cons (pg_name (i := 5) sc_use_tokens.nd rfl (Or.inl rfl)) pgs_nil)))))))
      (pss_cons (ps_set (i := 6) sc_use_tokens.nd rfl (Or.inl rfl) (pe_op op_cat (pe_op op_cat (pe_lst (pa_cons pe_str pa_nil)) (pe_call (ok_listed T) (hr.mono (by decide)) rfl T.m_listed T.F_listed.kp T.b_listed .nil pass0 (pa_cons (pe_lc (own := [("name", 7)]) (g := gName 7) (tt := tYes) rfl sc_use_tokens.nd (pi_tup (pv 2)) (blkOk_by (N := ["item", "_", "names", "unit", "args", "every", "tokens", "name", "arg"]) (sc := defScope s_use_tokens) (by decide +kernel)) (fun _ _ _ _ _ => pg_name (i := 7) sc_use_tokens.nd rfl (Or.inl rfl)) (fun _ _ _ _ _ => pts_nil) (fun _ _ _ _ _ => (pe_lst (pa_cons (pv 7) pa_nil)))) pa_nil))) (pe_lst (pa_cons pe_str (pa_cons (pv 3) pa_nil)))))
      (pss_cons (ps_expr (pe_bm PySem.F.plainAttrs_list PySem.F.slot_list_extend PySem.F.type_list_extend mt_extend (pv 6) (pa_cons (pe_call (ok_arguments T) (hr.mono (by decide)) rfl T.m_arguments T.F_arguments.kp T.b_arguments .nil pass0 (pa_cons (pe_lc (own := [("arg", 8)]) (g := gName 8) (tt := tYes) rfl sc_use_tokens.nd (pi_tup (pv 4)) (blkOk_by (N := ["item", "_", "names", "unit", "args", "every", "tokens", "name", "arg"]) (sc := defScope s_use_tokens) (by decide +kernel)) (fun _ _ _ _ _ => pg_name (i := 8) sc_use_tokens.nd rfl (Or.inl rfl)) (fun _ _ _ _ _ => pts_nil) (fun _ _ _ _ _ => (pe_call (ok_expr_tokens T) (hr.mono (by omega)) rfl T.m_expr_tokens T.F_expr_tokens.kp T.b1_expr_tokens T.v1_expr_tokens pass0 (pa_cons (pv 8) pa_nil)))) pa_nil)) pa_nil)))
      (C8.pss_cut (ps_if (pt_cmpR op_notN (pv 5) pe_non (nomark _)) (pss_one (ps_expr (pe_bm PySem.F.plainAttrs_list PySem.F.slot_list_extend PySem.F.type_list_extend mt_extend (pv 6) (pa_cons (pe_op op_cat (pe_lst (pa_cons pe_str pa_nil)) (pe_call (ok_expr_tokens T) (hr.mono (by omega)) rfl T.m_expr_tokens T.F_expr_tokens.kp T.b1_expr_tokens T.v1_expr_tokens pass0 (pa_cons (pv 5) pa_nil))) pa_nil)))) pss_nil)
      (pss_one (ps_ret (pe_op op_cat (pv 6) (pe_lst (pa_cons pe_str pa_nil)))))))), ?_⟩
  obtain ⟨b, xs, rfl, hb, v0, _, rfl, rfl, v1, _, rfl, ⟨b1, ys, rfl, hb1, hys⟩, v2, _, rfl, rfl, v3, _, rfl, ⟨b3, zs, rfl, hb3, hzs⟩, v4, _, rfl, hv4, rfl⟩ := id hx
  refine ⟨_, rfl, b, _, rfl, SqT.of hb, rfl, _, _, rfl, _, _, rfl, _, _, rfl, _, _, rfl, _, _, rfl, rfl, ?_⟩
  simp only [List.length_append, List.length_cons, List.length_nil] at len
  refine ⟨sl 1, fun l1 n1 => ?_⟩
  have s1 := same_new (o := .lst [V.str "use"]) n1
  have h1 : SL (upd H l1 (.lst [V.str "use"])) l1 (["use"] : List Str) := upd_same
  generalize upd H l1 (.lst [V.str "use"]) = H1 at s1 h1 ⊢
  have hys1 := TdAll.mono (TS.of s1) _ _ hys
  have one : All2 (fun (d : PyData) (t : List Str) => ∃ s, d = PyData.str s ∧ t = [s]) (ns.map PyData.str) (ns.map fun s => [s]) := All2.maps fun s _ => ⟨s, rfl, rfl⟩
  have cne : ∀ t ∈ ns.map (fun s => [s]), t ≠ ([] : List Str) := fun t ht => by
    obtain ⟨s, _, rfl⟩ := List.mem_map.mp ht
    exact List.cons_ne_nil _ _
  have c1 := com_ones ns
  refine ⟨_, rfl, b1, rfl, ⟨_, SqT.of (s1 _ _ hb1)⟩, fun D hD => comp_parts (s1 _ _ hb1) hD hys1 one (by rw [List.length_map]; omega) (fun d t ⟨s, _, e⟩ => by rw [e]; exact List.cons_ne_nil _ _) ?_ ?_⟩
  · rintro x d t H4 C C2 hx4 ⟨z, rfl, rfl⟩ _ s4 k
    obtain rfl : x = .str z := hx4
    exact ⟨rfl, yes ⟨_, rfl, sl 1, fun p np => k p _ (same_new np) upd_same⟩⟩
  · intro H2 acc s2 h2 hps
    refine ⟨_, rfl, D, acc, _, rfl, h2, hps, by rw [lstF_com cne]; omega, fun p3 H3 s3 h3 => ?_⟩
    rw [lstF_com cne] at h3
    refine catB ((h1.same s2).same s3) h3 (by simp only [List.length_cons, List.length_nil]; omega) fun p4 H4 s4 h4 => ?_
    refine ⟨_, rfl, sl 2, fun l5 n5 => ?_⟩
    have s5 := same_new (o := .lst [V.str "=", V.str un]) n5
    have h5 : SL (upd H4 l5 (.lst [V.str "=", V.str un])) l5 (["=", un] : List Str) := upd_same
    have s05 := (((s1.trans s2).trans s3).trans s4).trans s5
    refine catBn (h4.same s5) h5 (by simp only [List.length_append, List.length_cons, List.length_nil]; omega) fun t6 H6 n6 s6 h6 => ?_
    have s06 := s05.trans s6
    have new6 : ∀ b o, H b = some o → b ≠ t6 := fun b o e => ne_of_none (s05 _ _ e) n6
    have hzs6 := TdAll.mono (TS.of s06) _ _ hzs
    have hb6 := s06 _ _ hb3
    have ane2 : ∀ t ∈ us, t ≠ [] := fun t ht => by
      obtain ⟨_, _, h⟩ := All2.mem hus ht
      exact h.ne
    refine ⟨_, rfl, .inl ⟨rfl, _, SqL.of h6⟩, _, rfl, b3, rfl, ⟨_, SqT.of hb6⟩, fun D hD => comp_parts hb6 hD hzs6 hus (by omega) (fun d t h => h.ne) ?_ ?_⟩
    · rintro x d t H7 C C2 hx7 ⟨⟨l, he⟩, hl⟩ _ s7 k
      exact ⟨rfl, yes ⟨_, rfl, rEx.one hx7 he (by omega) k⟩⟩
    · intro H7 acc s7 h7 hps
      have cus : (comL us).length ≤ 30000 := by
        have lu := All2.len hus
        have : ∀ us : List (List Str), (∀ t ∈ us, t.length ≤ 2000) → (comL us).length ≤ 2001 * us.length := by
          intro us h
          cases us with
          | nil => exact Nat.le_refl _
          | cons t r =>
            show (t ++ (r.map fun u => ("," : Str) :: u).flatten).length ≤ _
            have h2 : ∀ r : List (List Str), (∀ t ∈ r, t.length ≤ 2000) → ((r.map fun u => ("," : Str) :: u).flatten).length ≤ 2001 * r.length := by
              intro r
              induction r with
              | nil => intro _; exact Nat.le_refl _
              | cons a r ih =>
                intro h
                have := ih fun t ht => h t (List.mem_cons_of_mem _ ht)
                have h3 := h a List.mem_cons_self
                rw [List.map_cons, List.flatten_cons, List.length_append, List.length_cons, List.length_cons]
                omega
            have h4 := h2 r fun t ht => h t (List.mem_cons_of_mem _ ht)
            have h5 := h t List.mem_cons_self
            rw [List.length_append, List.length_cons]
            omega
        have h6 := this us fun t ht => by
          obtain ⟨_, _, h⟩ := All2.mem hus ht
          exact h.2
        omega
      refine ⟨_, rfl, D, acc, us, rfl, h7, hps, by rw [lstF_com ane2]; omega, fun p8 H8 s8 h8 => ?_⟩
      rw [lstF_com ane2] at h8
      refine ⟨t6, p8, _, _, rfl, rfl, (h6.same s7).same s8, h8, ext_len (by simp only [List.length_append, List.length_cons, List.length_nil] at *; omega), ?_⟩
      have h9 := ext_SL (H := H8) (t := t6) (ts := (["use"] : List Str) ++ comL (ns.map fun s => [s]) ++ (["=", un] : List Str)) (us := (["("] : List Str) ++ comL us ++ ([")"] : List Str))
      have s09 : Same H (upd H8 t6 (.lst (((["use"] : List Str) ++ comL (ns.map fun s => [s]) ++ (["=", un] : List Str)).map V.str ++ ((["("] : List Str) ++ comL us ++ ([")"] : List Str)).map V.str))) := fun b o e => upd_else ((s06.trans s7).trans s8 _ _ e) (new6 b o e)
      generalize upd H8 t6 (.lst (((["use"] : List Str) ++ comL (ns.map fun s => [s]) ++ (["=", un] : List Str)).map V.str ++ ((["("] : List Str) ++ comL us ++ ([")"] : List Str)).map V.str)) = H9 at h9 s09 ⊢
      refine ⟨fun σ H' => σ = [some (.ref b), some (.str "use"), some (.ref b1), some (.str un), some (.ref b3), some v4, some (.ref t6), none, none] ∧ Same H H' ∧ SL H' t6 ((["use"] : List Str) ++ comL (ns.map fun s => [s]) ++ (["=", un] : List Str) ++ ((["("] : List Str) ++ comL us ++ ([")"] : List Str)) ++ vs), ?_, ?_⟩
      · rcases hev with ⟨rfl, rfl⟩ | ⟨v, hev, nn, rfl⟩
        · obtain rfl : v4 = .non := hv4
          refine ⟨_, rfl, rfl, _, rfl, ite2 (fun h => absurd h (by rw [decide_eq_true rfl]; decide)) (fun _ => ⟨rfl, s09, by rw [List.append_nil]; exact h9⟩)⟩
        · obtain ⟨a4, rfl⟩ := hev.tup hv4
          refine ⟨_, rfl, rfl, _, rfl, ite2 (fun _ => ?_) (fun h => absurd (by rw [decide_eq_false (fun z => by cases z)]; rfl) h)⟩
          refine ⟨_, rfl, .inl ⟨rfl, _, SqL.of h9⟩, sl 1, fun l10 n10 => ?_⟩
          have s10 := same_new (o := .lst [V.str "every"]) n10
          have h10 : SL (upd H9 l10 (.lst [V.str "every"])) l10 (["every"] : List Str) := upd_same
          obtain ⟨⟨l, he⟩, hl⟩ := hev
          refine ⟨_, rfl, rEx.one (Td.mono (TS.of (s09.trans s10)) _ _ hv4) he (by omega) fun p11 H11 s11 h11 => ?_⟩
          refine catB (h10.same s11) h11 (by simp only [List.length_cons, List.length_nil]; omega) fun p12 H12 s12 h12 => ?_
          refine ⟨t6, p12, _, _, rfl, rfl, ((h9.same s10).same s11).same s12, h12, ext_len (by simp only [List.length_append, List.length_cons, List.length_nil] at *; omega), ?_⟩
          exact ⟨rfl, fun b o e => upd_else (((s09.trans s10).trans s11).trans s12 _ _ e) (new6 b o e), ext_SL⟩
      · rintro σ H14 ⟨rfl, s14, h14⟩
        refine ⟨_, rfl, sl 1, fun l15 n15 => ?_⟩
        have s15 := same_new (o := .lst [V.str ";"]) n15
        have h15 : SL (upd H14 l15 (.lst [V.str ";"])) l15 ([";"] : List Str) := upd_same
        exact catB (h14.same s15) h15 (by simp only [List.length_append, List.length_cons, List.length_nil] at *; omega) fun p16 H16 s16 h16 => q p16 H16 ((s14.trans s15).trans s16) h16
end

section
variable {P : Program} {w : World} {K : PySem.W.Frag} {mg : Str → Option Value} {base : Heap}
theorem item_base (T : Tx K mg w) : FnOk P w K mg base CX0 125 T.f_item_tokens T.fd_item_tokens ["item"] (sp1 (rTok (IT 0))) := by
  refine okR1 T.F_item_tokens sc_item_tokens rfl fun cdv A outer s H Q EE x hr h => ?_
  obtain ⟨d, ts, hx, hb0, len, q⟩ := h
  refine ⟨_, pss_cons (ps_set (i := 1) sc_item_tokens.nd rfl (Or.inl rfl) (pe_ix ix_tup (pv 0) pe_int (fun _ _ => rfl)))
      (pss_cons (ps_if (pt_cmpR op_eq (pv 1) pe_str (nomark _)) (pss_one ps_never) pss_nil)
      (pss_cons (ps_if (pt_cmpR op_eq (pv 1) pe_str (nomark _)) (pss_one (ps_ret (pe_op op_cat (pe_op op_cat (pe_lst (pa_cons pe_str pa_nil)) (pe_ifExp (pt_cmpR op_isN (pe_ix ix_tup (pv 0) pe_int (fun _ _ => rfl)) pe_non (nomark _)) (pe_lst (pa_cons (pe_ix ix_tup (pv 0) pe_int (fun _ _ => rfl)) pa_nil)) (pe_call (ok_p_declared T) (hr.mono (by omega)) rfl T.m_p_declared T.F_p_declared.kp T.b_p_declared .nil pass0 (pa_cons (pe_ix ix_tup (pv 0) pe_int (fun _ _ => rfl)) (pa_cons (pe_ix ix_tup (pv 0) pe_int (fun _ _ => rfl)) pa_nil))))) (pe_lst (pa_cons pe_str pa_nil))))) pss_nil)
      (pss_cons (ps_if (pt_cmpR op_eq (pv 1) pe_str (nomark _)) (pss_one (ps_ret (pe_op op_cat (pe_op op_cat (pe_lst (pa_cons (pe_ix ix_tup (pv 0) pe_int (fun _ _ => rfl)) (pa_cons pe_str pa_nil))) (pe_call (ok_expr_tokens T) (hr.mono (by omega)) rfl T.m_expr_tokens T.F_expr_tokens.kp T.b1_expr_tokens T.v1_expr_tokens pass0 (pa_cons (pe_ix ix_tup (pv 0) pe_int (fun _ _ => rfl)) pa_nil))) (pe_lst (pa_cons pe_str pa_nil))))) pss_nil)
      (pss_cons (ps_if (pt_cmpR op_eq (pv 1) pe_str (nomark _)) (pss_one (ps_ret (pe_call (ok_use_tokens T) (hr.mono (by omega)) rfl T.m_use_tokens T.F_use_tokens.kp T.b_use_tokens .nil pass0 (pa_cons (pv 0) pa_nil)))) pss_nil)
      (pss_one (ps_ret (pe_op op_cat (pe_op op_cat (pe_lst (pa_cons (pv 1) pa_nil)) (pe_call (ok_expr_tokens T) (hr.mono (by omega)) rfl T.m_expr_tokens T.F_expr_tokens.kp T.b1_expr_tokens T.v1_expr_tokens pass0 (pa_cons (pe_ix ix_tup (pv 0) pe_int (fun _ _ => rfl)) pa_nil))) (pe_lst (pa_cons pe_str pa_nil))))))))), ?_⟩
  · have hb0 : IB d ts := hb0
    rcases hb0 with ⟨n, on, rfl, rfl⟩ | ⟨n, k, u, on, kt, rfl, rfl⟩ | ⟨n, e, u, on, ⟨⟨l, he⟩, hl⟩, rfl, rfl⟩ | hu | ⟨w0, e, u, hw, ⟨⟨l, he⟩, hl⟩, rfl, rfl⟩
    · obtain ⟨b, xs, rfl, hb, _, _, rfl, rfl, _, _, rfl, rfl, _, _, rfl, rfl, rfl⟩ := id hx
      refine ⟨_, rfl, b, _, _, _, rfl, rfl, SqT.of hb, at_n 0 rfl, ?_⟩
      refine ⟨_, rfl, rfl, _, rfl, iteF ?_⟩
      refine ⟨_, rfl, rfl, _, rfl, iteT ?_⟩
      refine ⟨sl 1, fun l1 n1 => ?_⟩
      have s1 := same_new (o := .lst [V.str "local"]) n1
      have h1 : SL (upd H l1 (.lst [V.str "local"])) l1 (["local"] : List Str) := upd_same
      refine ⟨_, rfl, b, _, _, _, rfl, rfl, SqT.of (s1 _ _ hb), at_n 2 rfl, rfl, _, rfl, iteT ?_⟩
      refine ⟨_, rfl, b, _, _, _, rfl, rfl, SqT.of (s1 _ _ hb), at_n 1 rfl, sl 1, fun l2 n2 => ?_⟩
      have s2 := same_new (o := .lst [V.str n]) n2
      have h2 : SL (upd (upd H l1 (.lst [V.str "local"])) l2 (.lst [V.str n])) l2 ([n] : List Str) := upd_same
      refine catB (h1.same s2) h2 (by simp) fun p3 H3 s3 h3 => ?_
      refine ⟨sl 1, fun l4 n4 => ?_⟩
      have s4 := same_new (o := .lst [V.str ";"]) n4
      exact catB (h3.same s4) (us := [";"]) upd_same (by simp) fun p5 H5 s5 h5 => q p5 H5 ((((s1.trans s2).trans s3).trans s4).trans s5) h5
    · have lk := KT.len kt
      obtain ⟨b, xs, rfl, hb, _, _, rfl, rfl, _, _, rfl, rfl, kv, _, rfl, hk, rfl⟩ := id hx
      obtain ⟨ka, rfl⟩ : ∃ a, kv = .ref a := by
        rcases KT.cases kt with hb1 | ⟨_, _, _, _, _, _, _, _, rfl, _⟩
        · rcases hb1 with ⟨rfl, _⟩ | ⟨_, _, rfl, _⟩ | ⟨_, _, _, _, rfl, _⟩ | ⟨_, _, _, _, _, _, _, _, _, rfl, _⟩
          · obtain ⟨a, _, e, _⟩ := hk; exact ⟨a, e⟩
          · obtain ⟨a, _, e, _⟩ := hk; exact ⟨a, e⟩
          · obtain ⟨a, _, e, _⟩ := hk; exact ⟨a, e⟩
          · obtain ⟨a, _, e, _⟩ := hk; exact ⟨a, e⟩
        · obtain ⟨a, _, e, _⟩ := hk; exact ⟨a, e⟩
      refine ⟨_, rfl, b, _, _, _, rfl, rfl, SqT.of hb, at_n 0 rfl, ?_⟩
      refine ⟨_, rfl, rfl, _, rfl, iteF ?_⟩
      refine ⟨_, rfl, rfl, _, rfl, iteT ?_⟩
      refine ⟨sl 1, fun l1 n1 => ?_⟩
      have s1 := same_new (o := .lst [V.str "local"]) n1
      have h1 : SL (upd H l1 (.lst [V.str "local"])) l1 (["local"] : List Str) := upd_same
      refine ⟨_, rfl, b, _, _, _, rfl, rfl, SqT.of (s1 _ _ hb), at_n 2 rfl, rfl, _, rfl, ite2 (fun h => absurd (of_decide_eq_true h) (fun z => by cases z)) (fun _ => ?_)⟩
      refine ⟨_, rfl, b, _, _, _, rfl, rfl, SqT.of (s1 _ _ hb), at_n 1 rfl, _, rfl, b, _, _, _, rfl, rfl, SqT.of (s1 _ _ hb), at_n 2 rfl, _, _, rfl, n, k, u, rfl, Td.mono (TS.of s1) _ _ hk, kt, fun p2 H2 s2 h2 => ?_⟩
      refine catB (h1.same s2) h2 (by simp only [List.length_append, List.length_cons, List.length_nil]; omega) fun p3 H3 s3 h3 => ?_
      refine ⟨sl 1, fun l4 n4 => ?_⟩
      have s4 := same_new (o := .lst [V.str ";"]) n4
      exact catB (h3.same s4) (us := [";"]) upd_same (by simp only [List.length_append, List.length_cons, List.length_nil]; omega) fun p5 H5 s5 h5 => q p5 H5 ((((s1.trans s2).trans s3).trans s4).trans s5) h5
    · obtain ⟨b, xs, rfl, hb, _, _, rfl, rfl, _, _, rfl, rfl, ev, _, rfl, hev, rfl⟩ := id hx
      refine ⟨_, rfl, b, _, _, _, rfl, rfl, SqT.of hb, at_n 0 rfl, ?_⟩
      refine ⟨_, rfl, rfl, _, rfl, iteF ?_⟩
      refine ⟨_, rfl, rfl, _, rfl, iteF ?_⟩
      refine ⟨_, rfl, rfl, _, rfl, iteT ?_⟩
      refine ⟨_, rfl, b, _, _, _, rfl, rfl, SqT.of hb, at_n 1 rfl, sl 2, fun l1 n1 => ?_⟩
      have s1 := same_new (o := .lst [V.str n, V.str "="]) n1
      have h1 : SL (upd H l1 (.lst [V.str n, V.str "="])) l1 ([n, "="] : List Str) := upd_same
      refine ⟨_, rfl, b, _, _, _, rfl, rfl, SqT.of (s1 _ _ hb), at_n 2 rfl, rEx.one (Td.mono (TS.of s1) _ _ hev) he (by omega) fun p2 H2 s2 h2 => ?_⟩
      refine catB (h1.same s2) h2 (by simp only [List.length_append, List.length_cons, List.length_nil]; omega) fun p3 H3 s3 h3 => ?_
      refine ⟨sl 1, fun l4 n4 => ?_⟩
      have s4 := same_new (o := .lst [V.str ";"]) n4
      exact catB (h3.same s4) (us := [";"]) upd_same (by simp only [List.length_append, List.length_cons, List.length_nil]; omega) fun p5 H5 s5 h5 => q p5 H5 ((((s1.trans s2).trans s3).trans s4).trans s5) h5
    · have hu2 := hu
      obtain ⟨ns, un, as, us, ev, vs, on, nne, nl, ou, hus, ane, al, hev, rfl, rfl⟩ := hu
      obtain ⟨b, xs, rfl, hb, _, r, rfl, rfl, hr'⟩ := id hx
      refine ⟨_, rfl, b, _, _, _, rfl, rfl, SqT.of hb, at_n 0 rfl, ?_⟩
      refine ⟨_, rfl, rfl, _, rfl, iteF ?_⟩
      refine ⟨_, rfl, rfl, _, rfl, iteF ?_⟩
      refine ⟨_, rfl, rfl, _, rfl, iteF ?_⟩
      refine ⟨_, rfl, rfl, _, rfl, iteT ?_⟩
      exact ⟨_, rfl, _, rfl, _, _, hx, hu2, len, q⟩
    · obtain ⟨b, xs, rfl, hb, _, _, rfl, rfl, ev, _, rfl, hev, rfl⟩ := id hx
      refine ⟨_, rfl, b, _, _, _, rfl, rfl, SqT.of hb, at_n 0 rfl, ?_⟩
      have n4 : ¬ w0 = "machine" ∧ ¬ w0 = "local" ∧ ¬ w0 = "set" ∧ ¬ w0 = "use" := by
        rcases hw with rfl | rfl <;> decide +kernel
      have no : ∀ {z : Str}, ¬ w0 = z → ¬ decide (V.str w0 = V.str z) = true := fun h e => h (V.str.inj (of_decide_eq_true e))
      refine ⟨_, rfl, rfl, _, rfl, ite2 (fun h => absurd h (no n4.1)) (fun _ => ?_)⟩
      refine ⟨_, rfl, rfl, _, rfl, ite2 (fun h => absurd h (no n4.2.1)) (fun _ => ?_)⟩
      refine ⟨_, rfl, rfl, _, rfl, ite2 (fun h => absurd h (no n4.2.2.1)) (fun _ => ?_)⟩
      refine ⟨_, rfl, rfl, _, rfl, ite2 (fun h => absurd h (no n4.2.2.2)) (fun _ => ?_)⟩
      refine ⟨_, rfl, sl 1, fun l1 n1 => ?_⟩
      have s1 := same_new (o := .lst [V.str w0]) n1
      have h1 : SL (upd H l1 (.lst [V.str w0])) l1 ([w0] : List Str) := upd_same
      refine ⟨_, rfl, b, _, _, _, rfl, rfl, SqT.of (s1 _ _ hb), at_n 1 rfl, rEx.one (Td.mono (TS.of s1) _ _ hev) he (by omega) fun p2 H2 s2 h2 => ?_⟩
      refine catB (h1.same s2) h2 (by simp only [List.length_append, List.length_cons, List.length_nil]; omega) fun p3 H3 s3 h3 => ?_
      refine ⟨sl 1, fun l4 n4 => ?_⟩
      have s4 := same_new (o := .lst [V.str ";"]) n4
      exact catB (h3.same s4) (us := [";"]) upd_same (by simp only [List.length_append, List.length_cons, List.length_nil]; omega) fun p5 H5 s5 h5 => q p5 H5 ((((s1.trans s2).trans s3).trans s4).trans s5) h5

end

theorem Parts.wr {H : Hp} {D : Addr} {acc acc0 : List V} {tss tss0 : List (List Str)} {zs : List V} (h : Parts H acc tss) (hD : H D = some (.lst acc0)) (h0 : Parts H acc0 tss0) (ne : ∀ t ∈ tss, t ≠ []) : Parts (upd H D (.lst zs)) acc tss := by
  induction acc generalizing tss with
  | nil =>
    cases tss with
    | nil => trivial
    | cons _ _ => exact h.elim
  | cons v r ih =>
    cases tss with
    | nil => exact h.elim
    | cons t ts =>
      obtain ⟨⟨a, e, ha⟩, h2⟩ := h
      refine ⟨⟨a, e, ?_⟩, ih h2 fun t ht => ne t (List.mem_cons_of_mem _ ht)⟩
      refine upd_else ha ?_
      rintro rfl
      have e2 : acc0 = t.map V.str := by injection (Option.some.inj (hD.symm.trans ha))
      have tn := ne t List.mem_cons_self
      cases t with
      | nil => exact tn rfl
      | cons z zr =>
        cases acc0 with
        | nil => cases e2
        | cons v0 r0 =>
          cases tss0 with
          | nil => exact h0.elim
          | cons t0 r0' =>
            obtain ⟨⟨b, rfl, _⟩, _⟩ := h0
            rw [List.map_cons] at e2
            injection e2 with e2 _
            cases e2
theorem Parts.app {H : Hp} {a b : List V} {s t : List (List Str)} (h : Parts H a s) (k : Parts H b t) : Parts H (a ++ b) (s ++ t) := All2.app h k
theorem flat_part {tss : List (List Str)} {n : Nat} (h : tss.flatten.length ≤ n) {t : List Str} (ht : t ∈ tss) : t.length ≤ n := Nat.le_trans (flat_mem ht) h
section
variable {P : Program} {w : World} {K : PySem.W.Frag} {mg : Str → Option Value} {base : Heap}
theorem rec_state (T : Tx K mg w) (m : Nat) (hm : m ≤ 3) (ihI : FnOk P w K mg base CX0 (125 + 2 * m) T.f_item_tokens T.fd_item_tokens ["item"] (sp1 (rTok (IT m)))) : FnOk P w K mg base CX0 (126 + 2 * m) T.f_state_tokens T.fd_state_tokens ["state"] (sp1 (rTok (STt (IT m)))) := by
  rw [show 126 + 2 * m = (125 + 2 * m) + 1 by omega]
  refine okR1 T.F_state_tokens sc_state_tokens rfl fun cdv A outer s H Q EE x hr h => ?_
  obtain ⟨d, ts, hx, ⟨n, un, it, un2, ut, iu, ut2, on, h1, h2, h3, l1, l2, l3, rfl, rfl⟩, len, q⟩ := h
  refine ⟨_, pss_cons (ps_asg (pv 0) (pg_tup rfl (pgs_cons (pg_name (i := 1) sc_state_tokens.nd rfl (Or.inl rfl)) (pgs_cons (pg_name (i := 2) sc_state_tokens.nd rfl (Or.inl rfl)) (pgs_cons (pg_name (i := 3) sc_state_tokens.nd rfl (Or.inl rfl)) (pgs_cons (pg_name (i := 4) sc_state_tokens.nd rfl (Or.inl rfl)) pgs_nil))))))
      (pss_cons (ps_setLc (i := 5) (own := [("turn", 6)]) (g := gName 6) (tt := tYes) rfl sc_state_tokens.nd rfl rfl (sw_true rfl rfl rfl (by decide +kernel)) (pi_tup (pv 2)) (blkOk_by (N := ["state", "name", "unless", "items", "until", "parts", "turn", "item"]) (sc := defScope s_state_tokens) (by decide +kernel)) (fun _ _ _ _ _ => pg_name (i := 6) sc_state_tokens.nd rfl (Or.inl rfl)) (fun _ _ _ _ _ => pts_nil) (fun _ _ _ _ _ => (pe_call (ok_turn_tokens T) (hr.mono (by omega)) rfl T.m_turn_tokens T.F_turn_tokens.kp T.b_turn_tokens .nil pass0 (pa_cons pe_str (pa_cons (pv 6) pa_nil)))))
      (pss_cons (ps_expr (pe_bm PySem.F.plainAttrs_list PySem.F.slot_list_extend PySem.F.type_list_extend mt_extend (pv 5) (pa_cons (pe_lc (own := [("item", 7)]) (g := gName 7) (tt := tYes) rfl sc_state_tokens.nd (pi_tup (pv 3)) (blkOk_by (N := ["state", "name", "unless", "items", "until", "parts", "turn", "item"]) (sc := defScope s_state_tokens) (by decide +kernel)) (fun _ _ _ _ _ => pg_name (i := 7) sc_state_tokens.nd rfl (Or.inl rfl)) (fun _ _ _ _ _ => pts_nil) (fun _ _ _ _ _ => (pe_call ihI (hr.mono (by omega)) rfl T.m_item_tokens T.F_item_tokens.kp T.b_item_tokens .nil pass0 (pa_cons (pv 7) pa_nil)))) pa_nil)))
      (pss_cons (ps_expr (pe_bm PySem.F.plainAttrs_list PySem.F.slot_list_extend PySem.F.type_list_extend mt_extend (pv 5) (pa_cons (pe_lc (own := [("turn", 6)]) (g := gName 6) (tt := tYes) rfl sc_state_tokens.nd (pi_tup (pv 4)) (blkOk_by (N := ["state", "name", "unless", "items", "until", "parts", "turn", "item"]) (sc := defScope s_state_tokens) (by decide +kernel)) (fun _ _ _ _ _ => pg_name (i := 6) sc_state_tokens.nd rfl (Or.inl rfl)) (fun _ _ _ _ _ => pts_nil) (fun _ _ _ _ _ => (pe_call (ok_turn_tokens T) (hr.mono (by omega)) rfl T.m_turn_tokens T.F_turn_tokens.kp T.b_turn_tokens .nil pass0 (pa_cons pe_str (pa_cons (pv 6) pa_nil))))) pa_nil)))
      (pss_one (ps_ret (pe_op op_cat (pe_lst (pa_cons pe_str (pa_cons (pv 1) pa_nil))) (pe_call (ok_block T) (hr.mono (by omega)) rfl T.m_block T.F_block.kp T.b_block .nil pass0 (pa_cons (pv 5) pa_nil)))))))), ?_⟩
  obtain ⟨b, xs, rfl, hb, _, _, rfl, rfl, v1, _, rfl, ⟨b1, ys1, rfl, hb1, hy1⟩, v2, _, rfl, ⟨b2, ys2, rfl, hb2, hy2⟩, v3, _, rfl, ⟨b3, ys3, rfl, hb3, hy3⟩, rfl⟩ := id hx
  refine ⟨_, rfl, b, _, rfl, SqT.of hb, rfl, _, _, rfl, _, _, rfl, _, _, rfl, _, _, rfl, rfl, ?_⟩
  have lfl : (ut ++ iu ++ ut2).flatten.length ≤ 3000000 := by
    simp only [List.length_append, List.length_cons, List.length_nil] at len ⊢
    omega
  have lpart : ∀ t ∈ ut ++ iu ++ ut2, t.length ≤ 3000000 := fun t ht => flat_part lfl ht
  refine ⟨_, rfl, b1, rfl, ⟨_, SqT.of hb1⟩, fun D hD => comp_parts hb1 hD hy1 h1 (by omega) (fun d t h => h.ne) ?_ ?_⟩
  · rintro x d t H4 C C2 hx4 htt _ s4 k
    exact ⟨rfl, yes ⟨_, rfl, _, _, rfl, "unless", d, t, rfl, hx4, htt, k⟩⟩
  · intro H1 acc1 s1 hD1 hp1
    have newD : ∀ b o, H b = some o → b ≠ D := fun b o e => ne_of_none e hD
    have lp1 := All2.len hp1
    have lu1 := All2.len h1
    refine ⟨_, rfl, .inl ⟨rfl, _, SqL.of hD1⟩, _, rfl, b2, rfl, ⟨_, SqT.of (s1 _ _ hb2)⟩, fun D2 hD2 => comp_parts (s1 _ _ hb2) hD2 (TdAll.mono (TS.of s1) _ _ hy2) h2 (by omega) (fun d t h => h.ne) ?_ ?_⟩
    · rintro x d t H4 C C2 hx4 htt htm s4 k
      exact ⟨rfl, yes ⟨_, rfl, _, rfl, d, t, hx4, htt, lpart t (by simp [htm]), k⟩⟩
    · intro H2 acc2 s2 hD2' hp2
      have lp2 := All2.len hp2
      have lu2 := All2.len h2
      have ne1 : ∀ t ∈ ut, t ≠ [] := fun t ht => by
        obtain ⟨_, _, h⟩ := All2.mem h1 ht
        exact h.ne
      have ne2 : ∀ t ∈ iu, t ≠ [] := fun t ht => by
        obtain ⟨_, _, h⟩ := All2.mem h2 ht
        exact h.ne
      have hD12 := s2 _ _ hD1
      have hp12 := hp1.same s2
      refine ⟨D, D2, _, _, rfl, rfl, hD12, hD2', by rw [sizeLine_eq]; omega, ?_⟩
      have pp : Parts (upd H2 D (.lst (acc1 ++ acc2))) (acc1 ++ acc2) (ut ++ iu) := (hp12.wr hD12 hp12 ne1).app (hp2.wr hD12 hp12 ne2)
      have hD3 := upd_same (H := H2) (a := D) (o := .lst (acc1 ++ acc2))
      have s3 : Same H (upd H2 D (.lst (acc1 ++ acc2))) := fun b o e => upd_else (s2 _ _ (s1 _ _ e)) (newD b o e)
      generalize upd H2 D (.lst (acc1 ++ acc2)) = H3 at pp hD3 s3 ⊢
      refine ⟨_, rfl, .inl ⟨rfl, _, SqL.of hD3⟩, _, rfl, b3, rfl, ⟨_, SqT.of (s3 _ _ hb3)⟩, fun D4 hD4 => comp_parts (s3 _ _ hb3) hD4 (TdAll.mono (TS.of s3) _ _ hy3) h3 (by omega) (fun d t h => h.ne) ?_ ?_⟩
      · rintro x d t H4 C C2 hx4 htt _ s4 k
        exact ⟨rfl, yes ⟨_, rfl, _, _, rfl, "until", d, t, rfl, hx4, htt, k⟩⟩
      · intro H4 acc4 s4 hD4' hp4
        have lp4 := All2.len hp4
        have lu4 := All2.len h3
        have ne4 : ∀ t ∈ ut2, t ≠ [] := fun t ht => by
          obtain ⟨_, _, h⟩ := All2.mem h3 ht
          exact h.ne
        have hD34 := s4 _ _ hD3
        have pp4 := pp.same s4
        refine ⟨D, D4, _, _, rfl, rfl, hD34, hD4', by rw [List.length_append, sizeLine_eq]; omega, ?_⟩
        have pq : Parts (upd H4 D (.lst (acc1 ++ acc2 ++ acc4))) (acc1 ++ acc2 ++ acc4) (ut ++ iu ++ ut2) := (pp4.wr hD34 pp4 fun t ht => by
          rcases List.mem_append.mp ht with ht | ht
          · exact ne1 t ht
          · exact ne2 t ht).app (hp4.wr hD34 pp4 ne4)
        have hD5 := upd_same (H := H4) (a := D) (o := .lst (acc1 ++ acc2 ++ acc4))
        have s5 : Same H (upd H4 D (.lst (acc1 ++ acc2 ++ acc4))) := fun b o e => upd_else (s4 _ _ (s3 _ _ e)) (newD b o e)
        generalize upd H4 D (.lst (acc1 ++ acc2 ++ acc4)) = H5 at pq hD5 s5 ⊢
        refine ⟨_, rfl, sl 2, fun l6 n6 => ?_⟩
        have s6 := same_new (o := .lst [V.str "state", V.str n]) n6
        have h6 : SL (upd H5 l6 (.lst [V.str "state", V.str n])) l6 (["state", n] : List Str) := upd_same
        refine ⟨_, rfl, _, rfl, D, _, _, rfl, s6 _ _ hD5, pq.same s6, by omega, fun p7 H7 s7 h7 => ?_⟩
        exact catB (h6.same s7) h7 (by simp only [List.length_append, List.length_cons, List.length_nil] at *; omega) fun p8 H8 s8 h8 => q p8 H8 (((s5.trans s6).trans s7).trans s8) h8
theorem rec_item (T : Tx K mg w) (m : Nat) (hm : m ≤ 3) (ihS : FnOk P w K mg base CX0 (126 + 2 * m) T.f_state_tokens T.fd_state_tokens ["state"] (sp1 (rTok (STt (IT m))))) : FnOk P w K mg base CX0 (125 + 2 * (m + 1)) T.f_item_tokens T.fd_item_tokens ["item"] (sp1 (rTok (IT (m + 1)))) := by
  rw [show 125 + 2 * (m + 1) = (126 + 2 * m) + 1 by omega]
  refine okR1 T.F_item_tokens sc_item_tokens rfl fun cdv A outer s H Q EE x hr h => ?_
  obtain ⟨d, ts, hx, hb0, len, q⟩ := h
  refine ⟨_, pss_cons (ps_set (i := 1) sc_item_tokens.nd rfl (Or.inl rfl) (pe_ix ix_tup (pv 0) pe_int (fun _ _ => rfl)))
      (pss_cons (ps_if (pt_cmpR op_eq (pv 1) pe_str (nomark _)) (pss_one (ps_ret (pe_op op_cat (pe_lst (pa_cons pe_str (pa_cons (pe_ix ix_tup (pv 0) pe_int (fun _ _ => rfl)) pa_nil))) (pe_call (ok_block T) (hr.mono (by omega)) rfl T.m_block T.F_block.kp T.b_block .nil pass0 (pa_cons (pe_lc (own := [("state", 2)]) (g := gName 2) (tt := tYes) rfl sc_item_tokens.nd (pi_tup (pe_ix ix_tup (pv 0) pe_int (fun _ _ => rfl))) (blkOk_by (N := ["item", "word", "state"]) (sc := defScope s_item_tokens) (by decide +kernel)) (fun _ _ _ _ _ => pg_name (i := 2) sc_item_tokens.nd rfl (Or.inl rfl)) (fun _ _ _ _ _ => pts_nil) (fun _ _ _ _ _ => (pe_call ihS (hr.mono (by omega)) rfl T.m_state_tokens T.F_state_tokens.kp T.b_state_tokens .nil pass0 (pa_cons (pv 2) pa_nil)))) pa_nil))))) pss_nil)
      (pss_cons (ps_if (pt_cmpR op_eq (pv 1) pe_str (nomark _)) (pss_one (ps_ret (pe_op op_cat (pe_op op_cat (pe_lst (pa_cons pe_str pa_nil)) (pe_ifExp (pt_cmpR op_isN (pe_ix ix_tup (pv 0) pe_int (fun _ _ => rfl)) pe_non (nomark _)) (pe_lst (pa_cons (pe_ix ix_tup (pv 0) pe_int (fun _ _ => rfl)) pa_nil)) (pe_call (ok_p_declared T) (hr.mono (by omega)) rfl T.m_p_declared T.F_p_declared.kp T.b_p_declared .nil pass0 (pa_cons (pe_ix ix_tup (pv 0) pe_int (fun _ _ => rfl)) (pa_cons (pe_ix ix_tup (pv 0) pe_int (fun _ _ => rfl)) pa_nil))))) (pe_lst (pa_cons pe_str pa_nil))))) pss_nil)
      (pss_cons (ps_if (pt_cmpR op_eq (pv 1) pe_str (nomark _)) (pss_one (ps_ret (pe_op op_cat (pe_op op_cat (pe_lst (pa_cons (pe_ix ix_tup (pv 0) pe_int (fun _ _ => rfl)) (pa_cons pe_str pa_nil))) (pe_call (ok_expr_tokens T) (hr.mono (by omega)) rfl T.m_expr_tokens T.F_expr_tokens.kp T.b1_expr_tokens T.v1_expr_tokens pass0 (pa_cons (pe_ix ix_tup (pv 0) pe_int (fun _ _ => rfl)) pa_nil))) (pe_lst (pa_cons pe_str pa_nil))))) pss_nil)
      (pss_cons (ps_if (pt_cmpR op_eq (pv 1) pe_str (nomark _)) (pss_one (ps_ret (pe_call (ok_use_tokens T) (hr.mono (by omega)) rfl T.m_use_tokens T.F_use_tokens.kp T.b_use_tokens .nil pass0 (pa_cons (pv 0) pa_nil)))) pss_nil)
      (pss_one (ps_ret (pe_op op_cat (pe_op op_cat (pe_lst (pa_cons (pv 1) pa_nil)) (pe_call (ok_expr_tokens T) (hr.mono (by omega)) rfl T.m_expr_tokens T.F_expr_tokens.kp T.b1_expr_tokens T.v1_expr_tokens pass0 (pa_cons (pe_ix ix_tup (pv 0) pe_int (fun _ _ => rfl)) pa_nil))) (pe_lst (pa_cons pe_str pa_nil))))))))), ?_⟩
  rcases hb0 with hb0 | ⟨n, ss, us, on, ls, hss, rfl, rfl⟩
  · skip
    rcases hb0 with ⟨n, on, rfl, rfl⟩ | ⟨n, k, u, on, kt, rfl, rfl⟩ | ⟨n, e, u, on, ⟨⟨l, he⟩, hl⟩, rfl, rfl⟩ | hu | ⟨w0, e, u, hw, ⟨⟨l, he⟩, hl⟩, rfl, rfl⟩
    · obtain ⟨b, xs, rfl, hb, _, _, rfl, rfl, _, _, rfl, rfl, _, _, rfl, rfl, rfl⟩ := id hx
      refine ⟨_, rfl, b, _, _, _, rfl, rfl, SqT.of hb, at_n 0 rfl, ?_⟩
      refine ⟨_, rfl, rfl, _, rfl, iteF ?_⟩
      refine ⟨_, rfl, rfl, _, rfl, iteT ?_⟩
      refine ⟨sl 1, fun l1 n1 => ?_⟩
      have s1 := same_new (o := .lst [V.str "local"]) n1
      have h1 : SL (upd H l1 (.lst [V.str "local"])) l1 (["local"] : List Str) := upd_same
      refine ⟨_, rfl, b, _, _, _, rfl, rfl, SqT.of (s1 _ _ hb), at_n 2 rfl, rfl, _, rfl, iteT ?_⟩
      refine ⟨_, rfl, b, _, _, _, rfl, rfl, SqT.of (s1 _ _ hb), at_n 1 rfl, sl 1, fun l2 n2 => ?_⟩
      have s2 := same_new (o := .lst [V.str n]) n2
      have h2 : SL (upd (upd H l1 (.lst [V.str "local"])) l2 (.lst [V.str n])) l2 ([n] : List Str) := upd_same
      refine catB (h1.same s2) h2 (by simp) fun p3 H3 s3 h3 => ?_
      refine ⟨sl 1, fun l4 n4 => ?_⟩
      have s4 := same_new (o := .lst [V.str ";"]) n4
      exact catB (h3.same s4) (us := [";"]) upd_same (by simp) fun p5 H5 s5 h5 => q p5 H5 ((((s1.trans s2).trans s3).trans s4).trans s5) h5
    · have lk := KT.len kt
      obtain ⟨b, xs, rfl, hb, _, _, rfl, rfl, _, _, rfl, rfl, kv, _, rfl, hk, rfl⟩ := id hx
      obtain ⟨ka, rfl⟩ : ∃ a, kv = .ref a := by
        rcases KT.cases kt with hb1 | ⟨_, _, _, _, _, _, _, _, rfl, _⟩
        · rcases hb1 with ⟨rfl, _⟩ | ⟨_, _, rfl, _⟩ | ⟨_, _, _, _, rfl, _⟩ | ⟨_, _, _, _, _, _, _, _, _, rfl, _⟩
          · obtain ⟨a, _, e, _⟩ := hk; exact ⟨a, e⟩
          · obtain ⟨a, _, e, _⟩ := hk; exact ⟨a, e⟩
          · obtain ⟨a, _, e, _⟩ := hk; exact ⟨a, e⟩
          · obtain ⟨a, _, e, _⟩ := hk; exact ⟨a, e⟩
        · obtain ⟨a, _, e, _⟩ := hk; exact ⟨a, e⟩
      refine ⟨_, rfl, b, _, _, _, rfl, rfl, SqT.of hb, at_n 0 rfl, ?_⟩
      refine ⟨_, rfl, rfl, _, rfl, iteF ?_⟩
      refine ⟨_, rfl, rfl, _, rfl, iteT ?_⟩
      refine ⟨sl 1, fun l1 n1 => ?_⟩
      have s1 := same_new (o := .lst [V.str "local"]) n1
      have h1 : SL (upd H l1 (.lst [V.str "local"])) l1 (["local"] : List Str) := upd_same
      refine ⟨_, rfl, b, _, _, _, rfl, rfl, SqT.of (s1 _ _ hb), at_n 2 rfl, rfl, _, rfl, ite2 (fun h => absurd (of_decide_eq_true h) (fun z => by cases z)) (fun _ => ?_)⟩
      refine ⟨_, rfl, b, _, _, _, rfl, rfl, SqT.of (s1 _ _ hb), at_n 1 rfl, _, rfl, b, _, _, _, rfl, rfl, SqT.of (s1 _ _ hb), at_n 2 rfl, _, _, rfl, n, k, u, rfl, Td.mono (TS.of s1) _ _ hk, kt, fun p2 H2 s2 h2 => ?_⟩
      refine catB (h1.same s2) h2 (by simp only [List.length_append, List.length_cons, List.length_nil]; omega) fun p3 H3 s3 h3 => ?_
      refine ⟨sl 1, fun l4 n4 => ?_⟩
      have s4 := same_new (o := .lst [V.str ";"]) n4
      exact catB (h3.same s4) (us := [";"]) upd_same (by simp only [List.length_append, List.length_cons, List.length_nil]; omega) fun p5 H5 s5 h5 => q p5 H5 ((((s1.trans s2).trans s3).trans s4).trans s5) h5
    · obtain ⟨b, xs, rfl, hb, _, _, rfl, rfl, _, _, rfl, rfl, ev, _, rfl, hev, rfl⟩ := id hx
      refine ⟨_, rfl, b, _, _, _, rfl, rfl, SqT.of hb, at_n 0 rfl, ?_⟩
      refine ⟨_, rfl, rfl, _, rfl, iteF ?_⟩
      refine ⟨_, rfl, rfl, _, rfl, iteF ?_⟩
      refine ⟨_, rfl, rfl, _, rfl, iteT ?_⟩
      refine ⟨_, rfl, b, _, _, _, rfl, rfl, SqT.of hb, at_n 1 rfl, sl 2, fun l1 n1 => ?_⟩
      have s1 := same_new (o := .lst [V.str n, V.str "="]) n1
      have h1 : SL (upd H l1 (.lst [V.str n, V.str "="])) l1 ([n, "="] : List Str) := upd_same
      refine ⟨_, rfl, b, _, _, _, rfl, rfl, SqT.of (s1 _ _ hb), at_n 2 rfl, rEx.one (Td.mono (TS.of s1) _ _ hev) he (by omega) fun p2 H2 s2 h2 => ?_⟩
      refine catB (h1.same s2) h2 (by simp only [List.length_append, List.length_cons, List.length_nil]; omega) fun p3 H3 s3 h3 => ?_
      refine ⟨sl 1, fun l4 n4 => ?_⟩
      have s4 := same_new (o := .lst [V.str ";"]) n4
      exact catB (h3.same s4) (us := [";"]) upd_same (by simp only [List.length_append, List.length_cons, List.length_nil]; omega) fun p5 H5 s5 h5 => q p5 H5 ((((s1.trans s2).trans s3).trans s4).trans s5) h5
    · have hu2 := hu
      obtain ⟨ns, un, as, us, ev, vs, on, nne, nl, ou, hus, ane, al, hev, rfl, rfl⟩ := hu
      obtain ⟨b, xs, rfl, hb, _, r, rfl, rfl, hr'⟩ := id hx
      refine ⟨_, rfl, b, _, _, _, rfl, rfl, SqT.of hb, at_n 0 rfl, ?_⟩
      refine ⟨_, rfl, rfl, _, rfl, iteF ?_⟩
      refine ⟨_, rfl, rfl, _, rfl, iteF ?_⟩
      refine ⟨_, rfl, rfl, _, rfl, iteF ?_⟩
      refine ⟨_, rfl, rfl, _, rfl, iteT ?_⟩
      exact ⟨_, rfl, _, rfl, _, _, hx, hu2, len, q⟩
    · obtain ⟨b, xs, rfl, hb, _, _, rfl, rfl, ev, _, rfl, hev, rfl⟩ := id hx
      refine ⟨_, rfl, b, _, _, _, rfl, rfl, SqT.of hb, at_n 0 rfl, ?_⟩
      have n4 : ¬ w0 = "machine" ∧ ¬ w0 = "local" ∧ ¬ w0 = "set" ∧ ¬ w0 = "use" := by
        rcases hw with rfl | rfl <;> decide +kernel
      have no : ∀ {z : Str}, ¬ w0 = z → ¬ decide (V.str w0 = V.str z) = true := fun h e => h (V.str.inj (of_decide_eq_true e))
      refine ⟨_, rfl, rfl, _, rfl, ite2 (fun h => absurd h (no n4.1)) (fun _ => ?_)⟩
      refine ⟨_, rfl, rfl, _, rfl, ite2 (fun h => absurd h (no n4.2.1)) (fun _ => ?_)⟩
      refine ⟨_, rfl, rfl, _, rfl, ite2 (fun h => absurd h (no n4.2.2.1)) (fun _ => ?_)⟩
      refine ⟨_, rfl, rfl, _, rfl, ite2 (fun h => absurd h (no n4.2.2.2)) (fun _ => ?_)⟩
      refine ⟨_, rfl, sl 1, fun l1 n1 => ?_⟩
      have s1 := same_new (o := .lst [V.str w0]) n1
      have h1 : SL (upd H l1 (.lst [V.str w0])) l1 ([w0] : List Str) := upd_same
      refine ⟨_, rfl, b, _, _, _, rfl, rfl, SqT.of (s1 _ _ hb), at_n 1 rfl, rEx.one (Td.mono (TS.of s1) _ _ hev) he (by omega) fun p2 H2 s2 h2 => ?_⟩
      refine catB (h1.same s2) h2 (by simp only [List.length_append, List.length_cons, List.length_nil]; omega) fun p3 H3 s3 h3 => ?_
      refine ⟨sl 1, fun l4 n4 => ?_⟩
      have s4 := same_new (o := .lst [V.str ";"]) n4
      exact catB (h3.same s4) (us := [";"]) upd_same (by simp only [List.length_append, List.length_cons, List.length_nil]; omega) fun p5 H5 s5 h5 => q p5 H5 ((((s1.trans s2).trans s3).trans s4).trans s5) h5

  · obtain ⟨b, xs, rfl, hb, _, _, rfl, rfl, _, _, rfl, rfl, sv, _, rfl, ⟨b1, ys, rfl, hb1, hy⟩, rfl⟩ := id hx
    have lfl : us.flatten.length ≤ 3000000 := by
      simp only [List.length_append, List.length_cons, List.length_nil] at len ⊢
      omega
    refine ⟨_, rfl, b, _, _, _, rfl, rfl, SqT.of hb, at_n 0 rfl, ?_⟩
    refine ⟨_, rfl, rfl, _, rfl, iteT ?_⟩
    refine ⟨_, rfl, b, _, _, _, rfl, rfl, SqT.of hb, at_n 1 rfl, sl 2, fun l1 n1 => ?_⟩
    have s1 := same_new (o := .lst [V.str "machine", V.str n]) n1
    have h1 : SL (upd H l1 (.lst [V.str "machine", V.str n])) l1 (["machine", n] : List Str) := upd_same
    refine ⟨_, rfl, b, _, _, _, rfl, rfl, SqT.of (s1 _ _ hb), at_n 2 rfl, b1, rfl, ⟨_, SqT.of (s1 _ _ hb1)⟩, fun D hD => comp_parts (s1 _ _ hb1) hD (TdAll.mono (TS.of s1) _ _ hy) hss (by omega) (fun d t h => h.ne) ?_ ?_⟩
    · rintro x d t H4 C C2 hx4 htt htm s4 k
      exact ⟨rfl, yes ⟨_, rfl, _, rfl, d, t, hx4, htt, flat_part lfl htm, k⟩⟩
    · intro H2 acc s2 hD2 hps
      refine ⟨_, rfl, D, acc, us, rfl, hD2, hps, by omega, fun p3 H3 s3 h3 => ?_⟩
      exact catB ((h1.same s2).same s3) h3 (by simp only [List.length_append, List.length_cons, List.length_nil] at *; omega) fun p4 H4 s4 h4 => q p4 H4 (((s1.trans s2).trans s3).trans s4) h4
theorem item_all (T : Tx K mg w) : ∀ m, m ≤ 3 → FnOk P w K mg base CX0 (125 + 2 * m) T.f_item_tokens T.fd_item_tokens ["item"] (sp1 (rTok (IT m)))
  | 0, _ => item_base T
  | m + 1, h => rec_item T m (by omega) (rec_state T m (by omega) (item_all T m (by omega)))
theorem ok_item_tokens (T : Tx K mg w) : FnOk P w K mg base CX0 129 T.f_item_tokens T.fd_item_tokens ["item"] (sp1 (rTok (IT 2))) := item_all T 2 (by decide)
end

theorem join0_cons (x : Str) (r : List Str) : Txt.join "" (x :: r) = x ++ Txt.join "" r := by
  have e0 : ("" : Str) = Str.empty := by decide +kernel
  rw [TL.join_eq, TL.join_eq, e0]
  cases r with
  | nil => exact (Str.append_empty x).symm
  | cons y r =>
    show x ++ Str.empty ++ Str.join Str.empty (y :: r) = _
    rw [Str.append_empty]
def gapped (ts : List Str) : Str := Txt.join "" (ts.map fun t => t ++ gapS t)
theorem gapped_flat (ts : List Str) : Txt.join "" (ts.map fun t => [t, gapS t]).flatten = gapped ts := by
  unfold gapped
  induction ts with
  | nil => rfl
  | cons t r ih =>
    rw [List.map_cons, List.map_cons, List.flatten_cons]
    show Txt.join "" (t :: gapS t :: (r.map fun t => [t, gapS t]).flatten) = _
    rw [join0_cons, join0_cons, join0_cons, ih, Str.append_assoc]
theorem gap_len (t : Str) : (gapS t).length ≤ 1 := by
  unfold gapS
  split <;> decide +kernel
theorem com_bound {us : List (List Str)} {n : Nat} (h : ∀ t ∈ us, t.length ≤ n) : (comL us).length ≤ (n + 1) * us.length := by
  cases us with
  | nil => exact Nat.le_refl _
  | cons t r =>
    show (t ++ (r.map fun u => ("," : Str) :: u).flatten).length ≤ _
    have h2 : ∀ r : List (List Str), (∀ t ∈ r, t.length ≤ n) → ((r.map fun u => ("," : Str) :: u).flatten).length ≤ (n + 1) * r.length := by
      intro r
      induction r with
      | nil => intro _; exact Nat.le_refl _
      | cons a r ih =>
        intro h
        have := ih fun t ht => h t (List.mem_cons_of_mem _ ht)
        have h3 := h a List.mem_cons_self
        rw [List.map_cons, List.flatten_cons, List.length_append, List.length_cons, List.length_cons, Nat.mul_succ]
        omega
    have h4 := h2 r fun t ht => h t (List.mem_cons_of_mem _ ht)
    have h5 := h t List.mem_cons_self
    rw [List.length_append, List.length_cons, Nat.mul_succ]
    omega
theorem tk.flat {tss : List (List Str)} (h : ∀ t ∈ tss, tk t) : tk tss.flatten := fun s hs => by
  obtain ⟨t, ht, hs⟩ := List.mem_flatten.mp hs
  exact h t ht s hs
theorem tk.all2 {R : PyData → List Str → Prop} {ds : List PyData} {tss : List (List Str)} (h : All2 R ds tss) (k : ∀ d t, R d t → tk t) : ∀ t ∈ tss, tk t := fun t ht => by
  obtain ⟨d, _, hr⟩ := All2.mem h ht
  exact k d t hr
theorem tk.brace {ts : List Str} (h : tk ts) : tk ((["{"] : List Str) ++ ts ++ (["}"] : List Str)) := (tk.app (tk.cons (by decide +kernel) tk.nil) h).app (tk.cons (by decide +kernel) tk.nil)
theorem tk.semi {ts : List Str} (h : tk ts) : tk (ts ++ ([";"] : List Str)) := h.app (tk.cons (by decide +kernel) tk.nil)
theorem tk.nm {s : Str} (h : okN s) : s.length ≤ 12 := h
theorem EX.tk {e : PyData} {u : List Str} (h : EX e u) : tk u := by
  obtain ⟨⟨l, h⟩, _⟩ := h
  exact ET.tk h
theorem TT.tk {w : Str} {d : PyData} {ts : List Str} (hw : w.length ≤ 12) (h : TT w d ts) : tk ts := by
  obtain ⟨e, u, how, n, he, oh, on, _, rfl⟩ := h
  exact ((tk.cons hw tk.nil).app he.tk).app (tk.cons oh (tk.cons on (tk.cons (by decide +kernel) tk.nil)))
theorem STt.tk {R : PyData → List Str → Prop} (k : ∀ d t, R d t → My.tk t) {d : PyData} {ts : List Str} (h : STt R d ts) : tk ts := by
  obtain ⟨n, un, it, un2, ut, iu, ut2, on, h1, h2, h3, _, _, _, _, rfl⟩ := h
  refine (tk.cons (by decide +kernel) (tk.cons on tk.nil)).app (tk.brace (tk.flat fun t ht => ?_))
  rcases List.mem_append.mp ht with ht | ht
  · rcases List.mem_append.mp ht with ht | ht
    · exact tk.all2 h1 (fun d t h => TT.tk (by decide +kernel) h) t ht
    · exact tk.all2 h2 k t ht
  · exact tk.all2 h3 (fun d t h => TT.tk (by decide +kernel) h) t ht
theorem UseT.tk {d : PyData} {ts : List Str} (h : UseT d ts) : tk ts := by
  obtain ⟨ns, un, as, us, ev, vs, on, nne, nl, ou, hus, ane, al, hev, _, rfl⟩ := h
  have k1 : My.tk vs := by
    rcases hev with ⟨_, rfl⟩ | ⟨v, h, _, rfl⟩
    · exact tk.nil
    · exact (tk.cons (by decide +kernel) tk.nil).app h.tk
  refine tk.semi ((((tk.app (tk.cons (by decide +kernel) tk.nil) (tk.com fun t ht => ?_)).app (tk.cons (by decide +kernel) (tk.cons ou tk.nil))).app (((tk.cons (by decide +kernel) tk.nil).app (tk.com (tk.all2 hus fun _ _ h => h.tk))).app (tk.cons (by decide +kernel) tk.nil))).app k1)
  obtain ⟨s, hs, rfl⟩ := List.mem_map.mp ht
  exact tk.cons (on s hs) tk.nil
theorem DeclT.tk {d : PyData} {ts : List Str} (h : DeclT d ts) : tk ts := by
  obtain ⟨n, k, u, on, kt, _, rfl⟩ := h
  exact (tk.cons on (tk.cons (by decide +kernel) tk.nil)).app (KT.tk kt)
theorem InT.tk {d : PyData} {ts : List Str} (h : InT d ts) : tk ts := by
  obtain ⟨n, k, u, ev, on, kt, _, _, rfl⟩ := h
  refine tk.app ?_ ((tk.cons on (tk.cons (by decide +kernel) tk.nil)).app (KT.tk kt))
  split
  · exact tk.cons (by decide +kernel) tk.nil
  · exact tk.nil
theorem IB.tk {d : PyData} {ts : List Str} (h : IB d ts) : tk ts := by
  rcases h with ⟨n, on, _, rfl⟩ | ⟨n, k, u, on, kt, _, rfl⟩ | ⟨n, e, u, on, he, _, rfl⟩ | h | ⟨w, e, u, hw, he, _, rfl⟩
  · exact tk.cons (by decide +kernel) (tk.cons on (tk.cons (by decide +kernel) tk.nil))
  · exact tk.semi ((tk.cons (by decide +kernel) tk.nil).app ((tk.cons on (tk.cons (by decide +kernel) tk.nil)).app (KT.tk kt)))
  · exact tk.semi ((tk.cons on (tk.cons (by decide +kernel) tk.nil)).app he.tk)
  · exact h.tk
  · exact tk.semi ((tk.cons (by rcases hw with rfl | rfl <;> decide +kernel) tk.nil).app he.tk)
theorem IT.tk : ∀ {m : Nat} {d : PyData} {ts : List Str}, IT m d ts → tk ts
  | 0, _, _, h => IB.tk h
  | m + 1, _, _, h => by
    rcases h with h | ⟨n, ss, us, on, _, h, _, rfl⟩
    · exact h.tk
    · exact (tk.cons (by decide +kernel) (tk.cons on tk.nil)).app (tk.brace (tk.flat (tk.all2 h fun _ _ h => STt.tk (fun _ _ h => IT.tk h) h)))
theorem UnitT.tk {d : PyData} {ts : List Str} (h : UnitT d ts) : tk ts := by
  obtain ⟨n, ins, outs, items, iu, ou, tu, on, h1, h2, h3, _, _, _, _, rfl⟩ := h
  refine tk.app (tk.app (tk.app (tk.app (tk.cons (by decide +kernel) (tk.cons on (tk.cons (by decide +kernel) tk.nil))) (tk.com (tk.all2 h1 fun _ _ h => h.tk))) (tk.cons (by decide +kernel) tk.nil)) ?_) (tk.brace (tk.flat (tk.all2 h3 fun _ _ h => IT.tk h)))
  exact ((tk.cons (by decide +kernel) (tk.cons (by decide +kernel) tk.nil)).app (tk.com (tk.all2 h2 fun _ _ h => h.tk))).app (tk.cons (by decide +kernel) tk.nil)
theorem NKT.tk {d : PyData} {ts : List Str} (h : NKT d ts) : tk ts := by
  obtain ⟨n, k, u, on, kt, _, rfl⟩ := h
  exact tk.semi ((tk.cons (by decide +kernel) (tk.cons on (tk.cons (by decide +kernel) tk.nil))).app (KT.tk kt))
theorem ProgT.tk {d : PyData} {ts : List Str} (h : ProgT d ts) : tk ts := by
  obtain ⟨ks, us, kt, ut, h1, h2, _, _, _, rfl⟩ := h
  exact (tk.flat (tk.all2 h1 fun _ _ h => h.tk)).app (tk.flat (tk.all2 h2 fun _ _ h => h.tk))
theorem gap_sum {ts : List Str} (h : tk ts) (l : ts.length ≤ 1200000) : (((ts.map fun t => t ++ gapS t)).map (·.length)).sum + (ts.map fun t => t ++ gapS t).length * ("" : Str).length ≤ 16777216 := by
  have e0 : ("" : Str).length = 0 := by decide +kernel
  have : ∀ ts : List Str, tk ts → ((ts.map fun t => t ++ gapS t).map (·.length)).sum ≤ 13 * ts.length := by
    intro ts
    induction ts with
    | nil => intro _; exact Nat.le_refl _
    | cons t r ih =>
      intro h
      have h1 := h t List.mem_cons_self
      have h2 := ih fun s hs => h s (List.mem_cons_of_mem _ hs)
      have h3 := gap_len t
      rw [List.map_cons, List.map_cons, List.sum_cons, List.length_cons, app_len]
      omega
  have := this ts h
  rw [e0]
  omega
def rProg : V → Hp → VK → Prop := fun x H Q => ∃ (d : PyData) (ts : List Str), Td H d x ∧ ProgT d ts ∧ ts.length ≤ 1200000 ∧ ∀ H' : Hp, Same H H' → Q (.str (gapped ts)) H'
section
variable {P : Program} {w : World} {K : PySem.W.Frag} {mg : Str → Option Value} {base : Heap}
theorem ok_unit_tokens (T : Tx K mg w) : FnOk P w K mg base CX0 130 T.f_unit_tokens T.fd_unit_tokens ["unit"] (sp1 (rTok UnitT)) := by
  refine okR1 T.F_unit_tokens sc_unit_tokens rfl fun cdv A outer s H Q EE x hr h => ?_
  obtain ⟨d, ts, hx, ⟨n, ins, outs, items, iu, ou, tu, on, h1, h2, h3, l1, l2, l3, rfl, rfl⟩, len, q⟩ := h
  refine ⟨_, pss_cons (ps_asg (pv 0) (pg_tup rfl (pgs_cons (pg_name (i := 1) sc_unit_tokens.nd rfl (Or.inl rfl)) (pgs_cons (pg_name (i := 2) sc_unit_tokens.nd rfl (Or.inl rfl)) (pgs_cons (pg_name (i := 3) sc_unit_tokens.nd rfl (Or.inl rfl)) (pgs_cons (pg_name (i := 4) sc_unit_tokens.nd rfl (Or.inl rfl)) (pgs_cons (pg_name (i := 5) sc_unit_tokens.nd rfl (Or.inl rfl)) pgs_nil)))))))
      (pss_cons (ps_set (i := 6) sc_unit_tokens.nd rfl (Or.inl rfl) (pe_op op_cat (pe_op op_cat (pe_lst (pa_cons pe_str (pa_cons (pv 2) (pa_cons pe_str pa_nil)))) (pe_call (ok_listed T) (hr.mono (by decide)) rfl T.m_listed T.F_listed.kp T.b_listed .nil pass0 (pa_cons (pe_lc (own := [("each", 7)]) (g := gName 7) (tt := tYes) rfl sc_unit_tokens.nd (pi_tup (pv 3)) (blkOk_by (N := ["unit", "_", "name", "ins", "outs", "items", "tokens", "each", "out", "kind", "item"]) (sc := defScope s_unit_tokens) (by decide +kernel)) (fun _ _ _ _ _ => pg_name (i := 7) sc_unit_tokens.nd rfl (Or.inl rfl)) (fun _ _ _ _ _ => pts_nil) (fun _ _ _ _ _ => (pe_call (ok_in_tokens T) (hr.mono (by decide)) rfl T.m_in_tokens T.F_in_tokens.kp T.b_in_tokens .nil pass0 (pa_cons (pv 7) pa_nil)))) pa_nil))) (pe_lst (pa_cons pe_str pa_nil))))
      (pss_cons (ps_expr (pe_bm PySem.F.plainAttrs_list PySem.F.slot_list_extend PySem.F.type_list_extend mt_extend (pv 6) (pa_cons (pe_op op_cat (pe_op op_cat (pe_lst (pa_cons pe_str (pa_cons pe_str pa_nil))) (pe_call (ok_listed T) (hr.mono (by decide)) rfl T.m_listed T.F_listed.kp T.b_listed .nil pass0 (pa_cons (pe_lc (own := [("out", 8), ("kind", 9)]) (g := (gTup K 2 (gCons (gName 8) (gCons (gName 9) gNil)))) (tt := tYes) rfl sc_unit_tokens.nd (pi_tup (pv 4)) (blkOk_by (N := ["unit", "_", "name", "ins", "outs", "items", "tokens", "each", "out", "kind", "item"]) (sc := defScope s_unit_tokens) (by decide +kernel)) (fun _ _ _ _ _ => pg_tup rfl (pgs_cons (pg_name (i := 8) sc_unit_tokens.nd rfl (Or.inl rfl)) (pgs_cons (pg_name (i := 9) sc_unit_tokens.nd rfl (Or.inl rfl)) pgs_nil))) (fun _ _ _ _ _ => pts_nil) (fun _ _ _ _ _ => (pe_call (ok_p_declared T) (hr.mono (by decide)) rfl T.m_p_declared T.F_p_declared.kp T.b_p_declared .nil pass0 (pa_cons (pv 8) (pa_cons (pv 9) pa_nil))))) pa_nil))) (pe_lst (pa_cons pe_str pa_nil))) pa_nil)))
      (pss_one (ps_ret (pe_op op_cat (pv 6) (pe_call (ok_block T) (hr.mono (by decide)) rfl T.m_block T.F_block.kp T.b_block .nil pass0 (pa_cons (pe_lc (own := [("item", 10)]) (g := gName 10) (tt := tYes) rfl sc_unit_tokens.nd (pi_tup (pv 5)) (blkOk_by (N := ["unit", "_", "name", "ins", "outs", "items", "tokens", "each", "out", "kind", "item"]) (sc := defScope s_unit_tokens) (by decide +kernel)) (fun _ _ _ _ _ => pg_name (i := 10) sc_unit_tokens.nd rfl (Or.inl rfl)) (fun _ _ _ _ _ => pts_nil) (fun _ _ _ _ _ => (pe_call (ok_item_tokens T) (hr.mono (by decide)) rfl T.m_item_tokens T.F_item_tokens.kp T.b_item_tokens .nil pass0 (pa_cons (pv 10) pa_nil)))) pa_nil))))))), ?_⟩
  obtain ⟨b, xs, rfl, hb, _, _, rfl, rfl, _, _, rfl, rfl, v1, _, rfl, ⟨b1, ys1, rfl, hb1, hy1⟩, v2, _, rfl, ⟨b2, ys2, rfl, hb2, hy2⟩, v3, _, rfl, ⟨b3, ys3, rfl, hb3, hy3⟩, rfl⟩ := id hx
  have li1 : ∀ t ∈ iu, t.length ≤ 100 := fun t ht => by
    obtain ⟨_, _, n, k, u, ev, _, kt, _, _, rfl⟩ := All2.mem h1 ht
    have := KT.len kt
    rw [List.length_append]
    split <;> simp <;> omega
  have li2 : ∀ t ∈ ou, t.length ≤ 100 := fun t ht => by
    obtain ⟨_, _, n, k, u, _, kt, _, rfl⟩ := All2.mem h2 ht
    have := KT.len kt
    simp
    omega
  have c1 := com_bound li1
  have c2 := com_bound li2
  have lu1 := All2.len h1
  have lu2 := All2.len h2
  have ne1 : ∀ t ∈ iu, t ≠ [] := fun t ht => by
    obtain ⟨_, _, n, k, u, ev, _, kt, _, _, rfl⟩ := All2.mem h1 ht
    simp
  have ne2 : ∀ t ∈ ou, t ≠ [] := fun t ht => by
    obtain ⟨_, _, n, k, u, _, kt, _, rfl⟩ := All2.mem h2 ht
    simp
  have lfl : tu.flatten.length ≤ 3000000 := by
    simp only [List.length_append, List.length_cons, List.length_nil] at len ⊢
    omega
  refine ⟨_, rfl, b, _, rfl, SqT.of hb, rfl, _, _, rfl, _, _, rfl, _, _, rfl, _, _, rfl, _, _, rfl, rfl, ?_⟩
  refine ⟨_, rfl, sl 3, fun l4 n4 => ?_⟩
  have s4 := same_new (o := .lst [V.str "unit", V.str n, V.str "("]) n4
  have h4 : SL (upd H l4 (.lst [V.str "unit", V.str n, V.str "("])) l4 (["unit", n, "("] : List Str) := upd_same
  generalize upd H l4 (.lst [V.str "unit", V.str n, V.str "("]) = H4 at s4 h4 ⊢
  refine ⟨_, rfl, b1, rfl, ⟨_, SqT.of (s4 _ _ hb1)⟩, fun D hD => comp_parts (s4 _ _ hb1) hD (TdAll.mono (TS.of s4) _ _ hy1) h1 (by omega) (fun d t ⟨n, k, u, ev, _, _, _, _, e⟩ => by rw [e]; simp) ?_ ?_⟩
  · rintro x d t H5 C C2 hx5 htt htm s5 k
    exact ⟨rfl, yes ⟨_, rfl, _, rfl, d, t, hx5, htt, Nat.le_trans (li1 t htm) (by decide), k⟩⟩
  · intro H5 acc s5 h5 hps
    refine ⟨_, rfl, D, acc, iu, rfl, h5, hps, by rw [lstF_com ne1]; omega, fun p6 H6 s6 h6 => ?_⟩
    rw [lstF_com ne1] at h6
    refine catB ((h4.same s5).same s6) h6 (by simp only [List.length_cons, List.length_nil]; omega) fun p7 H7 s7 h7 => ?_
    refine ⟨sl 1, fun l8 n8 => ?_⟩
    have s8 := same_new (o := .lst [V.str ")"]) n8
    have h8 : SL (upd H7 l8 (.lst [V.str ")"])) l8 ([")"] : List Str) := upd_same
    have s08 := (((s4.trans s5).trans s6).trans s7).trans s8
    refine catBn (h7.same s8) h8 (by simp only [List.length_append, List.length_cons, List.length_nil]; omega) fun t9 H9 n9 s9 h9 => ?_
    have s09 := s08.trans s9
    have new9 : ∀ b o, H b = some o → b ≠ t9 := fun b o e => ne_of_none (s08 _ _ e) n9
    refine ⟨_, rfl, .inl ⟨rfl, _, SqL.of h9⟩, sl 2, fun l10 n10 => ?_⟩
    have s10 := same_new (o := .lst [V.str "gives", V.str "("]) n10
    have h10 : SL (upd H9 l10 (.lst [V.str "gives", V.str "("])) l10 (["gives", "("] : List Str) := upd_same
    have s010 := s09.trans s10
    have h9' := h9.same s10
    generalize upd H9 l10 (.lst [V.str "gives", V.str "("]) = H10 at s010 h10 h9' ⊢
    refine ⟨_, rfl, b2, rfl, ⟨_, SqT.of (s010 _ _ hb2)⟩, fun D2 hD2 => comp_parts (s010 _ _ hb2) hD2 (TdAll.mono (TS.of s010) _ _ hy2) h2 (by omega) (fun d t ⟨n, k, u, _, _, _, e⟩ => by rw [e]; simp) ?_ ?_⟩
    · rintro x d t H5 C C2 hx5 ⟨nn, k0, u0, on0, kt0, rfl, rfl⟩ htm s5 k
      obtain ⟨a, zs, rfl, haz, nv, _, rfl, rfl, kv, _, rfl, hkv, rfl⟩ := hx5
      exact ⟨a, _, rfl, SqT.of haz, rfl, _, _, rfl, _, _, rfl, rfl, rfl, yes ⟨_, rfl, _, rfl, _, _, rfl, nn, k0, u0, rfl, hkv, kt0, k⟩⟩
    · intro H11 acc2 s11 h11 hps2
      refine ⟨_, rfl, D2, acc2, ou, rfl, h11, hps2, by rw [lstF_com ne2]; omega, fun p12 H12 s12 h12 => ?_⟩
      rw [lstF_com ne2] at h12
      refine catB ((h10.same s11).same s12) h12 (by simp only [List.length_cons, List.length_nil]; omega) fun p13 H13 s13 h13 => ?_
      refine ⟨sl 1, fun l14 n14 => ?_⟩
      have s14 := same_new (o := .lst [V.str ")"]) n14
      have h14 : SL (upd H13 l14 (.lst [V.str ")"])) l14 ([")"] : List Str) := upd_same
      refine catB (h13.same s14) h14 (by simp only [List.length_append, List.length_cons, List.length_nil]; omega) fun p15 H15 s15 h15 => ?_
      have sx := ((((s11.trans s12).trans s13).trans s14).trans s15)
      refine ⟨t9, p15, _, _, rfl, rfl, h9'.same sx, h15, ext_len (by simp only [List.length_append, List.length_cons, List.length_nil]; omega), ?_⟩
      have h16 := ext_SL (H := H15) (t := t9) (ts := (["unit", n, "("] : List Str) ++ comL iu ++ ([")"] : List Str)) (us := (["gives", "("] : List Str) ++ comL ou ++ ([")"] : List Str))
      have s16 : Same H (upd H15 t9 (.lst (((["unit", n, "("] : List Str) ++ comL iu ++ ([")"] : List Str)).map V.str ++ ((["gives", "("] : List Str) ++ comL ou ++ ([")"] : List Str)).map V.str))) := fun b o e => upd_else (sx _ _ (s010 _ _ e)) (new9 b o e)
      generalize upd H15 t9 (.lst (((["unit", n, "("] : List Str) ++ comL iu ++ ([")"] : List Str)).map V.str ++ ((["gives", "("] : List Str) ++ comL ou ++ ([")"] : List Str)).map V.str)) = H16 at h16 s16 ⊢
      refine ⟨_, rfl, _, rfl, b3, rfl, ⟨_, SqT.of (s16 _ _ hb3)⟩, fun D3 hD3 => comp_parts (s16 _ _ hb3) hD3 (TdAll.mono (TS.of s16) _ _ hy3) h3 (by omega) (fun d t h => h.ne) ?_ ?_⟩
      · rintro x d t H5 C C2 hx5 htt htm s5 k
        exact ⟨rfl, yes ⟨_, rfl, _, rfl, d, t, hx5, htt, flat_part lfl htm, k⟩⟩
      · intro H17 acc3 s17 h17 hps3
        refine ⟨_, rfl, D3, acc3, tu, rfl, h17, hps3, by omega, fun p18 H18 s18 h18 => ?_⟩
        exact catB ((h16.same s17).same s18) h18 (by simp only [List.length_append, List.length_cons, List.length_nil] at *; omega) fun p19 H19 s19 h19 => q p19 H19 (((s16.trans s17).trans s18).trans s19) h19
theorem ok_write_program (T : Tx K mg w) : FnOk P w K mg base CX0 131 T.f_write_program T.fd_write_program ["program"] (sp1 rProg) := by
  refine okR1 T.F_write_program sc_write_program rfl fun cdv A outer s H Q EE x hr h => ?_
  obtain ⟨d, ts, hx, hp, len, q⟩ := h
  have tkp := hp.tk
  obtain ⟨ks, us, kt, ut, h1, h2, l1, l2, rfl, rfl⟩ := hp
  refine ⟨_, pss_cons (ps_asg (pv 0) (pg_tup rfl (pgs_cons (pg_name (i := 1) sc_write_program.nd rfl (Or.inl rfl)) (pgs_cons (pg_name (i := 2) sc_write_program.nd rfl (Or.inl rfl)) (pgs_cons (pg_name (i := 3) sc_write_program.nd rfl (Or.inl rfl)) pgs_nil)))))
      (pss_cons (ps_set (i := 4) sc_write_program.nd rfl (Or.inl rfl) (pe_lst pa_nil))
      (pss_cons (ps_for PassesOwn.never rfl (pi_tup (pv 2)) (pg_tup rfl (pgs_cons (pg_name (i := 5) sc_write_program.nd rfl (Or.inl rfl)) (pgs_cons (pg_name (i := 6) sc_write_program.nd rfl (Or.inl rfl)) pgs_nil)))
      (pss_one (ps_expr (pe_bm PySem.F.plainAttrs_list PySem.F.slot_list_extend PySem.F.type_list_extend mt_extend (pv 4) (pa_cons (pe_op op_cat (pe_op op_cat (pe_lst (pa_cons pe_str (pa_cons (pv 5) (pa_cons pe_str pa_nil)))) (pe_call (ok_kind_tokens T) (hr.mono (by decide)) rfl T.m_kind_tokens T.F_kind_tokens.kp T.b_kind_tokens .nil pass0 (pa_cons (pv 6) pa_nil))) (pe_lst (pa_cons pe_str pa_nil))) pa_nil)))))
      (pss_cons (ps_for PassesOwn.never rfl (pi_tup (pv 3)) (pg_name (i := 7) sc_write_program.nd rfl (Or.inl rfl))
      (pss_one (ps_expr (pe_bm PySem.F.plainAttrs_list PySem.F.slot_list_extend PySem.F.type_list_extend mt_extend (pv 4) (pa_cons (pe_call (ok_unit_tokens T) (hr.mono (by decide)) rfl T.m_unit_tokens T.F_unit_tokens.kp T.b_unit_tokens .nil pass0 (pa_cons (pv 7) pa_nil)) pa_nil)))))
      (pss_one (ps_ret (pe_join pe_str (pe_lc (own := [("token", 8)]) (g := gName 8) (tt := tYes) rfl sc_write_program.nd (pi_list (pv 4)) (blkOk_by (N := ["program", "_", "kinds", "units", "tokens", "name", "kind", "unit", "token"]) (sc := defScope s_write_program) (by decide +kernel)) (fun _ _ _ _ _ => pg_name (i := 8) sc_write_program.nd rfl (Or.inl rfl)) (fun _ _ _ _ _ => pts_nil) (fun _ _ _ _ _ => (pe_op op_add_str (pv 8) (pe_call (ok_gap T) (hr.mono (by decide)) rfl T.m_gap T.F_gap.kp T.b_gap .nil pass0 (pa_cons (pv 8) pa_nil))))))))))), ?_⟩
  obtain ⟨b, xs, rfl, hb, _, _, rfl, rfl, v1, _, rfl, ⟨b1, ys1, rfl, hb1, hy1⟩, v2, _, rfl, ⟨b2, ys2, rfl, hb2, hy2⟩, rfl⟩ := id hx
  refine ⟨_, rfl, b, _, rfl, SqT.of hb, rfl, _, _, rfl, _, _, rfl, _, _, rfl, rfl, ?_⟩
  refine ⟨sl 0, fun t nt => ?_⟩
  have st := same_new (o := .lst []) nt
  have newt : ∀ b o, H b = some o → b ≠ t := fun b o e => ne_of_none e nt
  have ly1 := TdAll.len _ _ hy1
  have ly2 := TdAll.len _ _ hy2
  have lu1 := All2.len h1
  have lu2 := All2.len h2
  rw [List.length_append] at len
  have flk : ∀ (tss : List (List Str)) (i : Nat) (u : List Str), tss[i]? = some u → ((tss.take i).flatten).length + u.length ≤ tss.flatten.length ∧ (tss.take (i + 1)).flatten = (tss.take i).flatten ++ u := by
    intro tss i u hu
    have tk1 : tss.take (i + 1) = tss.take i ++ [u] := by rw [List.take_succ, hu]; rfl
    have e : tss.flatten = (tss.take (i + 1)).flatten ++ (tss.drop (i + 1)).flatten := by rw [← List.flatten_append, List.take_append_drop]
    have e2 : (tss.take (i + 1)).flatten = (tss.take i).flatten ++ u := by rw [tk1, List.flatten_append]; simp
    refine ⟨?_, e2⟩
    rw [e, e2, List.length_append, List.length_append]
    omega
  refine ⟨_, rfl, b1, rfl, ⟨_, SqT.of (st _ _ hb1)⟩, for_tup (K := K) (a := b1) (xs := ys1) (fun i σ H' => ∃ v5 v6 : Option V, σ = [some (.ref b), some (.str "program"), some (.ref b1), some (.ref b2), some (.ref t), v5, v6, none, none] ∧ Same H H' ∧ SL H' t (kt.take i).flatten) ⟨none, none, rfl, st, upd_same⟩ ?_ ?_ ?_⟩
  · rintro i σ H' _ ⟨_, _, _, s1, _⟩
    exact SqT.of (s1 _ _ hb1)
  · rintro i x σ H1 hi ⟨v5, v6, rfl, s1, g1⟩
    have hil : i < ks.length := by
      have := (List.getElem?_eq_some_iff.mp hi).1
      omega
    obtain ⟨u, hu, n, k, uu, on, ktk, ed, rfl⟩ := All2.at h1 (List.getElem?_eq_getElem hil)
    obtain ⟨v', hv1, hv2⟩ := TdAll.at i _ _ _ hy1 (List.getElem?_eq_getElem hil)
    rw [hi] at hv1
    cases hv1
    rw [ed] at hv2
    obtain ⟨a, zs, rfl, haz, nv, _, rfl, rfl, kv, _, rfl, hkv, rfl⟩ := hv2
    obtain ⟨lf, ef⟩ := flk kt i _ hu
    have lk := KT.len ktk
    refine ⟨a, _, rfl, SqT.of (s1 _ _ haz), rfl, _, _, rfl, _, _, rfl, rfl, ?_⟩
    refine ⟨_, rfl, .inl ⟨rfl, _, SqL.of g1⟩, _, rfl, sl 3, fun l2 n2 => ?_⟩
    have s2 := same_new (o := .lst [V.str "kind", V.str n, V.str "="]) n2
    have h2' : SL (upd H1 l2 (.lst [V.str "kind", V.str n, V.str "="])) l2 (["kind", n, "="] : List Str) := upd_same
    refine ⟨_, rfl, _, rfl, k, 2, uu, Td.mono (TS.of (s1.trans s2)) _ _ hkv, ktk, by omega, fun p3 H3 s3 h3 => ?_⟩
    refine catB (h2'.same s3) h3 (by simp only [List.length_cons, List.length_nil]; omega) fun p4 H4 s4 h4 => ?_
    refine ⟨sl 1, fun l5 n5 => ?_⟩
    have s5 := same_new (o := .lst [V.str ";"]) n5
    have h5 : SL (upd H4 l5 (.lst [V.str ";"])) l5 ([";"] : List Str) := upd_same
    refine catB (h4.same s5) h5 (by simp only [List.length_append, List.length_cons, List.length_nil]; omega) fun p6 H6 s6 h6 => ?_
    have sx := (((s2.trans s3).trans s4).trans s5).trans s6
    refine ⟨t, p6, _, _, rfl, rfl, g1.same sx, h6, ext_len (by omega), ?_⟩
    exact ⟨_, _, rfl, fun b o e => upd_else (sx _ _ (s1 _ _ e)) (newt b o e), by rw [ef]; exact ext_SL⟩
  · rintro σ H1 ⟨v5, v6, rfl, s1, g1⟩
    rw [ly1, lu1, List.take_length] at g1
    refine ⟨_, rfl, b2, rfl, ⟨_, SqT.of (s1 _ _ hb2)⟩, for_tup (K := K) (a := b2) (xs := ys2) (fun i σ H' => ∃ v5 v6 v7 : Option V, σ = [some (.ref b), some (.str "program"), some (.ref b1), some (.ref b2), some (.ref t), v5, v6, v7, none] ∧ Same H H' ∧ SL H' t (kt.flatten ++ (ut.take i).flatten)) ⟨v5, v6, none, rfl, s1, by rw [List.take_zero, List.flatten_nil, List.append_nil]; exact g1⟩ ?_ ?_ ?_⟩
    · rintro i σ H' _ ⟨_, _, _, _, s1, _⟩
      exact SqT.of (s1 _ _ hb2)
    · rintro i x σ H2 hi ⟨v5, v6, v7, rfl, s2, g2⟩
      have hil : i < us.length := by
        have := (List.getElem?_eq_some_iff.mp hi).1
        omega
      obtain ⟨u, hu, hut⟩ := All2.at h2 (List.getElem?_eq_getElem hil)
      obtain ⟨v', hv1, hv2⟩ := TdAll.at i _ _ _ hy2 (List.getElem?_eq_getElem hil)
      rw [hi] at hv1
      cases hv1
      obtain ⟨lf, ef⟩ := flk ut i _ hu
      refine ⟨_, rfl, .inl ⟨rfl, _, SqL.of g2⟩, _, rfl, _, rfl, _, u, Td.mono (TS.of s2) _ _ hv2, hut, by omega, fun p3 H3 s3 h3 => ?_⟩
      refine ⟨t, p3, _, _, rfl, rfl, g2.same s3, h3, ext_len (by rw [List.length_append]; omega), ?_⟩
      exact ⟨_, _, _, rfl, fun b o e => upd_else (s3 _ _ (s2 _ _ e)) (newt b o e), by rw [ef, ← List.append_assoc]; exact ext_SL⟩
    · rintro σ H2 ⟨v5, v6, v7, rfl, s2, g2⟩
      rw [ly2, lu2, List.take_length] at g2
      generalize hT : kt.flatten ++ ut.flatten = TS0 at g2 tkp
      have lT : TS0.length ≤ 1200000 := by rw [← hT, List.length_append]; exact len
      refine ⟨⟨_, rfl⟩, _, rfl, t, rfl, ⟨_, SqL.of g2⟩, fun D hD => lc_list (K := K) (a := t) (xs := TS0.map V.str) (fun i H' => Same H2 H' ∧ H' D = some (.lst ((TS0.take i).map fun t => V.str (t ++ gapS t)))) ⟨same_new hD, upd_same⟩ ?_ ?_ ?_⟩
      · rintro i H' _ ⟨s3, _⟩
        exact SqL.of (s3 _ _ g2)
      · rintro i x H' hi ⟨s3, g3⟩
        rw [List.getElem?_map] at hi
        obtain ⟨z, hz, rfl⟩ := Option.map_eq_some_iff.mp hi
        have zl := tkp z (List.mem_of_getElem? hz)
        have gl := gap_len z
        refine ⟨rfl, yes ⟨_, rfl, _, rfl, _, rfl, z, rfl, _, _, rfl, rfl, by rw [sizeLine_eq]; omega, _, g3, ?_, fun b o e => upd_else (s3 _ _ e) (ne_of_none e hD), ?_⟩⟩
        · rw [List.length_map, List.length_take, sizeLine_eq]
          omega
        · rw [upd_same, List.take_succ, hz, List.map_append]
          rfl
      · rintro H' ⟨s3, g3⟩
        rw [List.length_map, List.take_length] at g3
        have g3' : SL H' D (TS0.map fun t => t ++ gapS t) := by
          unfold SL
          rw [g3, List.map_map]
          rfl
        exact ⟨_, D, _, rfl, rfl, .inl (SqL.of g3'), gap_sum tkp lT, hT ▸ q H' (s2.trans s3)⟩
end

/-! ### drawn programs: things in lists -/
def Th (R : PyData → List Str → Prop) (b : Nat) (D : Addr) (H : Hp) (v : V) (q : PyData × List Str × Nat) : Prop := R q.1 q.2.1 ∧ q.2.2 ≤ b ∧ PcA D H v q
theorem Th.same {R : PyData → List Str → Prop} {b : Nat} {D : Addr} {H H' : Hp} {v : V} {q : PyData × List Str × Nat} (h : Th R b D H v q) (s : Same H H') : Th R b D H' v q := by
  obtain ⟨h1, h2, p, e, ne, mk⟩ := h
  exact ⟨h1, h2, p, e, ne, mk.same s⟩
theorem Th.keep {R : PyData → List Str → Prop} {b : Nat} {D c : Addr} {H H' : Hp} {v : V} {q : PyData × List Str × Nat} (h : Th R b D H v q) (dr : Dr D c H) (s : Keep D H H') : Th R b D H' v q := by
  obtain ⟨h1, h2, p, e, ne, mk⟩ := h
  exact ⟨h1, h2, p, e, ne, mk.keep dr s⟩
theorem Th.k2 {R : PyData → List Str → Prop} {b : Nat} {D c m : Addr} {H H' : Hp} {v : V} {q : PyData × List Str × Nat} (h : Th R b D H v q) (dr : Dr D c H) (r : Rm m H) (s : K2 D m H H') : Th R b D H' v q := by
  obtain ⟨h1, h2, p, e, ne, mk⟩ := h
  exact ⟨h1, h2, p, e, ne, mk.k2 dr r s⟩
def TLs (R : PyData → List Str → Prop) (b : Nat) (D : Addr) (H : Hp) (L : Addr) (qs : List (PyData × List Str × Nat)) : Prop := ∃ vs : List V, H L = some (.lst vs) ∧ All2 (Th R b D H) vs qs
theorem TLs.same {R : PyData → List Str → Prop} {b : Nat} {D L : Addr} {H H' : Hp} {qs : List (PyData × List Str × Nat)} (h : TLs R b D H L qs) (s : Same H H') : TLs R b D H' L qs := by
  obtain ⟨vs, h1, h2⟩ := h
  exact ⟨vs, s _ _ h1, All2.imp (fun _ _ z => z.same s) h2⟩
theorem TLs.keep {R : PyData → List Str → Prop} {b : Nat} {D c L : Addr} {H H' : Hp} {qs : List (PyData × List Str × Nat)} (h : TLs R b D H L qs) (dr : Dr D c H) (s : Keep D H H') (n : L ≠ D) : TLs R b D H' L qs := by
  obtain ⟨vs, h1, h2⟩ := h
  exact ⟨vs, s _ _ h1 n, All2.imp (fun _ _ z => z.keep dr s) h2⟩
theorem TLs.k2 {R : PyData → List Str → Prop} {b : Nat} {D c m L : Addr} {H H' : Hp} {qs : List (PyData × List Str × Nat)} (h : TLs R b D H L qs) (dr : Dr D c H) (r : Rm m H) (s : K2 D m H H') (n : L ≠ D) (n2 : L ≠ m) : TLs R b D H' L qs := by
  obtain ⟨vs, h1, h2⟩ := h
  exact ⟨vs, s _ _ h1 n n2, All2.imp (fun _ _ z => z.k2 dr r s) h2⟩
theorem Th.wr {R R' : PyData → List Str → Prop} {b b' : Nat} {D L : Addr} {H : Hp} {v : V} {q : PyData × List Str × Nat} {vs ws : List V} {qs : List (PyData × List Str × Nat)} (h : Th R b D H v q) (hL : H L = some (.lst vs)) (al : All2 (Th R' b' D H) vs qs) : Th R b D (upd H L (.lst ws)) v q := by
  obtain ⟨h1, h2, p, e, ne, mk⟩ := h
  refine ⟨h1, h2, p, e, ne, mk.wr ne hL fun v hv => ?_⟩
  obtain ⟨j, hj⟩ := List.mem_iff_getElem?.mp hv
  obtain ⟨q, _, _, _, p, e, _, mk⟩ := All2.at al hj
  exact ⟨p, _, _, _, e, mk⟩
theorem TLs.push {R : PyData → List Str → Prop} {b : Nat} {D L : Addr} {H : Hp} {vs : List V} {qs : List (PyData × List Str × Nat)} {v : V} {q : PyData × List Str × Nat} (hL : H L = some (.lst vs)) (al : All2 (Th R b D H) vs qs) (hv : Th R b D H v q) : TLs R b D (upd H L (.lst (vs ++ [v]))) L (qs ++ [q]) :=
  ⟨vs ++ [v], upd_same, All2.snoc (hv.wr hL al) (All2.imp (fun _ _ z => z.wr hL al) al)⟩
/-- a list of parts -/
def PLs (D : Addr) (H : Hp) (p : Addr) (pcs : List (List Str × Nat)) : Prop := ∃ vs : List V, H p = some (.lst vs) ∧ All2 (Pc D H) vs pcs
theorem PLs.same {D p : Addr} {H H' : Hp} {pcs : List (List Str × Nat)} (h : PLs D H p pcs) (s : Same H H') : PLs D H' p pcs := by
  obtain ⟨vs, h1, h2⟩ := h
  exact ⟨vs, s _ _ h1, All2.imp (fun _ _ z => z.same s) h2⟩
def strP (zs : List Str) : List (List Str × Nat) := zs.map fun s => (([s] : List Str), 1)
theorem PLs.strs {D p : Addr} {H : Hp} {zs : List Str} (h : H p = some (.lst (zs.map V.str))) : PLs D H p (strP zs) := ⟨_, h, pc_strs zs⟩
theorem PLs.things {R : PyData → List Str → Prop} {b : Nat} {D p : Addr} {H : Hp} {qs : List (PyData × List Str × Nat)} (h : TLs R b D H p qs) : PLs D H p (qs.map fun q => q.2) := by
  obtain ⟨vs, h1, h2⟩ := h
  exact ⟨vs, h1, All2.mapR (All2.imp (fun v q ⟨_, _, p, e, _, mk⟩ => .inr ⟨p, _, [], e, mk⟩) h2)⟩
theorem catP {D a b : Addr} {H : Hp} {ps qs : List (List Str × Nat)} {Q : VK} (ha : PLs D H a ps) (hb : PLs D H b qs) (hl : ps.length + qs.length ≤ 1000) (q : ∀ (p : Addr) (H' : Hp), H p = none → Same H H' → PLs D H' p (ps ++ qs) → Q (.ref p) H') : rCat (.ref a) (.ref b) H Q := by
  obtain ⟨vs, h1, h2⟩ := ha
  obtain ⟨ws, h3, h4⟩ := hb
  have l1 := All2.len h2
  have l2 := All2.len h4
  exact ⟨a, b, vs, ws, rfl, rfl, h1, h3, Nat.le_of_lt (small1000 (by omega)), fun p hp => q p _ hp (same_new hp) ⟨_, upd_same, All2.imp (fun _ _ z => z.same (same_new hp)) (All2.app h2 h4)⟩⟩
/-- commas between parts -/
theorem comP {D q : Addr} {H : Hp} {ps : List (List Str × Nat)} {Q : VK} (h : PLs D H q ps) (ne : ps ≠ []) (hl : ps.length ≤ 20) (k : ∀ (p : Addr) (H' : Hp), Same H H' → PLs D H' p (inter (([","] : List Str), 1) ps) → Q (.ref p) H') : rCommas (.ref q) H Q := by
  obtain ⟨vs, h1, h2⟩ := h
  have l1 := All2.len h2
  cases vs with
  | nil =>
    cases ps with
    | nil => exact absurd rfl ne
    | cons _ _ => exact h2.elim
  | cons v r =>
    rw [List.length_cons] at l1
    exact ⟨q, v, r, rfl, h1, by omega, fun p H' s hp => k p H' s ⟨_, hp, All2.inter (.inl ⟨_, rfl, rfl⟩) (All2.imp (fun _ _ z => z.same s) h2)⟩⟩
/-- a thing of parts -/
theorem madeP {D c q0 : Addr} {H : Hp} {x : V} {d : PyData} {pcs : List (List Str × Nat)} {Q : VK} (dr : Dr D c H) (hx : Td H d x) (hq : PLs D H q0 pcs) (hc : cost pcs ≤ 1200000)
    (q : ∀ (p : Addr) (H' : Hp), Same H H' → Mk D H' p d (toks pcs) (cost pcs) [] → Q (.ref p) H') : ∃ a b, ([x, .ref q0] : List V) = [a, b] ∧ rMade a b H Q := by
  obtain ⟨xs, hD⟩ := dr.there
  obtain ⟨vs, h1, h2⟩ := hq
  exact ⟨_, _, rfl, D, d, q0, vs, pcs, hx, rfl, h1, h2, hc, ⟨_, hD⟩, q⟩
theorem treesP {R : PyData → List Str → Prop} {b : Nat} {D q0 : Addr} {H : Hp} {qs : List (PyData × List Str × Nat)} {Q : VK} (h : TLs R b D H q0 qs) (hl : qs.length ≤ 20) (q : ∀ (p : V) (H' : Hp), Same H H' → Td H' (.tuple (qs.map (·.1))) p → Q p H') : ∃ a, ([.ref q0] : List V) = [a] ∧ rTrees a H Q := by
  obtain ⟨vs, h1, h2⟩ := h
  have l1 := All2.len h2
  exact ⟨_, rfl, D, q0, vs, _, rfl, h1, by omega, All2.mapR (All2.imp (fun v q ⟨_, _, p, e, _, mk⟩ => ⟨p, _, _, _, e, mk⟩) h2), q⟩
theorem toks_strP (zs : List Str) : toks (strP zs) = zs := toks_strs zs
theorem cost_strP (zs : List Str) : cost (strP zs) = zs.length := cost_strs zs
theorem toks_qs : ∀ qs : List (PyData × List Str × Nat), toks (qs.map fun q => q.2) = (qs.map (·.2.1)).flatten
  | [] => rfl
  | q :: r => by
    rw [List.map_cons, toks_cons, toks_qs r, List.map_cons, List.flatten_cons]
theorem cost_qs : ∀ qs : List (PyData × List Str × Nat), cost (qs.map fun q => q.2) = costQ qs
  | [] => rfl
  | q :: r => by
    rw [List.map_cons, cost_cons, cost_qs r]
    rfl
theorem costQ_le {R : PyData → List Str → Prop} {b : Nat} {D : Addr} {H : Hp} : ∀ {vs : List V} {qs : List (PyData × List Str × Nat)}, All2 (Th R b D H) vs qs → costQ qs ≤ b * qs.length
  | [], [], _ => Nat.le_refl _
  | [], _ :: _, z => z.elim
  | _ :: _, [], z => z.elim
  | _ :: vs, q :: qs, z => by
    have h1 := costQ_le z.2
    have h2 := z.1.2.1
    show q.2.2 + costQ qs ≤ b * (qs.length + 1)
    rw [Nat.mul_succ]
    omega
theorem TLs.cost {R : PyData → List Str → Prop} {b : Nat} {D L : Addr} {H : Hp} {qs : List (PyData × List Str × Nat)} (h : TLs R b D H L qs) : costQ qs ≤ b * qs.length := by
  obtain ⟨vs, _, h2⟩ := h
  exact costQ_le h2
theorem All2.memR {α β : Type} {R : α → β → Prop} : ∀ {as : List α} {bs : List β} {b : β}, All2 R as bs → b ∈ bs → ∃ a, a ∈ as ∧ R a b := fun h hb => All2.mem h hb
theorem TLs.rel {R : PyData → List Str → Prop} {b : Nat} {D L : Addr} {H : Hp} {qs : List (PyData × List Str × Nat)} (h : TLs R b D H L qs) : All2 R (qs.map (·.1)) (qs.map (·.2.1)) := by
  obtain ⟨vs, _, h2⟩ := h
  refine All2.maps fun q hq => ?_
  obtain ⟨v, _, h⟩ := All2.memR h2 hq
  exact h.1
theorem K2.room {d m : Addr} {H : Hp} {o : HO} : K2 d m H (upd H m o) := fun b u e _ n2 => upd_else e n2
def rRootD : V → V → V → Hp → VK → Prop := fun x y z H Q => ∃ (d c m : Addr) (mo : Nat), x = .ref d ∧ y = .int (mo : Int) ∧ z = .ref m ∧ 1 ≤ mo ∧ mo ≤ 7 ∧ Dr d c H ∧ Rm m H ∧ m ≠ c ∧
  ∀ (p : Addr) (H' : Hp) (t : PyData) (us : List Str) (k : Nat), EX t us → k ≤ 130 * mo + 2 → Mk d H' p t us k [] → Dr d c H' → Rm m H' → K2 d m H H' → Q (.ref p) H'
/-- a list of things: turns, items, what is declared -/
def rListD (R : PyData → List Str → Prop) (b n : Nat) (d c m : Addr) (H : Hp) (Q : VK) : Prop := ∀ (L : Addr) (H' : Hp) (qs : List (PyData × List Str × Nat)), TLs R b d H' L qs → qs.length ≤ n → H L = none → L ≠ d → L ≠ c → L ≠ m → Dr d c H' → Rm m H' → K2 d m H H' → Q (.ref L) H'
def rTurnsD : V → V → V → V → Hp → VK → Prop := fun x y z z2 H Q => ∃ (d c m : Addr) (w : Str) (n : Nat), x = .ref d ∧ y = .str w ∧ z = .int (n : Int) ∧ z2 = .ref m ∧ n ≤ 2 ∧ Dr d c H ∧ Rm m H ∧ m ≠ c ∧ rListD (TT w) 266 2 d c m H Q
def rOneD (R : PyData → List Str → Prop) (b : Nat) (d c m : Addr) (H : Hp) (Q : VK) : Prop := ∀ (p : Addr) (H' : Hp) (t : PyData) (us : List Str) (k : Nat), R t us → k ≤ b → Mk d H' p t us k [] → Dr d c H' → Rm m H' → K2 d m H H' → Q (.ref p) H'
def rUseD : V → V → Hp → VK → Prop := fun x y H Q => ∃ d c m : Addr, x = .ref d ∧ y = .ref m ∧ Dr d c H ∧ Rm m H ∧ m ≠ c ∧ rOneD UseT 1200 d c m H Q
section
variable {P : Program} {w : World} {K : PySem.W.Frag} {mg : Str → Option Value} {base : Heap}
theorem ok_drawn_root (T : Tx K mg w) : FnOk P w K mg base CX0 44 T.f_drawn_root T.fd_drawn_root ["_law_d", "_law_most", "_law_room"] (sp3 rRootD) := by
  refine okR3 T.F_drawn_root sc_drawn_root rfl fun cdv A outer s H Q EE x y z hr h => ?_
  obtain ⟨d, c, m, mo, rfl, rfl, rfl, mo1, mo2, dr, rm, mc, q⟩ := h
  refine ⟨_, pss_cons (ps_set (i := 3) sc_drawn_root.nd rfl (Or.inl rfl) (pe_ix ix_list (pe_lst (pa_cons pe_int (pa_cons pe_int (pa_cons pe_int (pa_cons pe_int (pa_cons pe_int (pa_cons pe_int (pa_cons pe_int (pa_cons pe_int pa_nil))))))))) (pe_call (ok_draw T) (hr.mono (by decide)) rfl T.m_draw T.F_draw.kp T.b_draw .nil pass0 (pa_cons (pv 0) (pa_cons pe_int pa_nil))) (fun _ _ => rfl)))
      (pss_cons (ps_set (i := 4) sc_drawn_root.nd rfl (Or.inl rfl) (pe_call (ok_drawn_expr T) (hr.mono (by decide)) rfl T.m_drawn_expr T.F_drawn_expr.kp T.b_drawn_expr .nil pass0 (pa_cons (pv 0) (pa_cons (pe_callB (call_min2 rfl) (by rfl) T.z_min (by decide +kernel) (pa_cons (pv 3) (pa_cons (pv 1) pa_nil))) (pa_cons (pv 2) pa_nil)))))
      (pss_one (ps_ret (pe_call (ok_wrapped T) (hr.mono (by decide)) rfl T.m_wrapped T.F_wrapped.kp T.b_wrapped .nil pass0 (pa_cons (pv 0) (pa_cons (pv 4) (pa_cons pe_int pa_nil))))))), ?_⟩
  refine ⟨sl 8, fun l1 n1 => ?_⟩
  have s1 := same_new (o := .lst [V.int 1, V.int 2, V.int 1, V.int 7, V.int 3, V.int 2, V.int 4, V.int 5]) n1
  refine ⟨_, rfl, _, _, rfl, d, c, 8, rfl, rfl, dr.same s1, by omega, by omega, fun r H1 r0 r1 dr1 k1 => ?_⟩
  obtain ⟨size, hn, hm⟩ := at_int (ns := [1, 2, 1, 7, 3, 2, 4, 5]) r0 r1
  have sb : 1 ≤ size ∧ size ≤ 7 := by
    simp only [List.mem_cons, List.not_mem_nil, or_false] at hm
    omega
  have k01 : Keep d H H1 := (Keep.of s1).trans k1
  have rm1 := rm.keep dr k01
  refine ⟨l1, _, _, _, rfl, rfl, SqL.of (k1 _ _ upd_same (dr.dne n1)), hn, ?_⟩
  have mm : (if (mo : Int) < size then (mo : Int) else size) ≤ mo ∧ (if (mo : Int) < size then (mo : Int) else size) ≤ 7 := by
    by_cases g : (mo : Int) < size
    · rw [if_pos g]; omega
    · rw [if_neg g]; omega
  refine ⟨_, rfl, _, rfl, _, rfl, _, _, rfl, _, rfl, _, _, _, rfl, d, c, m, (if (mo : Int) < size then (mo : Int) else size), rfl, rfl, rfl, by omega, dr1, rm1, mc, fun p2 H2 t us k l he lk m2 dr2 rm2 k2 => ?_⟩
  generalize (if (mo : Int) < size then (mo : Int) else size) = sz at mm lk
  have bl : k ≤ 130 * mo := by
    by_cases g : sz < 2
    · rw [B_small g] at lk; omega
    · rw [B_big g] at lk; omega
  refine ⟨_, rfl, _, rfl, _, _, _, rfl, d, c, p2, t, us, k, l, 0, rfl, rfl, rfl, dr2, m2, by omega, fun p3 H3 m3 dr3 k3 => ?_⟩
  rw [wr_no (decide_eq_false (Nat.not_lt_zero l))] at m3
  have lus : us.length ≤ k := by
    obtain ⟨_, _, _, _, _, _, _, _, la, _⟩ := m2
    exact la
  exact q p3 H3 t us _ ⟨⟨l, ET.up he (by omega)⟩, by omega⟩ (by omega) m3 dr3 (rm2.keep dr2 k3) (((K2.of k01).trans k2).trans (K2.of k3))
theorem ok_drawn_turns (T : Tx K mg w) : FnOk P w K mg base CX0 45 T.f_drawn_turns T.fd_drawn_turns ["_law_d", "_law_word", "_law_many", "_law_room"] (sp4 rTurnsD) := by
  refine okR4 T.F_drawn_turns sc_drawn_turns rfl fun cdv A outer s H Q EE x y z z2 hr h => ?_
  obtain ⟨d, c, m, wd, n, rfl, rfl, rfl, rfl, hn, dr, rm, mc, q⟩ := h
  refine ⟨_, pss_cons (ps_set (i := 4) sc_drawn_turns.nd rfl (Or.inl rfl) (pe_lst pa_nil))
      (pss_cons (ps_for PassesOwn.never rfl (pi_range1 rfl T.z_range (pa_cons (pv 2) pa_nil)) (pg_name (i := 5) sc_drawn_turns.nd rfl (Or.inl rfl))
      (pss_cons (ps_set (i := 6) sc_drawn_turns.nd rfl (Or.inl rfl) (pe_call (ok_drawn_root T) (hr.mono (by decide)) rfl T.m_drawn_root T.F_drawn_root.kp T.b_drawn_root .nil pass0 (pa_cons (pv 0) (pa_cons pe_int (pa_cons (pv 3) pa_nil)))))
      (pss_cons (ps_set (i := 7) sc_drawn_turns.nd rfl (Or.inl rfl) (pe_call (ok_pick T) (hr.mono (by decide)) rfl T.m_pick T.F_pick.kp T.b_pick .nil pass0 (pa_cons (pv 0) (pa_cons (pe_lst (pa_cons pe_str (pa_cons pe_str pa_nil))) pa_nil))))
      (pss_cons (ps_set (i := 8) sc_drawn_turns.nd rfl (Or.inl rfl) (pe_call (ok_drawn_name T) (hr.mono (by decide)) rfl T.m_drawn_name T.F_drawn_name.kp T.b_drawn_name .nil pass0 (pa_cons (pv 0) pa_nil)))
      (pss_one (ps_expr (pe_bm PySem.F.plainAttrs_list PySem.F.slot_list_append PySem.F.type_list_append mt_append (pv 4) (pa_cons (pe_call (ok_made T) (hr.mono (by decide)) rfl T.m_made T.F_made.kp T.b_made .nil pass0 (pa_cons (pe_tup (pa_cons (pe_ix ix_list (pv 6) pe_int (fun _ _ => rfl)) (pa_cons (pv 7) (pa_cons (pv 8) pa_nil)))) (pa_cons (pe_lst (pa_cons (pv 1) (pa_cons (pv 6) (pa_cons (pv 7) (pa_cons (pv 8) (pa_cons pe_str pa_nil)))))) pa_nil))) pa_nil))))))))
      (pss_one (ps_ret (pv 4)))), ?_⟩
  refine ⟨sl 0, fun L nL => ?_⟩
  have sL := same_new (o := .lst []) nL
  have Ld := dr.dne nL
  have Lc := dr.cne nL
  have Lm : L ≠ m := by
    rintro rfl
    obtain ⟨a, b, h⟩ := rm
    rw [nL] at h
    cases h
  have HL : ∀ b o, H b = some o → b ≠ L := fun b o e => ne_of_none e nL
  refine ⟨_, rfl, n, rfl, by omega, by omega, for_range (lo := 0) (n := ((n : Nat) : Int).toNat) (fun i σ H' => ∃ (qs : List (PyData × List Str × Nat)) (v5 v6 v7 v8 : Option V), σ = [some (.ref d), some (.str wd), some (.int (n : Int)), some (.ref m), some (.ref L), v5, v6, v7, v8] ∧ TLs (TT wd) 266 d H' L qs ∧ qs.length = i ∧ Dr d c H' ∧ Rm m H' ∧ K2 d m H H') ⟨[], none, none, none, none, rfl, ⟨[], upd_same, trivial⟩, rfl, dr.same sL, rm.same sL, K2.same sL⟩ ?_ ?_⟩
  · rintro i σ H1 hi ⟨qs, v5, v6, v7, v8, rfl, tl, lq, dr1, rm1, k1⟩
    refine ⟨_, rfl, _, rfl, _, _, _, rfl, d, c, m, 2, rfl, rfl, rfl, by omega, by omega, dr1, rm1, mc, fun p2 H2 t us k he lk m2 dr2 rm2 k2 => ?_⟩
    have tl2 := tl.k2 dr1 rm1 k2 Ld Lm
    refine ⟨_, rfl, sl 2, fun l3 n3 => ?_⟩
    have s3 := same_new (o := .lst [V.str "go", V.str "back"]) n3
    refine ⟨_, _, rfl, d, c, _, rfl, dr2.same s3, (by simp), (by simp), .inl ⟨l3, rfl, dr2.dne n3, upd_same⟩, fun v H4 hv dr4 k4 => ?_⟩
    have k24 : Keep d H2 H4 := (Keep.of s3).trans k4
    obtain ⟨how, rfl, oh⟩ : ∃ how, v = V.str how ∧ okN how := by
      simp only [List.mem_cons, List.not_mem_nil, or_false] at hv
      rcases hv with rfl | rfl
      · exact ⟨_, rfl, (by decide +kernel : ("go" : Str).length ≤ 12)⟩
      · exact ⟨_, rfl, (by decide +kernel : ("back" : Str).length ≤ 12)⟩
    refine ⟨_, rfl, _, rfl, d, c, rfl, dr4, fun nm H5 on dr5 k5 => ?_⟩
    have k25 := k24.trans k5
    have m5 := m2.keep dr2 k25
    have tl5 := tl2.keep dr2 k25 Ld
    have rm5 := rm2.keep dr2 k25
    obtain ⟨ev, _, _, _, hp2, hev, _⟩ := id m5
    obtain ⟨vs5, hL5, al5⟩ := id tl5
    refine ⟨_, rfl, .inl ⟨rfl, _, SqL.of hL5⟩, _, rfl, p2, _, _, _, rfl, rfl, SqL.of hp2, at_n 0 rfl, _, rfl, _, rfl, sl 3, fun t6 n6 => ⟨_, rfl, _, rfl, _, rfl, _, rfl, sl 5, fun l7 n7 => ?_⟩⟩
    have s6 := same_new (o := .tup [ev, V.str how, V.str nm]) n6
    have hx := td3 (a := ev) (b := .str how) (c := .str nm) (x := t) (y := .str how) (z := .str nm) n6 hev rfl rfl
    have s7 := same_new (o := .lst [V.str wd, V.ref p2, V.str how, V.str nm, V.str ";"]) n7
    have s67 := s6.trans s7
    have pl : PLs d (upd (upd H5 t6 (.tup [ev, V.str how, V.str nm])) l7 (.lst [V.str wd, V.ref p2, V.str how, V.str nm, V.str ";"])) l7 [(([wd] : List Str), 1), (us, k), ([how], 1), ([nm], 1), ([";"], 1)] :=
      ⟨_, upd_same, .inl ⟨_, rfl, rfl⟩, .inr ⟨p2, t, [], rfl, m5.same s67⟩, .inl ⟨_, rfl, rfl⟩, .inl ⟨_, rfl, rfl⟩, .inl ⟨_, rfl, rfl⟩, trivial⟩
    have ec : cost [(([wd] : List Str), 1), (us, k), ([how], 1), ([nm], 1), ([";"], 1)] = k + 4 := by
      simp only [cost, List.map_cons, List.map_nil, List.sum_cons, List.sum_nil]
      omega
    refine madeP (dr5.same s67) (Td.mono (TS.of s7) _ _ hx) pl (by omega) fun p8 H8 s8 m8 => ?_
    have sx := s67.trans s8
    have tl8 := tl5.same sx
    obtain ⟨vs8, hL8, al8⟩ := id tl8
    have l8 := All2.len al8
    rw [ec] at m8
    have tt : TT wd (.tuple [t, .str how, .str nm]) (toks [(([wd] : List Str), 1), (us, k), ([how], 1), ([nm], 1), ([";"], 1)]) := ⟨t, us, how, nm, he, oh, on, rfl, by simp [toks]⟩
    refine ⟨L, _, _, rfl, rfl, hL8, small1000 (by omega), qs ++ [(.tuple [t, .str how, .str nm], toks [(([wd] : List Str), 1), (us, k), ([how], 1), ([nm], 1), ([";"], 1)], k + 4)], _, _, _, _, rfl, TLs.push hL8 al8 ⟨tt, by show k + 4 ≤ 266; omega, p8, rfl, tt.ne, m8⟩, by rw [List.length_append, lq]; rfl, (dr5.same sx).else Ld Lc, ?_, ?_⟩
    · obtain ⟨a, b, h⟩ := rm5.same sx
      exact ⟨a, b, upd_else h Lm.symm⟩
    · intro b o e n1 n2
      exact upd_else (sx _ _ (k25 _ _ (k2 _ _ (k1 b o e n1 n2) n1 n2) n1)) (HL b o e)
  · rintro σ H1 ⟨qs, v5, v6, v7, v8, rfl, tl, lq, dr1, rm1, k1⟩
    exact ⟨_, rfl, q L H1 qs tl (by omega) nL Ld Lc Lm dr1 rm1 k1⟩
end

theorem comP_qs {qs : List (PyData × List Str × Nat)} : qs.map (fun q => q.2) = [] ↔ qs = [] := List.map_eq_nil_iff
theorem costQ_ns : ∀ ns : List Str, costQ (ns.map fun s => (PyData.str s, ([s] : List Str), 1)) = ns.length
  | [] => rfl
  | a :: r => by
    have ih := costQ_ns r
    show 1 + costQ (r.map fun s => (PyData.str s, ([s] : List Str), 1)) = r.length + 1
    rw [ih]
    omega
theorem toks_ns (ns : List Str) : toks (inter (([","] : List Str), 1) (strP ns)) = comL (ns.map fun s => [s]) := by
  have := toks_inter (ns.map fun s => (PyData.str s, ([s] : List Str), 1))
  rw [List.map_map, List.map_map] at this
  exact this
theorem cost_ns (ns : List Str) : cost (inter (([","] : List Str), 1) (strP ns)) ≤ ns.length + ns.length := by
  have := cost_inter (ns.map fun s => (PyData.str s, ([s] : List Str), 1))
  rw [List.map_map, List.length_map, costQ_ns] at this
  exact this
theorem Pc.keep {D c : Addr} {H H' : Hp} {v : V} {q : List Str × Nat} (h : Pc D H v q) (dr : Dr D c H) (s : Keep D H H') : Pc D H' v q := by
  rcases h with h | ⟨p, d, rest, e, h⟩
  · exact .inl h
  · exact .inr ⟨p, d, rest, e, h.keep dr s⟩
theorem Pc.k2 {D c m : Addr} {H H' : Hp} {v : V} {q : List Str × Nat} (h : Pc D H v q) (dr : Dr D c H) (r : Rm m H) (s : K2 D m H H') : Pc D H' v q := by
  rcases h with h | ⟨p, d, rest, e, h⟩
  · exact .inl h
  · exact .inr ⟨p, d, rest, e, h.k2 dr r s⟩
theorem PLs.keep {D c p : Addr} {H H' : Hp} {pcs : List (List Str × Nat)} (h : PLs D H p pcs) (dr : Dr D c H) (s : Keep D H H') (n : p ≠ D) : PLs D H' p pcs := by
  obtain ⟨vs, h1, h2⟩ := h
  exact ⟨vs, s _ _ h1 n, All2.imp (fun _ _ z => z.keep dr s) h2⟩
theorem PLs.k2 {D c m p : Addr} {H H' : Hp} {pcs : List (List Str × Nat)} (h : PLs D H p pcs) (dr : Dr D c H) (r : Rm m H) (s : K2 D m H H') (n : p ≠ D) (n2 : p ≠ m) : PLs D H' p pcs := by
  obtain ⟨vs, h1, h2⟩ := h
  exact ⟨vs, s _ _ h1 n n2, All2.imp (fun _ _ z => z.k2 dr r s) h2⟩
theorem Rm.ne2 {m l : Addr} {H : Hp} (r : Rm m H) (n : H l = none) : l ≠ m := by
  rintro rfl
  obtain ⟨a, b, h⟩ := r
  rw [n] at h
  cases h
theorem EX.nn {e : PyData} {u : List Str} (h : EX e u) : ¬ e = .none := by
  obtain ⟨⟨l, h⟩, _⟩ := h
  obtain ⟨w, ds, rfl, _⟩ := ET.head h
  intro z
  cases z
section
variable {P : Program} {w : World} {K : PySem.W.Frag} {mg : Str → Option Value} {base : Heap}
theorem inter_cnt {α : Type} (c : α) (l : List α) : (inter c l).length ≤ 2 * l.length := inter_len c l
theorem ok_drawn_use (T : Tx K mg w) : FnOk P w K mg base CX0 45 T.f_drawn_use T.fd_drawn_use ["_law_d", "_law_room"] (sp2 rUseD) := by
  refine okR2 T.F_drawn_use sc_drawn_use rfl fun cdv A outer s H Q EE x y hr h => ?_
  obtain ⟨d, c, m, rfl, rfl, dr, rm, mc, q⟩ := h
  refine ⟨_, pss_cons (ps_set (i := 2) sc_drawn_use.nd rfl (Or.inl rfl) (pe_lst pa_nil))
      (pss_cons (ps_for PassesOwn.never rfl (pi_range1 rfl T.z_range (pa_cons (pe_op op_add pe_int (pe_call (ok_draw T) (hr.mono (by decide)) rfl T.m_draw T.F_draw.kp T.b_draw .nil pass0 (pa_cons (pv 0) (pa_cons pe_int pa_nil)))) pa_nil)) (pg_name (i := 3) sc_drawn_use.nd rfl (Or.inl rfl))
      (pss_one (ps_expr (pe_bm PySem.F.plainAttrs_list PySem.F.slot_list_append PySem.F.type_list_append mt_append (pv 2) (pa_cons (pe_call (ok_drawn_name T) (hr.mono (by decide)) rfl T.m_drawn_name T.F_drawn_name.kp T.b_drawn_name .nil pass0 (pa_cons (pv 0) pa_nil)) pa_nil)))))
      (pss_cons (ps_set (i := 4) sc_drawn_use.nd rfl (Or.inl rfl) (pe_call (ok_drawn_name T) (hr.mono (by decide)) rfl T.m_drawn_name T.F_drawn_name.kp T.b_drawn_name .nil pass0 (pa_cons (pv 0) pa_nil)))
      (pss_cons (ps_set (i := 5) sc_drawn_use.nd rfl (Or.inl rfl) (pe_lst pa_nil))
      (pss_cons (ps_for PassesOwn.never rfl (pi_range1 rfl T.z_range (pa_cons (pe_op op_add pe_int (pe_call (ok_draw T) (hr.mono (by decide)) rfl T.m_draw T.F_draw.kp T.b_draw .nil pass0 (pa_cons (pv 0) (pa_cons pe_int pa_nil)))) pa_nil)) (pg_name (i := 3) sc_drawn_use.nd rfl (Or.inl rfl))
      (pss_one (ps_expr (pe_bm PySem.F.plainAttrs_list PySem.F.slot_list_append PySem.F.type_list_append mt_append (pv 5) (pa_cons (pe_call (ok_drawn_root T) (hr.mono (by decide)) rfl T.m_drawn_root T.F_drawn_root.kp T.b_drawn_root .nil pass0 (pa_cons (pv 0) (pa_cons pe_int (pa_cons (pv 1) pa_nil)))) pa_nil)))))
      (pss_cons (ps_set (i := 6) sc_drawn_use.nd rfl (Or.inl rfl) (pe_op op_cat (pe_op op_cat (pe_op op_cat (pe_op op_cat (pe_lst (pa_cons pe_str pa_nil)) (pe_call (ok_commas T) (hr.mono (by decide)) rfl T.m_commas T.F_commas.kp T.b_commas .nil pass0 (pa_cons (pv 2) pa_nil))) (pe_lst (pa_cons pe_str (pa_cons (pv 4) (pa_cons pe_str pa_nil))))) (pe_call (ok_commas T) (hr.mono (by decide)) rfl T.m_commas T.F_commas.kp T.b_commas .nil pass0 (pa_cons (pv 5) pa_nil))) (pe_lst (pa_cons pe_str pa_nil))))
      (pss_cons (ps_set (i := 7) sc_drawn_use.nd rfl (Or.inl rfl) pe_non)
      (C8.pss_cut (ps_if (pt_cmpR op_eq (pe_call (ok_draw T) (hr.mono (by decide)) rfl T.m_draw T.F_draw.kp T.b_draw .nil pass0 (pa_cons (pv 0) (pa_cons pe_int pa_nil))) pe_int (nomark _)) (pss_cons (ps_set (i := 8) sc_drawn_use.nd rfl (Or.inl rfl) (pe_call (ok_drawn_root T) (hr.mono (by decide)) rfl T.m_drawn_root T.F_drawn_root.kp T.b_drawn_root .nil pass0 (pa_cons (pv 0) (pa_cons pe_int (pa_cons (pv 1) pa_nil)))))
      (pss_cons (ps_set (i := 7) sc_drawn_use.nd rfl (Or.inl rfl) (pe_ix ix_list (pv 8) pe_int (fun _ _ => rfl)))
      (pss_one (ps_set (i := 6) sc_drawn_use.nd rfl (Or.inl rfl) (pe_op op_cat (pv 6) (pe_lst (pa_cons pe_str (pa_cons (pv 8) pa_nil)))))))) pss_nil)
      (pss_one (ps_ret (pe_call (ok_made T) (hr.mono (by decide)) rfl T.m_made T.F_made.kp T.b_made .nil pass0 (pa_cons (pe_tup (pa_cons pe_str (pa_cons (pe_callTy (show CallR _ (.type "tuple") (rTupOf K) from call_tup) (by rfl) T.z_tuple (by decide +kernel) (pa_cons (pv 2) pa_nil)) (pa_cons (pv 4) (pa_cons (pe_call (ok_trees T) (hr.mono (by decide)) rfl T.m_trees T.F_trees.kp T.b_trees .nil pass0 (pa_cons (pv 5) pa_nil)) (pa_cons (pv 7) pa_nil)))))) (pa_cons (pe_op op_cat (pv 6) (pe_lst (pa_cons pe_str pa_nil))) pa_nil)))))))))))), ?_⟩
  refine ⟨sl 0, fun N nN => ?_⟩
  have sN := same_new (o := .lst []) nN
  have Nd := dr.dne nN
  have Nc := dr.cne nN
  have Nm : N ≠ m := by
    rintro rfl
    obtain ⟨a, b, h⟩ := rm
    rw [nN] at h
    cases h
  have HN : ∀ b o, H b = some o → b ≠ N := fun b o e => ne_of_none e nN
  refine ⟨_, rfl, _, _, rfl, d, c, 3, rfl, rfl, dr.same sN, by omega, by omega, fun r1 H1 a1 b1 dr1 k1 => ⟨_, _, rfl, rfl, 1 + r1, rfl, by omega, by omega, ?_⟩⟩
  have k01 : Keep d H H1 := (Keep.of sN).trans k1
  refine for_range (lo := 0) (n := (1 + r1).toNat) (fun i σ H' => ∃ (ns : List Str) (v3 : Option V), σ = [some (.ref d), some (.ref m), some (.ref N), v3, none, none, none, none, none] ∧ H' N = some (.lst (ns.map V.str)) ∧ ns.length = i ∧ (∀ z ∈ ns, okN z) ∧ Dr d c H' ∧ Keep d H H') ⟨[], none, rfl, k1 _ _ upd_same Nd, rfl, (fun z hz => by cases hz), dr1, k01⟩ ?_ ?_
  · rintro i σ H2 hi ⟨ns, v3, rfl, hN, ln, on, dr2, k2⟩
    refine ⟨_, rfl, .inl ⟨rfl, _, SqL.of hN⟩, _, rfl, _, rfl, d, c, rfl, dr2, fun z H3 oz dr3 k3 => ?_⟩
    refine ⟨N, _, _, rfl, rfl, k3 _ _ hN Nd, small1000 (by rw [List.length_map]; omega), ns ++ [z], _, rfl, by rw [upd_same, List.map_append]; rfl, by rw [List.length_append, ln]; rfl, ?_, dr3.else Nd Nc, fun b o e nb => upd_else ((k2.trans k3) b o e nb) (HN b o e)⟩
    intro y hy
    rcases List.mem_append.mp hy with hy | hy
    · exact on y hy
    · rw [List.mem_singleton.mp hy]
      exact oz
  · rintro σ H2 ⟨ns, v3, rfl, hN, ln, on, dr2, k2⟩
    have rm2 := rm.keep dr k2
    have nne : ns ≠ [] := by
      rintro rfl
      rw [List.length_nil] at ln
      omega
    refine ⟨_, rfl, _, rfl, d, c, rfl, dr2, fun un H3 ou dr3 k3 => ?_⟩
    have hN3 := k3 _ _ hN Nd
    have rm3 := rm2.keep dr2 k3
    have k03 := k2.trans k3
    refine ⟨sl 0, fun L nL => ?_⟩
    have sL := same_new (o := .lst []) nL
    have Ld := dr3.dne nL
    have Lc := dr3.cne nL
    have Lm : L ≠ m := by
      rintro rfl
      obtain ⟨a, b, h⟩ := rm3
      rw [nL] at h
      cases h
    have NL : N ≠ L := ne_of_none hN3 nL
    have HL : ∀ b o, H b = some o → b ≠ d → b ≠ L := fun b o e nb => ne_of_none (k03 b o e nb) nL
    refine ⟨_, rfl, _, _, rfl, d, c, 3, rfl, rfl, dr3.same sL, by omega, by omega, fun r4 H4 a4 b4 dr4 k4 => ⟨_, _, rfl, rfl, 1 + r4, rfl, by omega, by omega, ?_⟩⟩
    have k34 : Keep d H3 H4 := (Keep.of sL).trans k4
    refine for_range (lo := 0) (n := (1 + r4).toNat) (fun i σ H' => ∃ (qs : List (PyData × List Str × Nat)) (v3 : Option V), σ = [some (.ref d), some (.ref m), some (.ref N), v3, some (.str un), some (.ref L), none, none, none] ∧ TLs EX 262 d H' L qs ∧ qs.length = i ∧ H' N = some (.lst (ns.map V.str)) ∧ Dr d c H' ∧ Rm m H' ∧ K2 d m H H') ⟨[], v3, rfl, ⟨[], k4 _ _ upd_same Ld, trivial⟩, rfl, k34 _ _ hN3 Nd, dr4, rm3.keep dr3 k34, K2.of (k03.trans k34)⟩ ?_ ?_
    · rintro i σ H5 hi ⟨qs, v3, rfl, tl, lq, hN5, dr5, rm5, k5⟩
      obtain ⟨vs5, hL5, al5⟩ := id tl
      refine ⟨_, rfl, .inl ⟨rfl, _, SqL.of hL5⟩, _, rfl, _, rfl, _, _, _, rfl, d, c, m, 2, rfl, rfl, rfl, by omega, by omega, dr5, rm5, mc, fun p6 H6 t us k he lk m6 dr6 rm6 k6 => ?_⟩
      have tl6 := tl.k2 dr5 rm5 k6 Ld Lm
      obtain ⟨vs6, hL6, al6⟩ := id tl6
      have hvs : vs6 = vs5 := by
        have e := hL6.symm.trans (k6 _ _ hL5 Ld Lm)
        injection (Option.some.inj e)
      subst hvs
      have l6 := All2.len al6
      refine ⟨L, _, _, rfl, rfl, hL6, small1000 (by omega), qs ++ [(t, us, k)], _, rfl, TLs.push hL6 al6 ⟨he, by show k ≤ 262; omega, p6, rfl, he.ne, m6⟩, by rw [List.length_append, lq]; rfl, upd_else (k6 _ _ hN5 Nd Nm) NL, dr6.else Ld Lc, ?_, fun b o e n1 n2 => upd_else (k6 _ _ (k5 b o e n1 n2) n1 n2) (HL b o e n1)⟩
      obtain ⟨a, b, h⟩ := rm6
      exact ⟨a, b, upd_else h Lm.symm⟩
    · rintro σ H5 ⟨qs, v3, rfl, tl, lq, hN5, dr5, rm5, k5⟩
      have qne : qs ≠ [] := by
        rintro rfl
        rw [List.length_nil] at lq
        omega
      have nN5 : PLs d H5 N (strP ns) := PLs.strs hN5
      have nL5 : PLs d H5 L (qs.map fun q => q.2) := PLs.things tl
      -- the parts
      refine ⟨sl 1, fun l6 n6 => ?_⟩
      have s6 := same_new (o := .lst [V.str "use"]) n6
      have p6 : PLs d (upd H5 l6 (.lst [V.str "use"])) l6 (strP ["use"]) := PLs.strs upd_same
      refine ⟨_, rfl, _, rfl, comP (nN5.same s6) (fun e => nne (List.map_eq_nil_iff.mp e)) (by unfold strP; rw [List.length_map]; omega) fun l7 H7 s7 p7 => ?_⟩
      have c7 := inter_cnt ((([","] : List Str), 1) : List Str × Nat) (strP ns)
      rw [show (strP ns).length = ns.length from List.length_map _] at c7
      refine catP (p6.same s7) p7 (by show 1 + _ ≤ 1000; omega) fun l8 H8 n8 s8 p8 => ?_
      refine ⟨_, rfl, sl 3, fun l9 n9 => ?_⟩
      have s9 := same_new (o := .lst [V.str "=", V.str un, V.str "("]) n9
      have p9 : PLs d (upd H8 l9 (.lst [V.str "=", V.str un, V.str "("])) l9 (strP ["=", un, "("]) := PLs.strs upd_same
      refine catP (p8.same s9) p9 (by simp only [List.length_append, strP, List.length_map, List.length_cons, List.length_nil] at *; omega) fun l10 H10 n10 s10 p10 => ?_
      have s5x := (((s6.trans s7).trans s8).trans s9).trans s10
      have c11 := inter_cnt ((([","] : List Str), 1) : List Str × Nat) (qs.map fun q => q.2)
      rw [List.length_map] at c11
      refine ⟨_, rfl, _, rfl, comP (nL5.same s5x) (fun e => qne (comP_qs.mp e)) (by rw [List.length_map]; omega) fun l11 H11 s11 p11 => ?_⟩
      refine catP (p10.same s11) p11 (by simp only [List.length_append, strP, List.length_map, List.length_cons, List.length_nil] at *; omega) fun l12 H12 n12 s12 p12 => ?_
      refine ⟨sl 1, fun l13 n13 => ?_⟩
      have s13 := same_new (o := .lst [V.str ")"]) n13
      have p13 : PLs d (upd H12 l13 (.lst [V.str ")"])) l13 (strP [")"]) := PLs.strs upd_same
      have dr12x := dr5.same (((s5x.trans s11).trans s12).trans s13)
      have rm12x := rm5.same (((s5x.trans s11).trans s12).trans s13)
      refine catP (p12.same s13) p13 (by simp only [List.length_append, strP, List.length_map, List.length_cons, List.length_nil] at *; omega) fun l14 H14 n14 s14 p14 => ?_
      have s514 := (((s5x.trans s11).trans s12).trans s13).trans s14
      generalize hPC : strP ["use"] ++ inter (([","] : List Str), 1) (strP ns) ++ strP ["=", un, "("] ++ inter (([","] : List Str), 1) (qs.map fun q => q.2) ++ strP [")"] = PC at p14
      have ePC : toks PC = (["use"] : List Str) ++ comL (ns.map fun s => [s]) ++ (["=", un] : List Str) ++ ((["("] : List Str) ++ comL (qs.map (·.2.1)) ++ ([")"] : List Str)) := by
        rw [← hPC, toks_app, toks_app, toks_app, toks_app, toks_ns, toks_inter, toks_strP, toks_strP, toks_strP]
        simp only [List.append_assoc, List.cons_append, List.nil_append]
      have cq := TLs.cost tl
      have cPC : cost PC ≤ 1 + 2 * 3 + 3 + (costQ qs + 3) + 1 := by
        have e1 := cost_ns ns
        have e2 := cost_inter qs
        rw [← hPC, cost_app, cost_app, cost_app, cost_app, cost_strP, cost_strP, cost_strP]
        simp only [List.length_cons, List.length_nil]
        omega
      have lPC : PC.length ≤ 30 := by
        rw [← hPC]
        simp only [List.length_append, strP, List.length_map, List.length_cons, List.length_nil] at *
        omega
      have dr14 := dr5.same s514
      have rm14 := rm5.same s514
      have k14 : K2 d m H H14 := k5.trans (K2.same s514)
      have tl14 := tl.same s514
      have hN14 := s514 _ _ hN5
      refine ⟨fun σ H' => ∃ (ev : V) (ed : PyData) (vt : List Str) (l : Addr) (pcs : List (List Str × Nat)) (v8 : Option V), σ = [some (.ref d), some (.ref m), some (.ref N), v3, some (.str un), some (.ref L), some (.ref l), some ev, v8] ∧ Td H' ed ev ∧ ((ed = .none ∧ vt = []) ∨ ∃ v, EX ed v ∧ ¬ ed = .none ∧ vt = (["every"] : List Str) ++ v) ∧ PLs d H' l (PC ++ pcs) ∧ toks pcs = vt ∧ cost pcs ≤ 394 ∧ pcs.length ≤ 2 ∧ TLs EX 262 d H' L qs ∧ H' N = some (.lst (ns.map V.str)) ∧ Dr d c H' ∧ Rm m H' ∧ K2 d m H H', ?_, ?_⟩
      · refine ⟨_, rfl, _, _, rfl, d, c, 3, rfl, rfl, dr14, by omega, by omega, fun r15 H15 a15 b15 dr15 k15 => ⟨rfl, _, rfl, ite2 (fun _ => ?_) (fun _ => ?_)⟩⟩
        · have rm15 := rm14.keep dr14 k15
          have p15 := p14.keep dr14 k15 ((dr12x.dne n14))
          refine ⟨_, rfl, _, rfl, _, _, _, rfl, d, c, m, 3, rfl, rfl, rfl, by omega, by omega, dr15, rm15, mc, fun p16 H16 t us k he lk m16 dr16 rm16 k16 => ?_⟩
          have p16' := p15.k2 dr15 rm15 k16 (dr12x.dne n14) (rm12x.ne2 n14)
          obtain ⟨v16, _, _, _, h16, hv16, _⟩ := id m16
          refine ⟨_, rfl, p16, _, _, _, rfl, rfl, SqL.of h16, at_n 0 rfl, ?_⟩
          refine ⟨_, rfl, _, rfl, sl 2, fun l17 n17 => ?_⟩
          have s17 := same_new (o := .lst [V.str "every", V.ref p16]) n17
          have p17 : PLs d (upd H16 l17 (.lst [V.str "every", V.ref p16])) l17 [(["every"], 1), (us, k)] := ⟨_, upd_same, .inl ⟨_, rfl, rfl⟩, .inr ⟨p16, t, [], rfl, m16.same s17⟩, trivial⟩
          refine catP (p16'.same s17) p17 (by simp only [List.length_cons, List.length_nil]; omega) fun l18 H18 n18 s18 p18 => ?_
          have sx := s17.trans s18
          have tl15 := tl14.keep dr14 k15 Ld
          refine ⟨v16, t, (["every"] : List Str) ++ us, l18, [(["every"], 1), (us, k)], _, rfl, Td.mono (TS.of sx) _ _ hv16, .inr ⟨us, he, he.nn, rfl⟩, p18, by simp [toks], ?_, by simp, (tl15.k2 dr15 rm15 k16 Ld Lm).same sx, sx _ _ (k16 _ _ (k15 _ _ hN14 Nd) Nd Nm), dr16.same sx, rm16.same sx, ((k14.trans (K2.of k15)).trans k16).trans (K2.same sx)⟩
          simp only [cost, List.map_cons, List.map_nil, List.sum_cons, List.sum_nil]
          omega
        · exact ⟨.non, .none, [], l14, [], _, rfl, rfl, .inl ⟨rfl, rfl⟩, by rw [List.append_nil]; exact p14.keep dr14 k15 (dr12x.dne n14), rfl, Nat.zero_le _, Nat.zero_le _, tl14.keep dr14 k15 Ld, k15 _ _ hN14 Nd, dr15, rm14.keep dr14 k15, k14.trans (K2.of k15)⟩
      · rintro σ H15 ⟨ev, ed, vt, l, pcs, v8, rfl, hev, hvt, pl, et, cc, lp, tl15, hN15, dr15, rm15, k15⟩
        refine ⟨_, rfl, N, _, rfl, .inl ⟨SqL.of hN15, fun l1 n1 => ?_⟩⟩
        have s1 := same_new (o := .tup (ns.map V.str)) n1
        have h1 : Td (upd H15 l1 (.tup (ns.map V.str))) (.tuple (ns.map PyData.str)) (.ref l1) := ⟨l1, _, rfl, upd_same, TdAll.ofStrs ns⟩
        refine ⟨_, rfl, _, rfl, treesP (tl15.same s1) (by omega) fun v2 H2 s2 h2 => ?_⟩
        refine ⟨_, rfl, sl 5, fun t3 n3 => ?_⟩
        have s3 := same_new (o := .tup [V.str "use", V.ref l1, V.str un, v2, ev]) n3
        have hx := td5 (a := .str "use") (b := .ref l1) (c := .str un) (d := v2) (e := ev) (x := .str "use") (y := .tuple (ns.map PyData.str)) (z := .str un) (u := .tuple (qs.map (·.1))) (v := ed) n3 rfl (Td.mono (TS.of s2) _ _ h1) rfl h2 (Td.mono (TS.of (s1.trans s2)) _ _ hev)
        have s13 := (s1.trans s2).trans s3
        refine ⟨_, rfl, sl 1, fun l4 n4 => ?_⟩
        have s4 := same_new (o := .lst [V.str ";"]) n4
        have p4 : PLs d (upd (upd H2 t3 (.tup [V.str "use", V.ref l1, V.str un, v2, ev])) l4 (.lst [V.str ";"])) l4 (strP [";"]) := PLs.strs upd_same
        refine catP (pl.same (s13.trans s4)) p4 (by simp only [List.length_append, strP, List.length_map, List.length_cons, List.length_nil]; omega) fun l5 H5 n5 s5 p5 => ?_
        have s15 := (s13.trans s4).trans s5
        have ct : cost (PC ++ pcs ++ strP [";"]) ≤ 1200 := by
          rw [cost_app, cost_app, cost_strP]
          simp only [List.length_cons, List.length_nil]
          have : costQ qs ≤ 262 * 3 := Nat.le_trans cq (Nat.mul_le_mul_left 262 (by omega))
          omega
        refine madeP (dr15.same s15) (Td.mono (TS.of (s4.trans s5)) _ _ hx) p5 (by omega) fun p6 H6 s6 m6 => ?_
        have sy := s15.trans s6
        refine q p6 H6 _ _ _ ?_ ct m6 (dr15.same sy) (rm15.same sy) (k15.trans (K2.same sy))
        have hrel := TLs.rel tl15
        refine ⟨ns, un, qs.map (·.1), qs.map (·.2.1), ed, vt, on, nne, by omega, ou, hrel, fun e => qne (List.map_eq_nil_iff.mp e), by rw [List.length_map]; omega, hvt, rfl, ?_⟩
        rw [toks_app, toks_app, ePC, et, toks_strP]
end

def bI : Nat → Nat
  | 0 => 1200
  | n + 1 => 4 + 3 * (1068 + 2 * bI n)
theorem bI_ge : ∀ n, 1200 ≤ bI n
  | 0 => Nat.le_refl _
  | n + 1 => by
    have := bI_ge n
    show 1200 ≤ 4 + 3 * (1068 + 2 * bI n)
    omega
theorem bI_le {n : Nat} (h : n ≤ 2) : bI n ≤ 65656 := by
  rcases (show n = 0 ∨ n = 1 ∨ n = 2 by omega) with rfl | rfl | rfl <;> decide
def rItemD (n : Nat) : V → V → V → V → Hp → VK → Prop := fun x y z z2 H Q => ∃ (d c m W : Addr) (ws : List Str), x = .ref d ∧ y = .int (n : Int) ∧ z = .ref W ∧ z2 = .ref m ∧ H W = some (.lst (ws.map V.str)) ∧ (∀ w ∈ ws, w = "assume" ∨ w = "keep") ∧ ws.length ≤ 2 ∧ W ≠ d ∧ W ≠ m ∧ Dr d c H ∧ Rm m H ∧ m ≠ c ∧ rOneD (IT n) (bI n) d c m H Q
def rItemsD (n : Nat) : V → V → V → V → V → Hp → VK → Prop := fun x y1 y z z2 H Q => ∃ (d c m W : Addr) (ws : List Str) (many : Nat), x = .ref d ∧ y1 = .int (many : Int) ∧ many ≤ 5 ∧ y = .int (n : Int) ∧ z = .ref W ∧ z2 = .ref m ∧ H W = some (.lst (ws.map V.str)) ∧ (∀ w ∈ ws, w = "assume" ∨ w = "keep") ∧ ws.length ≤ 2 ∧ W ≠ d ∧ W ≠ m ∧ Dr d c H ∧ Rm m H ∧ m ≠ c ∧ rListD (IT n) (bI n) many d c m H Q
def rStateD (n : Nat) : V → V → V → Hp → VK → Prop := fun x y z H Q => ∃ d c m : Addr, x = .ref d ∧ y = .int (n : Int) ∧ z = .ref m ∧ Dr d c H ∧ Rm m H ∧ m ≠ c ∧ rOneD (STt (IT n)) (1068 + 2 * bI n) d c m H Q
def rMachD (n : Nat) : V → V → V → Hp → VK → Prop := fun x y z H Q => ∃ d c m : Addr, x = .ref d ∧ y = .int (n : Int) ∧ z = .ref m ∧ Dr d c H ∧ Rm m H ∧ m ≠ c ∧ rOneD (IT (n + 1)) (bI (n + 1)) d c m H Q
theorem and_both {a : Bool} {A B T : Prop} (hB : B) (hT : B → a = true → T) : if a = true then T else (if false = true then A else B) := by
  by_cases h : a = true
  · rw [if_pos h]
    exact hT hB h
  · rw [if_neg h, if_neg (by decide)]
    exact hB
theorem IB.it {m : Nat} {d : PyData} {ts : List Str} (h : IB d ts) : IT m d ts := by
  cases m with
  | zero => exact h
  | succ m => exact .inl h
section
variable {P : Program} {w : World} {K : PySem.W.Frag} {mg : Str → Option Value} {base : Heap}
theorem itemd_base (T : Tx K mg w) : FnOk P w K mg base CX0 46 T.f_drawn_item T.fd_drawn_item ["_law_d", "_law_deep", "_law_words", "_law_room"] (sp4 (rItemD 0)) := by
  refine okR4 T.F_drawn_item sc_drawn_item rfl fun cdv A outer s H Q EE x y z z2 hr h => ?_
  obtain ⟨d, c, m, W, ws, rfl, rfl, rfl, rfl, hW, hws, lws, Wd, Wm, dr, rm, mc, q⟩ := h
  refine ⟨_, pss_cons (ps_set (i := 4) sc_drawn_item.nd rfl (Or.inl rfl) (pe_call (ok_draw T) (hr.mono (by omega)) rfl T.m_draw T.F_draw.kp T.b_draw .nil pass0 (pa_cons (pv 0) (pa_cons pe_int pa_nil))))
      (pss_cons (ps_if (PW.pt (pw_and (pt_cmpR op_eq (pv 4) pe_int (nomark _)) (pw_and1 (pt_truth (pv 2) (by intro _; rfl))))) (pss_cons (ps_set (i := 5) sc_drawn_item.nd rfl (Or.inl rfl) (pe_call (ok_pick T) (hr.mono (by omega)) rfl T.m_pick T.F_pick.kp T.b_pick .nil pass0 (pa_cons (pv 0) (pa_cons (pv 2) pa_nil))))
      (pss_cons (ps_set (i := 6) sc_drawn_item.nd rfl (Or.inl rfl) (pe_call (ok_drawn_root T) (hr.mono (by omega)) rfl T.m_drawn_root T.F_drawn_root.kp T.b_drawn_root .nil pass0 (pa_cons (pv 0) (pa_cons pe_int (pa_cons (pv 3) pa_nil)))))
      (pss_one (ps_ret (pe_call (ok_made T) (hr.mono (by omega)) rfl T.m_made T.F_made.kp T.b_made .nil pass0 (pa_cons (pe_tup (pa_cons (pv 5) (pa_cons (pe_ix ix_list (pv 6) pe_int (fun _ _ => rfl)) pa_nil))) (pa_cons (pe_lst (pa_cons (pv 5) (pa_cons (pv 6) (pa_cons pe_str pa_nil)))) pa_nil))))))) pss_nil)
      (pss_cons (ps_if (PW.pt (pw_and (pt_cmpR op_eq (pv 4) pe_int (nomark _)) (pw_and1 (pt_cmpR op_gt (pv 1) pe_int (nomark _))))) (pss_one ps_never) pss_nil)
      (pss_cons (ps_if (pt_cmpR op_eq (pv 4) pe_int (nomark _)) (pss_one (ps_ret (pe_call (ok_drawn_use T) (hr.mono (by omega)) rfl T.m_drawn_use T.F_drawn_use.kp T.b_drawn_use .nil pass0 (pa_cons (pv 0) (pa_cons (pv 3) pa_nil))))) pss_nil)
      (pss_cons (ps_set (i := 7) sc_drawn_item.nd rfl (Or.inl rfl) (pe_call (ok_drawn_name T) (hr.mono (by omega)) rfl T.m_drawn_name T.F_drawn_name.kp T.b_drawn_name .nil pass0 (pa_cons (pv 0) pa_nil)))
      (pss_cons (ps_if (pt_cmpR op_eq (pv 4) pe_int (nomark _)) (pss_one (ps_ret (pe_call (ok_made T) (hr.mono (by omega)) rfl T.m_made T.F_made.kp T.b_made .nil pass0 (pa_cons (pe_tup (pa_cons pe_str (pa_cons (pv 7) (pa_cons pe_non pa_nil)))) (pa_cons (pe_lst (pa_cons pe_str (pa_cons (pv 7) (pa_cons pe_str pa_nil)))) pa_nil))))) pss_nil)
      (pss_cons (ps_if (pt_cmpR op_eq (pv 4) pe_int (nomark _)) (pss_cons (ps_set (i := 8) sc_drawn_item.nd rfl (Or.inl rfl) (pe_call (ok_drawn_kind T) (hr.mono (by omega)) rfl T.m_drawn_kind T.F_drawn_kind.kp T.b_drawn_kind .nil pass0 (pa_cons (pv 0) pa_nil)))
      (pss_one (ps_ret (pe_call (ok_made T) (hr.mono (by omega)) rfl T.m_made T.F_made.kp T.b_made .nil pass0 (pa_cons (pe_tup (pa_cons pe_str (pa_cons (pv 7) (pa_cons (pe_ix ix_list (pv 8) pe_int (fun _ _ => rfl)) pa_nil)))) (pa_cons (pe_lst (pa_cons pe_str (pa_cons (pv 7) (pa_cons pe_str (pa_cons (pv 8) (pa_cons pe_str pa_nil)))))) pa_nil)))))) pss_nil)
      (C8.pss_cut (ps_if (PW.pt (pw_and (pt_cmpR op_eq (pv 4) pe_int (nomark _)) (pw_and1 (pt_cmpR op_gt (pe_ix ix_list (pv 3) pe_int (fun _ _ => rfl)) pe_int (nomark _))))) (pss_one (ps_set (i := 6) sc_drawn_item.nd rfl (Or.inl rfl) (pe_call (ok_wrapped T) (hr.mono (by omega)) rfl T.m_wrapped T.F_wrapped.kp T.b_wrapped .nil pass0 (pa_cons (pv 0) (pa_cons (pe_call (ok_drawn_chain T) (hr.mono (by omega)) rfl T.m_drawn_chain T.F_drawn_chain.kp T.b_drawn_chain .nil pass0 (pa_cons (pv 0) (pa_cons (pv 3) (pa_cons pe_int pa_nil)))) (pa_cons pe_int pa_nil)))))) (pss_one (ps_set (i := 6) sc_drawn_item.nd rfl (Or.inl rfl) (pe_call (ok_drawn_root T) (hr.mono (by omega)) rfl T.m_drawn_root T.F_drawn_root.kp T.b_drawn_root .nil pass0 (pa_cons (pv 0) (pa_cons pe_int (pa_cons (pv 3) pa_nil)))))))
      (pss_one (ps_ret (pe_call (ok_made T) (hr.mono (by omega)) rfl T.m_made T.F_made.kp T.b_made .nil pass0 (pa_cons (pe_tup (pa_cons pe_str (pa_cons (pv 7) (pa_cons (pe_ix ix_list (pv 6) pe_int (fun _ _ => rfl)) pa_nil)))) (pa_cons (pe_lst (pa_cons (pv 7) (pa_cons pe_str (pa_cons (pv 6) (pa_cons pe_str pa_nil))))) pa_nil)))))))))))), ?_⟩
  have bn := bI_ge (0)
  refine ⟨_, rfl, _, _, rfl, d, c, 9, rfl, rfl, dr, by omega, by omega, fun way H1 w0 w1 dr1 k1 => ?_⟩
  have rm1 := rm.keep dr k1
  have hW1 := k1 _ _ hW Wd
  have K1 : K2 d m H H1 := K2.of k1
  -- what follows the two first ways
  refine ⟨_, rfl, rfl, _, rfl, and_both ?rest fun rest hway => ⟨_, rfl, _, .inl ⟨_, SqL.of hW1, rfl⟩, ite2 (fun hne => ?_) (fun _ => rest)⟩⟩
  case rest =>
    refine ⟨_, rfl, rfl, _, rfl, and_both ?nomach fun nomach _ => ⟨_, rfl, _, _, rfl, rfl, _, rfl, iteF nomach⟩⟩
    refine ⟨_, rfl, rfl, _, rfl, ite2 (fun _ => ?_) (fun _ => ?_)⟩
    · exact ⟨_, rfl, _, rfl, _, _, rfl, d, c, m, rfl, rfl, dr1, rm1, mc, fun p H2 t us k ht lk m2 dr2 rm2 k2 => q p H2 t us k (IB.it (.inr (.inr (.inr (.inl ht))))) (by omega) m2 dr2 rm2 (K1.trans k2)⟩
    refine ⟨_, rfl, _, rfl, d, c, rfl, dr1, fun nm H2 on dr2 k2 => ?_⟩
    have rm2 := rm1.keep dr1 k2
    have K2' : K2 d m H H2 := K1.trans (K2.of k2)
    refine ⟨_, rfl, rfl, _, rfl, ite2 (fun _ => ?_) (fun _ => ?_)⟩
    · refine ⟨_, rfl, sl 3, fun t3 n3 => ⟨_, rfl, sl 3, fun l4 n4 => ?_⟩⟩
      have s3 := same_new (o := .tup [V.str "local", V.str nm, V.non]) n3
      have hx := td3 (a := .str "local") (b := .str nm) (c := .non) (x := .str "local") (y := .str nm) (z := .none) n3 rfl rfl rfl
      have s4 := same_new (o := .lst [V.str "local", V.str nm, V.str ";"]) n4
      have s34 := s3.trans s4
      refine madeP (dr2.same s34) (Td.mono (TS.of s4) _ _ hx) (PLs.strs (zs := ["local", nm, ";"]) upd_same) (by rw [cost_strP]; simp) fun p5 H5 s5 m5 => ?_
      have sx := s34.trans s5
      rw [toks_strP, cost_strP] at m5
      exact q p5 H5 _ _ _ (IB.it (.inl ⟨nm, on, rfl, rfl⟩)) (by simp only [List.length_cons, List.length_nil]; omega) m5 (dr2.same sx) (rm2.same sx) (K2'.trans (K2.same sx))
    refine ⟨_, rfl, rfl, _, rfl, ite2 (fun _ => ?_) (fun _ => ?_)⟩
    · refine ⟨_, rfl, _, rfl, d, c, rfl, dr2, fun p3 H3 t us k ⟨lk, hk⟩ m3 dr3 k3 => ?_⟩
      have rm3 := rm2.keep dr2 k3
      obtain ⟨kv, _, _, _, h3, hkv, _⟩ := id m3
      refine ⟨_, rfl, _, rfl, p3, _, _, _, rfl, rfl, SqL.of h3, at_n 0 rfl, sl 3, fun t4 n4 => ⟨_, rfl, _, rfl, sl 5, fun l5 n5 => ?_⟩⟩
      have s4 := same_new (o := .tup [V.str "local", V.str nm, kv]) n4
      have hx := td3 (a := .str "local") (b := .str nm) (c := kv) (x := .str "local") (y := .str nm) (z := t) n4 rfl rfl hkv
      have s5 := same_new (o := .lst [V.str "local", V.str nm, V.str ":", V.ref p3, V.str ";"]) n5
      have s45 := s4.trans s5
      have pl : PLs d (upd (upd H3 t4 (.tup [V.str "local", V.str nm, kv])) l5 (.lst [V.str "local", V.str nm, V.str ":", V.ref p3, V.str ";"])) l5 [((["local"] : List Str), 1), ([nm], 1), ([":"], 1), (us, k), ([";"], 1)] :=
        ⟨_, upd_same, .inl ⟨_, rfl, rfl⟩, .inl ⟨_, rfl, rfl⟩, .inl ⟨_, rfl, rfl⟩, .inr ⟨p3, t, [], rfl, m3.same s45⟩, .inl ⟨_, rfl, rfl⟩, trivial⟩
      have ec : cost [((["local"] : List Str), 1), ([nm], 1), ([":"], 1), (us, k), ([";"], 1)] = k + 4 := by
        simp only [cost, List.map_cons, List.map_nil, List.sum_cons, List.sum_nil]
        omega
      refine madeP (dr3.same s45) (Td.mono (TS.of s5) _ _ hx) pl (by omega) fun p6 H6 s6 m6 => ?_
      have sx := s45.trans s6
      rw [ec] at m6
      exact q p6 H6 _ _ _ (IB.it (.inr (.inl ⟨nm, t, us, on, hk, rfl, by simp [toks]⟩))) (by omega) m6 (dr3.same sx) (rm3.same sx) ((K2'.trans (K2.of k3)).trans (K2.same sx))
    refine ⟨fun σ H' => ∃ (p : Addr) (t : PyData) (us : List Str) (k : Nat) (v5 v8 : Option V), σ = [some (.ref d), some (.int ((0 : Nat) : Int)), some (.ref W), some (.ref m), some (.int way), v5, some (.ref p), some (.str nm), v8] ∧ EX t us ∧ k ≤ 912 ∧ Mk d H' p t us k [] ∧ Dr d c H' ∧ Rm m H' ∧ K2 d m H H', ?_, ?_⟩
    · obtain ⟨ra, rb, hrm⟩ := id rm2
      refine ⟨_, rfl, rfl, _, rfl, and_both ?els fun els _ => ⟨_, rfl, m, _, _, _, rfl, rfl, SqL.of hrm, at_n 0 rfl, _, _, rfl, rfl, _, rfl, ite2 (fun _ => ?_) (fun _ => els)⟩⟩
      case els => exact ⟨_, rfl, _, rfl, _, _, _, rfl, d, c, m, 7, rfl, rfl, rfl, by omega, by omega, dr2, rm2, mc, fun p H3 t us k he lk m3 dr3 rm3 k3 => ⟨p, t, us, k, _, _, rfl, he, by omega, m3, dr3, rm3, K2'.trans k3⟩⟩
      refine ⟨_, rfl, _, rfl, _, rfl, _, _, _, rfl, d, c, m, 22, rfl, rfl, rfl, by omega, by omega, dr2, rm2, mc, fun p3 H3 t us k l he lk m3 dr3 rm3 k3 => ?_⟩
      refine ⟨_, _, _, rfl, d, c, p3, t, us, k, l, 0, rfl, rfl, rfl, dr3, m3, by omega, fun p4 H4 m4 dr4 k4 => ?_⟩
      rw [wr_no (decide_eq_false (Nat.not_lt_zero l))] at m4
      have lus : us.length ≤ k := by
        obtain ⟨_, _, _, _, _, _, _, _, la, _⟩ := m3
        exact la
      exact ⟨p4, t, us, _, _, _, rfl, ⟨⟨l, he⟩, by omega⟩, by omega, m4, dr4, rm3.keep dr3 k4, (K2'.trans k3).trans (K2.of k4)⟩
    · rintro σ H3 ⟨p, t, us, k, v5, v8, rfl, he, lk, m3, dr3, rm3, k3⟩
      obtain ⟨ev, _, _, _, h3, hev, _⟩ := id m3
      refine ⟨_, rfl, _, rfl, p, _, _, _, rfl, rfl, SqL.of h3, at_n 0 rfl, sl 3, fun t4 n4 => ⟨_, rfl, _, rfl, sl 4, fun l5 n5 => ?_⟩⟩
      have s4 := same_new (o := .tup [V.str "set", V.str nm, ev]) n4
      have hx := td3 (a := .str "set") (b := .str nm) (c := ev) (x := .str "set") (y := .str nm) (z := t) n4 rfl rfl hev
      have s5 := same_new (o := .lst [V.str nm, V.str "=", V.ref p, V.str ";"]) n5
      have s45 := s4.trans s5
      have pl : PLs d (upd (upd H3 t4 (.tup [V.str "set", V.str nm, ev])) l5 (.lst [V.str nm, V.str "=", V.ref p, V.str ";"])) l5 [(([nm] : List Str), 1), (["="], 1), (us, k), ([";"], 1)] :=
        ⟨_, upd_same, .inl ⟨_, rfl, rfl⟩, .inl ⟨_, rfl, rfl⟩, .inr ⟨p, t, [], rfl, m3.same s45⟩, .inl ⟨_, rfl, rfl⟩, trivial⟩
      have ec : cost [(([nm] : List Str), 1), (["="], 1), (us, k), ([";"], 1)] = k + 3 := by
        simp only [cost, List.map_cons, List.map_nil, List.sum_cons, List.sum_nil]
        omega
      refine madeP (dr3.same s45) (Td.mono (TS.of s5) _ _ hx) pl (by omega) fun p6 H6 s6 m6 => ?_
      have sx := s45.trans s6
      rw [ec] at m6
      exact q p6 H6 _ _ _ (IB.it (.inr (.inr (.inl ⟨nm, t, us, on, he, rfl, by simp [toks]⟩)))) (by omega) m6 (dr3.same sx) (rm3.same sx) (k3.trans (K2.same sx))
  · have wne : ws.map V.str ≠ [] := fun e => by
      rw [e] at hne
      exact absurd hne (by decide)
    refine ⟨_, rfl, _, rfl, _, _, rfl, d, c, _, rfl, dr1, wne, by rw [List.length_map]; omega, .inl ⟨W, rfl, Wd, hW1⟩, fun v H2 hv dr2 k2 => ?_⟩
    obtain ⟨wd, hwd, rfl⟩ := List.mem_map.mp hv
    have rm2 := rm1.keep dr1 k2
    refine ⟨_, rfl, _, rfl, _, _, _, rfl, d, c, m, 4, rfl, rfl, rfl, by omega, by omega, dr2, rm2, mc, fun p3 H3 t us k he lk m3 dr3 rm3 k3 => ?_⟩
    obtain ⟨ev, _, _, _, h3, hev, _⟩ := id m3
    refine ⟨_, rfl, _, rfl, p3, _, _, _, rfl, rfl, SqL.of h3, at_n 0 rfl, sl 2, fun t4 n4 => ⟨_, rfl, _, rfl, sl 3, fun l5 n5 => ?_⟩⟩
    have s4 := same_new (o := .tup [V.str wd, ev]) n4
    have hx := td2 (a := .str wd) (b := ev) (x := .str wd) (y := t) n4 rfl hev
    have s5 := same_new (o := .lst [V.str wd, V.ref p3, V.str ";"]) n5
    have s45 := s4.trans s5
    have pl : PLs d (upd (upd H3 t4 (.tup [V.str wd, ev])) l5 (.lst [V.str wd, V.ref p3, V.str ";"])) l5 [(([wd] : List Str), 1), (us, k), ([";"], 1)] :=
      ⟨_, upd_same, .inl ⟨_, rfl, rfl⟩, .inr ⟨p3, t, [], rfl, m3.same s45⟩, .inl ⟨_, rfl, rfl⟩, trivial⟩
    have ec : cost [(([wd] : List Str), 1), (us, k), ([";"], 1)] = k + 2 := by
      simp only [cost, List.map_cons, List.map_nil, List.sum_cons, List.sum_nil]
      omega
    refine madeP (dr3.same s45) (Td.mono (TS.of s5) _ _ hx) pl (by omega) fun p6 H6 s6 m6 => ?_
    have sx := s45.trans s6
    rw [ec] at m6
    exact q p6 H6 _ _ _ (IB.it (.inr (.inr (.inr (.inr ⟨wd, t, us, hws wd hwd, he, rfl, by simp [toks]⟩))))) (by omega) m6 (dr3.same sx) (rm3.same sx) (((K1.trans (K2.of k2)).trans k3).trans (K2.same sx))
end

section
variable {P : Program} {w : World} {K : PySem.W.Frag} {mg : Str → Option Value} {base : Heap}
theorem rec_itemd (T : Tx K mg w) (n : Nat) (hn : n ≤ 3) (ihM : FnOk P w K mg base CX0 (49 + 4 * n) T.f_drawn_machine T.fd_drawn_machine ["_law_d", "_law_deep", "_law_room"] (sp3 (rMachD n))) : FnOk P w K mg base CX0 (46 + 4 * (n + 1)) T.f_drawn_item T.fd_drawn_item ["_law_d", "_law_deep", "_law_words", "_law_room"] (sp4 (rItemD (n + 1))) := by
  rw [show 46 + 4 * (n + 1) = (49 + 4 * n) + 1 by omega]
  refine okR4 T.F_drawn_item sc_drawn_item rfl fun cdv A outer s H Q EE x y z z2 hr h => ?_
  obtain ⟨d, c, m, W, ws, rfl, rfl, rfl, rfl, hW, hws, lws, Wd, Wm, dr, rm, mc, q⟩ := h
  refine ⟨_, pss_cons (ps_set (i := 4) sc_drawn_item.nd rfl (Or.inl rfl) (pe_call (ok_draw T) (hr.mono (by omega)) rfl T.m_draw T.F_draw.kp T.b_draw .nil pass0 (pa_cons (pv 0) (pa_cons pe_int pa_nil))))
      (pss_cons (ps_if (PW.pt (pw_and (pt_cmpR op_eq (pv 4) pe_int (nomark _)) (pw_and1 (pt_truth (pv 2) (by intro _; rfl))))) (pss_cons (ps_set (i := 5) sc_drawn_item.nd rfl (Or.inl rfl) (pe_call (ok_pick T) (hr.mono (by omega)) rfl T.m_pick T.F_pick.kp T.b_pick .nil pass0 (pa_cons (pv 0) (pa_cons (pv 2) pa_nil))))
      (pss_cons (ps_set (i := 6) sc_drawn_item.nd rfl (Or.inl rfl) (pe_call (ok_drawn_root T) (hr.mono (by omega)) rfl T.m_drawn_root T.F_drawn_root.kp T.b_drawn_root .nil pass0 (pa_cons (pv 0) (pa_cons pe_int (pa_cons (pv 3) pa_nil)))))
      (pss_one (ps_ret (pe_call (ok_made T) (hr.mono (by omega)) rfl T.m_made T.F_made.kp T.b_made .nil pass0 (pa_cons (pe_tup (pa_cons (pv 5) (pa_cons (pe_ix ix_list (pv 6) pe_int (fun _ _ => rfl)) pa_nil))) (pa_cons (pe_lst (pa_cons (pv 5) (pa_cons (pv 6) (pa_cons pe_str pa_nil)))) pa_nil))))))) pss_nil)
      (pss_cons (ps_if (PW.pt (pw_and (pt_cmpR op_eq (pv 4) pe_int (nomark _)) (pw_and1 (pt_cmpR op_gt (pv 1) pe_int (nomark _))))) (pss_one (ps_ret (pe_call ihM (hr.mono (by omega)) rfl T.m_drawn_machine T.F_drawn_machine.kp T.b_drawn_machine .nil pass0 (pa_cons (pv 0) (pa_cons (pe_op op_sub (pv 1) pe_int) (pa_cons (pv 3) pa_nil)))))) pss_nil)
      (pss_cons (ps_if (pt_cmpR op_eq (pv 4) pe_int (nomark _)) (pss_one (ps_ret (pe_call (ok_drawn_use T) (hr.mono (by omega)) rfl T.m_drawn_use T.F_drawn_use.kp T.b_drawn_use .nil pass0 (pa_cons (pv 0) (pa_cons (pv 3) pa_nil))))) pss_nil)
      (pss_cons (ps_set (i := 7) sc_drawn_item.nd rfl (Or.inl rfl) (pe_call (ok_drawn_name T) (hr.mono (by omega)) rfl T.m_drawn_name T.F_drawn_name.kp T.b_drawn_name .nil pass0 (pa_cons (pv 0) pa_nil)))
      (pss_cons (ps_if (pt_cmpR op_eq (pv 4) pe_int (nomark _)) (pss_one (ps_ret (pe_call (ok_made T) (hr.mono (by omega)) rfl T.m_made T.F_made.kp T.b_made .nil pass0 (pa_cons (pe_tup (pa_cons pe_str (pa_cons (pv 7) (pa_cons pe_non pa_nil)))) (pa_cons (pe_lst (pa_cons pe_str (pa_cons (pv 7) (pa_cons pe_str pa_nil)))) pa_nil))))) pss_nil)
      (pss_cons (ps_if (pt_cmpR op_eq (pv 4) pe_int (nomark _)) (pss_cons (ps_set (i := 8) sc_drawn_item.nd rfl (Or.inl rfl) (pe_call (ok_drawn_kind T) (hr.mono (by omega)) rfl T.m_drawn_kind T.F_drawn_kind.kp T.b_drawn_kind .nil pass0 (pa_cons (pv 0) pa_nil)))
      (pss_one (ps_ret (pe_call (ok_made T) (hr.mono (by omega)) rfl T.m_made T.F_made.kp T.b_made .nil pass0 (pa_cons (pe_tup (pa_cons pe_str (pa_cons (pv 7) (pa_cons (pe_ix ix_list (pv 8) pe_int (fun _ _ => rfl)) pa_nil)))) (pa_cons (pe_lst (pa_cons pe_str (pa_cons (pv 7) (pa_cons pe_str (pa_cons (pv 8) (pa_cons pe_str pa_nil)))))) pa_nil)))))) pss_nil)
      (C8.pss_cut (ps_if (PW.pt (pw_and (pt_cmpR op_eq (pv 4) pe_int (nomark _)) (pw_and1 (pt_cmpR op_gt (pe_ix ix_list (pv 3) pe_int (fun _ _ => rfl)) pe_int (nomark _))))) (pss_one (ps_set (i := 6) sc_drawn_item.nd rfl (Or.inl rfl) (pe_call (ok_wrapped T) (hr.mono (by omega)) rfl T.m_wrapped T.F_wrapped.kp T.b_wrapped .nil pass0 (pa_cons (pv 0) (pa_cons (pe_call (ok_drawn_chain T) (hr.mono (by omega)) rfl T.m_drawn_chain T.F_drawn_chain.kp T.b_drawn_chain .nil pass0 (pa_cons (pv 0) (pa_cons (pv 3) (pa_cons pe_int pa_nil)))) (pa_cons pe_int pa_nil)))))) (pss_one (ps_set (i := 6) sc_drawn_item.nd rfl (Or.inl rfl) (pe_call (ok_drawn_root T) (hr.mono (by omega)) rfl T.m_drawn_root T.F_drawn_root.kp T.b_drawn_root .nil pass0 (pa_cons (pv 0) (pa_cons pe_int (pa_cons (pv 3) pa_nil)))))))
      (pss_one (ps_ret (pe_call (ok_made T) (hr.mono (by omega)) rfl T.m_made T.F_made.kp T.b_made .nil pass0 (pa_cons (pe_tup (pa_cons pe_str (pa_cons (pv 7) (pa_cons (pe_ix ix_list (pv 6) pe_int (fun _ _ => rfl)) pa_nil)))) (pa_cons (pe_lst (pa_cons (pv 7) (pa_cons pe_str (pa_cons (pv 6) (pa_cons pe_str pa_nil))))) pa_nil)))))))))))), ?_⟩
  have bn := bI_ge (n + 1)
  refine ⟨_, rfl, _, _, rfl, d, c, 9, rfl, rfl, dr, by omega, by omega, fun way H1 w0 w1 dr1 k1 => ?_⟩
  have rm1 := rm.keep dr k1
  have hW1 := k1 _ _ hW Wd
  have K1 : K2 d m H H1 := K2.of k1
  -- what follows the two first ways
  refine ⟨_, rfl, rfl, _, rfl, and_both ?rest fun rest hway => ⟨_, rfl, _, .inl ⟨_, SqL.of hW1, rfl⟩, ite2 (fun hne => ?_) (fun _ => rest)⟩⟩
  case rest =>
    refine ⟨_, rfl, rfl, _, rfl, and_both ?nomach fun nomach _ => ⟨_, rfl, _, _, rfl, rfl, _, rfl, ite2 (fun _ => ?mach) (fun _ => nomach)⟩⟩
    case mach => exact ⟨_, rfl, _, rfl, _, _, rfl, rfl, _, rfl, _, _, _, rfl, d, c, m, rfl, congrArg V.int (by omega), rfl, dr1, rm1, mc, fun p H2 t us k ht lk m2 dr2 rm2 k2 => q p H2 t us k ht lk m2 dr2 rm2 (K1.trans k2)⟩
    refine ⟨_, rfl, rfl, _, rfl, ite2 (fun _ => ?_) (fun _ => ?_)⟩
    · exact ⟨_, rfl, _, rfl, _, _, rfl, d, c, m, rfl, rfl, dr1, rm1, mc, fun p H2 t us k ht lk m2 dr2 rm2 k2 => q p H2 t us k (IB.it (.inr (.inr (.inr (.inl ht))))) (by omega) m2 dr2 rm2 (K1.trans k2)⟩
    refine ⟨_, rfl, _, rfl, d, c, rfl, dr1, fun nm H2 on dr2 k2 => ?_⟩
    have rm2 := rm1.keep dr1 k2
    have K2' : K2 d m H H2 := K1.trans (K2.of k2)
    refine ⟨_, rfl, rfl, _, rfl, ite2 (fun _ => ?_) (fun _ => ?_)⟩
    · refine ⟨_, rfl, sl 3, fun t3 n3 => ⟨_, rfl, sl 3, fun l4 n4 => ?_⟩⟩
      have s3 := same_new (o := .tup [V.str "local", V.str nm, V.non]) n3
      have hx := td3 (a := .str "local") (b := .str nm) (c := .non) (x := .str "local") (y := .str nm) (z := .none) n3 rfl rfl rfl
      have s4 := same_new (o := .lst [V.str "local", V.str nm, V.str ";"]) n4
      have s34 := s3.trans s4
      refine madeP (dr2.same s34) (Td.mono (TS.of s4) _ _ hx) (PLs.strs (zs := ["local", nm, ";"]) upd_same) (by rw [cost_strP]; simp) fun p5 H5 s5 m5 => ?_
      have sx := s34.trans s5
      rw [toks_strP, cost_strP] at m5
      exact q p5 H5 _ _ _ (IB.it (.inl ⟨nm, on, rfl, rfl⟩)) (by simp only [List.length_cons, List.length_nil]; omega) m5 (dr2.same sx) (rm2.same sx) (K2'.trans (K2.same sx))
    refine ⟨_, rfl, rfl, _, rfl, ite2 (fun _ => ?_) (fun _ => ?_)⟩
    · refine ⟨_, rfl, _, rfl, d, c, rfl, dr2, fun p3 H3 t us k ⟨lk, hk⟩ m3 dr3 k3 => ?_⟩
      have rm3 := rm2.keep dr2 k3
      obtain ⟨kv, _, _, _, h3, hkv, _⟩ := id m3
      refine ⟨_, rfl, _, rfl, p3, _, _, _, rfl, rfl, SqL.of h3, at_n 0 rfl, sl 3, fun t4 n4 => ⟨_, rfl, _, rfl, sl 5, fun l5 n5 => ?_⟩⟩
      have s4 := same_new (o := .tup [V.str "local", V.str nm, kv]) n4
      have hx := td3 (a := .str "local") (b := .str nm) (c := kv) (x := .str "local") (y := .str nm) (z := t) n4 rfl rfl hkv
      have s5 := same_new (o := .lst [V.str "local", V.str nm, V.str ":", V.ref p3, V.str ";"]) n5
      have s45 := s4.trans s5
      have pl : PLs d (upd (upd H3 t4 (.tup [V.str "local", V.str nm, kv])) l5 (.lst [V.str "local", V.str nm, V.str ":", V.ref p3, V.str ";"])) l5 [((["local"] : List Str), 1), ([nm], 1), ([":"], 1), (us, k), ([";"], 1)] :=
        ⟨_, upd_same, .inl ⟨_, rfl, rfl⟩, .inl ⟨_, rfl, rfl⟩, .inl ⟨_, rfl, rfl⟩, .inr ⟨p3, t, [], rfl, m3.same s45⟩, .inl ⟨_, rfl, rfl⟩, trivial⟩
      have ec : cost [((["local"] : List Str), 1), ([nm], 1), ([":"], 1), (us, k), ([";"], 1)] = k + 4 := by
        simp only [cost, List.map_cons, List.map_nil, List.sum_cons, List.sum_nil]
        omega
      refine madeP (dr3.same s45) (Td.mono (TS.of s5) _ _ hx) pl (by omega) fun p6 H6 s6 m6 => ?_
      have sx := s45.trans s6
      rw [ec] at m6
      exact q p6 H6 _ _ _ (IB.it (.inr (.inl ⟨nm, t, us, on, hk, rfl, by simp [toks]⟩))) (by omega) m6 (dr3.same sx) (rm3.same sx) ((K2'.trans (K2.of k3)).trans (K2.same sx))
    refine ⟨fun σ H' => ∃ (p : Addr) (t : PyData) (us : List Str) (k : Nat) (v5 v8 : Option V), σ = [some (.ref d), some (.int ((n + 1 : Nat) : Int)), some (.ref W), some (.ref m), some (.int way), v5, some (.ref p), some (.str nm), v8] ∧ EX t us ∧ k ≤ 912 ∧ Mk d H' p t us k [] ∧ Dr d c H' ∧ Rm m H' ∧ K2 d m H H', ?_, ?_⟩
    · obtain ⟨ra, rb, hrm⟩ := id rm2
      refine ⟨_, rfl, rfl, _, rfl, and_both ?els fun els _ => ⟨_, rfl, m, _, _, _, rfl, rfl, SqL.of hrm, at_n 0 rfl, _, _, rfl, rfl, _, rfl, ite2 (fun _ => ?_) (fun _ => els)⟩⟩
      case els => exact ⟨_, rfl, _, rfl, _, _, _, rfl, d, c, m, 7, rfl, rfl, rfl, by omega, by omega, dr2, rm2, mc, fun p H3 t us k he lk m3 dr3 rm3 k3 => ⟨p, t, us, k, _, _, rfl, he, by omega, m3, dr3, rm3, K2'.trans k3⟩⟩
      refine ⟨_, rfl, _, rfl, _, rfl, _, _, _, rfl, d, c, m, 22, rfl, rfl, rfl, by omega, by omega, dr2, rm2, mc, fun p3 H3 t us k l he lk m3 dr3 rm3 k3 => ?_⟩
      refine ⟨_, _, _, rfl, d, c, p3, t, us, k, l, 0, rfl, rfl, rfl, dr3, m3, by omega, fun p4 H4 m4 dr4 k4 => ?_⟩
      rw [wr_no (decide_eq_false (Nat.not_lt_zero l))] at m4
      have lus : us.length ≤ k := by
        obtain ⟨_, _, _, _, _, _, _, _, la, _⟩ := m3
        exact la
      exact ⟨p4, t, us, _, _, _, rfl, ⟨⟨l, he⟩, by omega⟩, by omega, m4, dr4, rm3.keep dr3 k4, (K2'.trans k3).trans (K2.of k4)⟩
    · rintro σ H3 ⟨p, t, us, k, v5, v8, rfl, he, lk, m3, dr3, rm3, k3⟩
      obtain ⟨ev, _, _, _, h3, hev, _⟩ := id m3
      refine ⟨_, rfl, _, rfl, p, _, _, _, rfl, rfl, SqL.of h3, at_n 0 rfl, sl 3, fun t4 n4 => ⟨_, rfl, _, rfl, sl 4, fun l5 n5 => ?_⟩⟩
      have s4 := same_new (o := .tup [V.str "set", V.str nm, ev]) n4
      have hx := td3 (a := .str "set") (b := .str nm) (c := ev) (x := .str "set") (y := .str nm) (z := t) n4 rfl rfl hev
      have s5 := same_new (o := .lst [V.str nm, V.str "=", V.ref p, V.str ";"]) n5
      have s45 := s4.trans s5
      have pl : PLs d (upd (upd H3 t4 (.tup [V.str "set", V.str nm, ev])) l5 (.lst [V.str nm, V.str "=", V.ref p, V.str ";"])) l5 [(([nm] : List Str), 1), (["="], 1), (us, k), ([";"], 1)] :=
        ⟨_, upd_same, .inl ⟨_, rfl, rfl⟩, .inl ⟨_, rfl, rfl⟩, .inr ⟨p, t, [], rfl, m3.same s45⟩, .inl ⟨_, rfl, rfl⟩, trivial⟩
      have ec : cost [(([nm] : List Str), 1), (["="], 1), (us, k), ([";"], 1)] = k + 3 := by
        simp only [cost, List.map_cons, List.map_nil, List.sum_cons, List.sum_nil]
        omega
      refine madeP (dr3.same s45) (Td.mono (TS.of s5) _ _ hx) pl (by omega) fun p6 H6 s6 m6 => ?_
      have sx := s45.trans s6
      rw [ec] at m6
      exact q p6 H6 _ _ _ (IB.it (.inr (.inr (.inl ⟨nm, t, us, on, he, rfl, by simp [toks]⟩)))) (by omega) m6 (dr3.same sx) (rm3.same sx) (k3.trans (K2.same sx))
  · have wne : ws.map V.str ≠ [] := fun e => by
      rw [e] at hne
      exact absurd hne (by decide)
    refine ⟨_, rfl, _, rfl, _, _, rfl, d, c, _, rfl, dr1, wne, by rw [List.length_map]; omega, .inl ⟨W, rfl, Wd, hW1⟩, fun v H2 hv dr2 k2 => ?_⟩
    obtain ⟨wd, hwd, rfl⟩ := List.mem_map.mp hv
    have rm2 := rm1.keep dr1 k2
    refine ⟨_, rfl, _, rfl, _, _, _, rfl, d, c, m, 4, rfl, rfl, rfl, by omega, by omega, dr2, rm2, mc, fun p3 H3 t us k he lk m3 dr3 rm3 k3 => ?_⟩
    obtain ⟨ev, _, _, _, h3, hev, _⟩ := id m3
    refine ⟨_, rfl, _, rfl, p3, _, _, _, rfl, rfl, SqL.of h3, at_n 0 rfl, sl 2, fun t4 n4 => ⟨_, rfl, _, rfl, sl 3, fun l5 n5 => ?_⟩⟩
    have s4 := same_new (o := .tup [V.str wd, ev]) n4
    have hx := td2 (a := .str wd) (b := ev) (x := .str wd) (y := t) n4 rfl hev
    have s5 := same_new (o := .lst [V.str wd, V.ref p3, V.str ";"]) n5
    have s45 := s4.trans s5
    have pl : PLs d (upd (upd H3 t4 (.tup [V.str wd, ev])) l5 (.lst [V.str wd, V.ref p3, V.str ";"])) l5 [(([wd] : List Str), 1), (us, k), ([";"], 1)] :=
      ⟨_, upd_same, .inl ⟨_, rfl, rfl⟩, .inr ⟨p3, t, [], rfl, m3.same s45⟩, .inl ⟨_, rfl, rfl⟩, trivial⟩
    have ec : cost [(([wd] : List Str), 1), (us, k), ([";"], 1)] = k + 2 := by
      simp only [cost, List.map_cons, List.map_nil, List.sum_cons, List.sum_nil]
      omega
    refine madeP (dr3.same s45) (Td.mono (TS.of s5) _ _ hx) pl (by omega) fun p6 H6 s6 m6 => ?_
    have sx := s45.trans s6
    rw [ec] at m6
    exact q p6 H6 _ _ _ (IB.it (.inr (.inr (.inr (.inr ⟨wd, t, us, hws wd hwd, he, rfl, by simp [toks]⟩))))) (by omega) m6 (dr3.same sx) (rm3.same sx) (((K1.trans (K2.of k2)).trans k3).trans (K2.same sx))
end

section
variable {P : Program} {w : World} {K : PySem.W.Frag} {mg : Str → Option Value} {base : Heap}
theorem okR5 {x : Str} {st : Stmt} {f : Addr} {fd : FuncData} {N ps : List Str} {k : Nat} {R : V → V → V → V → V → Hp → VK → Prop} (F : FunD K x x (defArgs st) (defBody st) (defScope st) [] [] f fd) (S : FnScope N ps (defScope st)) (hl : ps.length = 5)
    (body : ∀ (cdv : Value) (A : Around) (outer : List Env) (s : Shared) (H : Hp) (Q : VK) (E : XK) (a b c d e : V), Room k (A.deeper (envOfC x (defScope st) s.heap.objs.size f cdv)) → R a b c d e H Q →
      ∃ t, PSs (cxOf CX0 P w K mg base N x (defScope st) f cdv A outer s H E).nox (defBody st) t ∧ t { nx := fun _ H' => Q .non H', rt := Q } (start N [a, b, c, d, e]) H) : FnOk P w K mg base CX0 (k + 1) f fd ps (sp5 R) := by
  refine okR F S (fun vs H Q E h => ?_) fun cdv A outer s H vs Q E hr h => ?_
  · obtain ⟨_, _, _, _, _, rfl, _⟩ := h
    exact hl.symm
  · obtain ⟨a, b, c, d, e, rfl, h⟩ := h
    exact body cdv A outer s H Q E a b c d e hr h
end

section
variable {P : Program} {w : World} {K : PySem.W.Frag} {mg : Str → Option Value} {base : Heap}
theorem rec_itemsd (T : Tx K mg w) (n : Nat) (hn : n ≤ 2) (ihI : FnOk P w K mg base CX0 (46 + 4 * n) T.f_drawn_item T.fd_drawn_item ["_law_d", "_law_deep", "_law_words", "_law_room"] (sp4 (rItemD n))) : FnOk P w K mg base CX0 (47 + 4 * n) T.f_drawn_items T.fd_drawn_items ["_law_d", "_law_many", "_law_deep", "_law_words", "_law_room"] (sp5 (rItemsD n)) := by
  rw [show 47 + 4 * n = (46 + 4 * n) + 1 by omega]
  refine okR5 T.F_drawn_items sc_drawn_items rfl fun cdv A outer s H Q EE x y1 y z z2 hr h => ?_
  obtain ⟨d, c, m, W, ws, many, rfl, rfl, hmany, rfl, rfl, rfl, hW, hws, lws, Wd, Wm, dr, rm, mc, q⟩ := h
  refine ⟨_, pss_cons (ps_set (i := 5) sc_drawn_items.nd rfl (Or.inl rfl) (pe_lst pa_nil))
      (pss_cons (ps_for PassesOwn.never rfl (pi_range1 rfl T.z_range (pa_cons (pv 1) pa_nil)) (pg_name (i := 6) sc_drawn_items.nd rfl (Or.inl rfl))
      (pss_one (ps_if (pt_cmpR op_gt (pe_ix ix_list (pv 4) pe_int (fun _ _ => rfl)) pe_int (nomark _)) (pss_cons (ps_set (i := 7) sc_drawn_items.nd rfl (Or.inl rfl) (pe_call ihI (hr.mono (by omega)) rfl T.m_drawn_item T.F_drawn_item.kp T.b_drawn_item .nil pass0 (pa_cons (pv 0) (pa_cons (pv 2) (pa_cons (pv 3) (pa_cons (pv 4) pa_nil))))))
      (pss_cons (ps_asg (pe_op op_sub (pe_ix ix_list (pv 4) pe_int (fun _ _ => rfl)) (pe_callB call_len_seq (by rfl) T.z_len (by decide +kernel) (pa_cons (pe_ix ix_list (pv 7) pe_int (fun _ _ => rfl)) pa_nil))) (pg_sub (pv 4) pe_int set_list))
      (pss_one (ps_expr (pe_bm PySem.F.plainAttrs_list PySem.F.slot_list_append PySem.F.type_list_append mt_append (pv 5) (pa_cons (pv 7) pa_nil)))))) pss_nil)))
      (pss_one (ps_ret (pv 5)))), ?_⟩
  refine ⟨sl 0, fun L nL => ?_⟩
  have sL := same_new (o := .lst []) nL
  have Ld := dr.dne nL
  have Lc := dr.cne nL
  have Lm := rm.ne2 nL
  have HL : ∀ b o, H b = some o → b ≠ L := fun b o e => ne_of_none e nL
  have bb := bI_le hn
  refine ⟨_, rfl, many, rfl, by omega, by omega, for_range (lo := 0) (n := ((many : Nat) : Int).toNat) (fun i σ H' => ∃ (qs : List (PyData × List Str × Nat)) (v6 v7 : Option V), σ = [some (.ref d), some (.int (many : Int)), some (.int (n : Int)), some (.ref W), some (.ref m), some (.ref L), v6, v7] ∧ TLs (IT n) (bI n) d H' L qs ∧ qs.length ≤ i ∧ H' W = some (.lst (ws.map V.str)) ∧ Dr d c H' ∧ Rm m H' ∧ K2 d m H H') ⟨[], none, none, rfl, ⟨[], upd_same, trivial⟩, Nat.zero_le _, sL _ _ hW, dr.same sL, rm.same sL, K2.same sL⟩ ?_ ?_⟩
  · rintro i σ H1 hi ⟨qs, v6, v7, rfl, tl, lq, hW1, dr1, rm1, k1⟩
    obtain ⟨ra, rb, hrm⟩ := id rm1
    refine ⟨_, rfl, m, _, _, _, rfl, rfl, SqL.of hrm, at_n 0 rfl, _, _, rfl, rfl, _, rfl, ite2 (fun _ => ?_) (fun _ => ⟨qs, _, _, rfl, tl, by omega, hW1, dr1, rm1, k1⟩)⟩
    refine ⟨_, rfl, _, rfl, _, rfl, _, rfl, _, _, _, _, rfl, d, c, m, W, ws, rfl, rfl, rfl, rfl, hW1, hws, lws, Wd, Wm, dr1, rm1, mc, fun p2 H2 t us k ht lk m2 dr2 rm2 k2 => ?_⟩
    have tl2 := tl.k2 dr1 rm1 k2 Ld Lm
    obtain ⟨rc, rd, hrm2⟩ := id rm2
    obtain ⟨v, a, b, ls, h2, hv, ha, hb, _⟩ := id m2
    refine ⟨_, rfl, m, _, _, _, rfl, rfl, SqL.of hrm2, at_n 0 rfl, _, rfl, p2, _, _, _, rfl, rfl, SqL.of h2, at_n 2 rfl, b, _, rfl, .inl (SqL.of hb), _, _, rfl, rfl, ?_⟩
    refine ⟨_, rfl, m, _, _, 0, rfl, rfl, hrm2, rfl, ?_⟩
    have kr : K2 d m H2 (upd H2 m (.lst ([V.int rc, V.int rd].set 0 (V.int (rc - ((ls.map V.str).length : Int)))))) := K2.room
    have dr3 := dr2.else (o := .lst ([V.int rc, V.int rd].set 0 (V.int (rc - ((ls.map V.str).length : Int))))) (rm2.ne dr2) mc
    have rm3 : Rm m (upd H2 m (.lst ([V.int rc, V.int rd].set 0 (V.int (rc - ((ls.map V.str).length : Int)))))) := ⟨_, _, upd_same⟩
    have m3 := m2.k2 dr2 rm2 kr
    have tl3 := tl2.k2 dr2 rm2 kr Ld Lm
    have hW3 := kr _ _ (k2 _ _ hW1 Wd Wm) Wd Wm
    have k3 := (k1.trans k2).trans kr
    obtain ⟨vs3, hL3, al3⟩ := id tl3
    have l3 := All2.len al3
    dsimp only [rI0] at *
    refine ⟨_, rfl, .inl ⟨rfl, _, SqL.of hL3⟩, _, rfl, L, _, _, rfl, rfl, hL3, small1000 (by omega), ?_⟩
    refine ⟨qs ++ [(t, us, k)], _, _, rfl, TLs.push hL3 al3 ⟨ht, lk, p2, rfl, IT.ne ht, m3⟩, by rw [List.length_append]; simp only [List.length_cons, List.length_nil]; omega, upd_else hW3 (HL _ _ hW), dr3.else Ld Lc, ?_, fun b o e n1 n2 => upd_else (k3 b o e n1 n2) (HL b o e)⟩
    obtain ⟨x1, x2, h⟩ := rm3
    exact ⟨x1, x2, upd_else h Lm.symm⟩
  · rintro σ H1 ⟨qs, v6, v7, rfl, tl, lq, hW1, dr1, rm1, k1⟩
    exact ⟨_, rfl, q L H1 qs tl (by omega) nL Ld Lc Lm dr1 rm1 k1⟩
end

section
variable {P : Program} {w : World} {K : PySem.W.Frag} {mg : Str → Option Value} {base : Heap}
theorem few_turns {r : Int} (h0 : 0 ≤ r) (h1 : r < 4) : ∃ n : Nat, atI [V.int 0, V.int 1, V.int 0, V.int 2] r = some (.int (n : Int)) ∧ n ≤ 2 := by
  rcases (show r = 0 ∨ r = 1 ∨ r = 2 ∨ r = 3 by omega) with rfl | rfl | rfl | rfl
  · exact ⟨0, at_n 0 rfl, by omega⟩
  · exact ⟨1, at_n 1 rfl, by omega⟩
  · exact ⟨0, at_n 2 rfl, by omega⟩
  · exact ⟨2, at_n 3 rfl, by omega⟩
theorem rec_stated (T : Tx K mg w) (n : Nat) (hn : n ≤ 2) (ihI : FnOk P w K mg base CX0 (47 + 4 * n) T.f_drawn_items T.fd_drawn_items ["_law_d", "_law_many", "_law_deep", "_law_words", "_law_room"] (sp5 (rItemsD n))) : FnOk P w K mg base CX0 (48 + 4 * n) T.f_drawn_state T.fd_drawn_state ["_law_d", "_law_deep", "_law_room"] (sp3 (rStateD n)) := by
  rw [show 48 + 4 * n = (47 + 4 * n) + 1 by omega]
  refine okR3 T.F_drawn_state sc_drawn_state rfl fun cdv A outer s H Q EE x y z hr h => ?_
  obtain ⟨d, c, m, rfl, rfl, rfl, dr, rm, mc, q⟩ := h
  refine ⟨_, pss_cons (ps_set (i := 3) sc_drawn_state.nd rfl (Or.inl rfl) (pe_call (ok_drawn_name T) (hr.mono (by omega)) rfl T.m_drawn_name T.F_drawn_name.kp T.b_drawn_name .nil pass0 (pa_cons (pv 0) pa_nil)))
      (pss_cons (ps_set (i := 4) sc_drawn_state.nd rfl (Or.inl rfl) (pe_call (ok_drawn_turns T) (hr.mono (by omega)) rfl T.m_drawn_turns T.F_drawn_turns.kp T.b_drawn_turns .nil pass0 (pa_cons (pv 0) (pa_cons pe_str (pa_cons (pe_ix ix_list (pe_lst (pa_cons pe_int (pa_cons pe_int (pa_cons pe_int (pa_cons pe_int pa_nil))))) (pe_call (ok_draw T) (hr.mono (by omega)) rfl T.m_draw T.F_draw.kp T.b_draw .nil pass0 (pa_cons (pv 0) (pa_cons pe_int pa_nil))) (fun _ _ => rfl)) (pa_cons (pv 2) pa_nil))))))
      (pss_cons (ps_set (i := 5) sc_drawn_state.nd rfl (Or.inl rfl) (pe_call ihI (hr.mono (by omega)) rfl T.m_drawn_items T.F_drawn_items.kp T.b_drawn_items .nil pass0 (pa_cons (pv 0) (pa_cons (pe_call (ok_draw T) (hr.mono (by omega)) rfl T.m_draw T.F_draw.kp T.b_draw .nil pass0 (pa_cons (pv 0) (pa_cons pe_int pa_nil))) (pa_cons (pv 1) (pa_cons (pe_lst pa_nil) (pa_cons (pv 2) pa_nil)))))))
      (pss_cons (ps_set (i := 6) sc_drawn_state.nd rfl (Or.inl rfl) (pe_call (ok_drawn_turns T) (hr.mono (by omega)) rfl T.m_drawn_turns T.F_drawn_turns.kp T.b_drawn_turns .nil pass0 (pa_cons (pv 0) (pa_cons pe_str (pa_cons (pe_ix ix_list (pe_lst (pa_cons pe_int (pa_cons pe_int (pa_cons pe_int (pa_cons pe_int pa_nil))))) (pe_call (ok_draw T) (hr.mono (by omega)) rfl T.m_draw T.F_draw.kp T.b_draw .nil pass0 (pa_cons (pv 0) (pa_cons pe_int pa_nil))) (fun _ _ => rfl)) (pa_cons (pv 2) pa_nil))))))
      (pss_cons (ps_set (i := 7) sc_drawn_state.nd rfl (Or.inl rfl) (pe_tup (pa_cons (pv 3) (pa_cons (pe_call (ok_trees T) (hr.mono (by omega)) rfl T.m_trees T.F_trees.kp T.b_trees .nil pass0 (pa_cons (pv 4) pa_nil)) (pa_cons (pe_call (ok_trees T) (hr.mono (by omega)) rfl T.m_trees T.F_trees.kp T.b_trees .nil pass0 (pa_cons (pv 5) pa_nil)) (pa_cons (pe_call (ok_trees T) (hr.mono (by omega)) rfl T.m_trees T.F_trees.kp T.b_trees .nil pass0 (pa_cons (pv 6) pa_nil)) pa_nil))))))
      (pss_cons (ps_set (i := 8) sc_drawn_state.nd rfl (Or.inl rfl) (pe_call (ok_made T) (hr.mono (by omega)) rfl T.m_made T.F_made.kp T.b_made .nil pass0 (pa_cons (pv 7) (pa_cons (pe_op op_cat (pe_op op_cat (pe_op op_cat (pe_op op_cat (pe_lst (pa_cons pe_str (pa_cons (pv 3) (pa_cons pe_str pa_nil)))) (pv 4)) (pv 5)) (pv 6)) (pe_lst (pa_cons pe_str pa_nil))) pa_nil))))
      (pss_cons (ps_asg (pe_op op_sub (pe_ix ix_list (pv 2) pe_int (fun _ _ => rfl)) (pe_callB call_len_seq (by rfl) T.z_len (by decide +kernel) (pa_cons (pe_ix ix_list (pv 8) pe_int (fun _ _ => rfl)) pa_nil))) (pg_sub (pv 2) pe_int set_list))
      (pss_one (ps_ret (pv 8))))))))), ?_⟩
  have bb := bI_le hn
  refine ⟨_, rfl, _, rfl, d, c, rfl, dr, fun nm H1 on dr1 k1 => ?_⟩
  have rm1 := rm.keep dr k1
  refine ⟨_, rfl, sl 4, fun l2 n2 => ?_⟩
  have s2 := same_new (o := .lst [V.int 0, V.int 1, V.int 0, V.int 2]) n2
  refine ⟨_, rfl, _, _, rfl, d, c, 4, rfl, rfl, dr1.same s2, by omega, by omega, fun r3 H3 a3 b3 dr3 k3 => ?_⟩
  obtain ⟨n3, e3, b3'⟩ := few_turns a3 b3
  have k13 : Keep d H1 H3 := (Keep.of s2).trans k3
  have rm3 := rm1.keep dr1 k13
  refine ⟨l2, _, _, _, rfl, rfl, SqL.of (k3 _ _ upd_same (dr1.dne n2)), e3, _, rfl, _, _, _, _, rfl, d, c, m, "unless", n3, rfl, rfl, rfl, rfl, b3', dr3, rm3, mc, fun U H4 qu tu lu nU Ud Uc Um dr4 rm4 k4 => ?_⟩
  have K4 : K2 d m H H4 := ((K2.of k1).trans (K2.of k13)).trans k4
  refine ⟨_, rfl, _, rfl, _, _, rfl, d, c, 3, rfl, rfl, dr4, by omega, by omega, fun r5 H5 a5 b5 dr5 k5 => ?_⟩
  obtain ⟨j5, rfl⟩ := Int.eq_ofNat_of_zero_le a5
  have rm5 := rm4.keep dr4 k5
  have tu5 := tu.keep dr4 k5 Ud
  refine ⟨_, rfl, sl 0, fun W nW => ?_⟩
  have sW := same_new (o := .lst []) nW
  have hW : upd H5 W (.lst []) W = some (.lst (([] : List Str).map V.str)) := upd_same
  refine ⟨_, rfl, _, _, _, _, _, rfl, d, c, m, W, [], j5, rfl, rfl, by omega, rfl, rfl, rfl, hW, (fun w hw => by cases hw), Nat.zero_le _, dr5.dne nW, rm5.ne2 nW, dr5.same sW, rm5.same sW, mc, fun I H6 qi ti li nI Id Ic Im dr6 rm6 k6 => ?_⟩
  have tu6 := (tu5.same sW).k2 (dr5.same sW) (rm5.same sW) k6 Ud Um
  have K6 : K2 d m H H6 := ((K4.trans (K2.of k5)).trans (K2.same sW)).trans k6
  refine ⟨_, rfl, sl 4, fun l7 n7 => ?_⟩
  have s7 := same_new (o := .lst [V.int 0, V.int 1, V.int 0, V.int 2]) n7
  refine ⟨_, rfl, _, _, rfl, d, c, 4, rfl, rfl, dr6.same s7, by omega, by omega, fun r8 H8 a8 b8 dr8 k8 => ?_⟩
  obtain ⟨n8, e8, b8'⟩ := few_turns a8 b8
  have k68 : Keep d H6 H8 := (Keep.of s7).trans k8
  have rm8 := rm6.keep dr6 k68
  refine ⟨l7, _, _, _, rfl, rfl, SqL.of (k8 _ _ upd_same (dr6.dne n7)), e8, _, rfl, _, _, _, _, rfl, d, c, m, "until", n8, rfl, rfl, rfl, rfl, b8', dr8, rm8, mc, fun F H9 qf tf lf nF Fd Fc Fm dr9 rm9 k9 => ?_⟩
  have tu9 := (tu6.keep dr6 k68 Ud).k2 dr8 rm8 k9 Ud Um
  have ti9 := (ti.keep dr6 k68 Id).k2 dr8 rm8 k9 Id Im
  have K9 : K2 d m H H9 := (K6.trans (K2.of k68)).trans k9
  have cu := TLs.cost tu9
  have ci := TLs.cost ti9
  have cf := TLs.cost tf
  have cu2 : costQ qu ≤ 266 * 2 := Nat.le_trans cu (Nat.mul_le_mul_left 266 lu)
  have cf2 : costQ qf ≤ 266 * 2 := Nat.le_trans cf (Nat.mul_le_mul_left 266 lf)
  have ci2 : costQ qi ≤ bI n * 2 := Nat.le_trans ci (Nat.mul_le_mul_left (bI n) (by omega))
  have rel : STt (IT n) (.tuple [.str nm, .tuple (qu.map (·.1)), .tuple (qi.map (·.1)), .tuple (qf.map (·.1))]) ((["state", nm] : List Str) ++ ((["{"] : List Str) ++ (qu.map (·.2.1) ++ qi.map (·.2.1) ++ qf.map (·.2.1)).flatten ++ (["}"] : List Str))) :=
    ⟨nm, _, _, _, _, _, _, on, TLs.rel tu9, TLs.rel ti9, TLs.rel tf, by rw [List.length_map]; omega, by rw [List.length_map]; omega, by rw [List.length_map]; omega, rfl, rfl⟩
  refine ⟨_, rfl, _, rfl, treesP tu9 (by omega) fun v1 Ha sa ha => ?_⟩
  refine ⟨_, rfl, treesP (ti9.same sa) (by omega) fun v2 Hb sb hb => ?_⟩
  refine ⟨_, rfl, treesP (tf.same (sa.trans sb)) (by omega) fun v3 Hc sc hc => ⟨sl 4, fun tt nt => ?_⟩⟩
  have st := same_new (o := .tup [V.str nm, v1, v2, v3]) nt
  have hx := td4 (a := .str nm) (b := v1) (c := v2) (d := v3) (x := .str nm) (y := .tuple (qu.map (·.1))) (z := .tuple (qi.map (·.1))) (u := .tuple (qf.map (·.1))) nt rfl (Td.mono (TS.of (sb.trans sc)) _ _ ha) (Td.mono (TS.of sc) _ _ hb) hc
  have s9t := ((sa.trans sb).trans sc).trans st
  generalize upd Hc tt (.tup [V.str nm, v1, v2, v3]) = Ht at hx s9t ⊢
  refine ⟨_, rfl, _, rfl, sl 3, fun la na => ?_⟩
  have s1 := same_new (o := .lst [V.str "state", V.str nm, V.str "{"]) na
  have p1 : PLs d (upd Ht la (.lst [V.str "state", V.str nm, V.str "{"])) la (strP ["state", nm, "{"]) := PLs.strs upd_same
  have lq : ∀ {qs : List (PyData × List Str × Nat)}, (qs.map fun q => q.2).length = qs.length := List.length_map _
  refine ⟨_, rfl, catP p1 (PLs.things (tu9.same (s9t.trans s1))) (by rw [lq]; show 3 + _ ≤ 1000; omega) fun lb Hd nb sd pd => ?_⟩
  refine ⟨_, rfl, catP pd (PLs.things (ti9.same ((s9t.trans s1).trans sd))) (by rw [List.length_append, lq, lq]; show 3 + _ + _ ≤ 1000; omega) fun lc He nc se pe => ?_⟩
  refine ⟨_, rfl, catP pe (PLs.things (tf.same (((s9t.trans s1).trans sd).trans se))) (by rw [List.length_append, List.length_append, lq, lq, lq]; show 3 + _ + _ + _ ≤ 1000; omega) fun ld Hf nd sf pf => ?_⟩
  refine ⟨sl 1, fun lg ng => ?_⟩
  have sg := same_new (o := .lst [V.str "}"]) ng
  have pg : PLs d (upd Hf lg (.lst [V.str "}"])) lg (strP ["}"]) := PLs.strs upd_same
  refine catP (pf.same sg) pg (by rw [List.length_append, List.length_append, List.length_append, lq, lq, lq]; show 3 + _ + _ + _ + 1 ≤ 1000; omega) fun lh Hh nh sh ph => ?_
  have sx := ((((s1.trans sd).trans se).trans sf).trans sg).trans sh
  have sy := s9t.trans sx
  have ec : cost (strP ["state", nm, "{"] ++ (qu.map fun q => q.2) ++ (qi.map fun q => q.2) ++ (qf.map fun q => q.2) ++ strP ["}"]) = 4 + costQ qu + costQ qi + costQ qf := by
    rw [cost_app, cost_app, cost_app, cost_app, cost_strP, cost_strP, cost_qs, cost_qs, cost_qs]
    simp only [List.length_cons, List.length_nil]
    omega
  have et : toks (strP ["state", nm, "{"] ++ (qu.map fun q => q.2) ++ (qi.map fun q => q.2) ++ (qf.map fun q => q.2) ++ strP ["}"]) = (["state", nm] : List Str) ++ ((["{"] : List Str) ++ (qu.map (·.2.1) ++ qi.map (·.2.1) ++ qf.map (·.2.1)).flatten ++ (["}"] : List Str)) := by
    rw [toks_app, toks_app, toks_app, toks_app, toks_strP, toks_strP, toks_qs, toks_qs, toks_qs, List.flatten_append, List.flatten_append]
    simp only [List.append_assoc, List.cons_append, List.nil_append]
  refine madeP (dr9.same sy) (Td.mono (TS.of sx) _ _ hx) ph (by omega) fun pm Hm sm mm => ?_
  rw [et, ec] at mm
  have sz := sy.trans sm
  have drz := dr9.same sz
  have rmz := rm9.same sz
  have Kz := K9.trans (K2.same sz)
  obtain ⟨rc, rd, hrm⟩ := id rmz
  obtain ⟨v, a, b, ls, h2, hv, ha', hb', _⟩ := id mm
  refine ⟨_, rfl, m, _, _, _, rfl, rfl, SqL.of hrm, at_n 0 rfl, _, rfl, pm, _, _, _, rfl, rfl, SqL.of h2, at_n 2 rfl, b, _, rfl, .inl (SqL.of hb'), _, _, rfl, rfl, ?_⟩
  refine ⟨_, rfl, m, _, _, 0, rfl, rfl, hrm, rfl, ?_⟩
  refine ⟨_, rfl, q pm _ _ _ _ rel (by omega) (mm.k2 drz rmz K2.room) (drz.else (rmz.ne drz) mc) ⟨_, _, upd_same⟩ (Kz.trans K2.room)⟩
theorem rec_machd (T : Tx K mg w) (n : Nat) (hn : n ≤ 2) (ihS : FnOk P w K mg base CX0 (48 + 4 * n) T.f_drawn_state T.fd_drawn_state ["_law_d", "_law_deep", "_law_room"] (sp3 (rStateD n))) : FnOk P w K mg base CX0 (49 + 4 * n) T.f_drawn_machine T.fd_drawn_machine ["_law_d", "_law_deep", "_law_room"] (sp3 (rMachD n)) := by
  rw [show 49 + 4 * n = (48 + 4 * n) + 1 by omega]
  refine okR3 T.F_drawn_machine sc_drawn_machine rfl fun cdv A outer s H Q EE x y z hr h => ?_
  obtain ⟨d, c, m, rfl, rfl, rfl, dr, rm, mc, q⟩ := h
  refine ⟨_, pss_cons (ps_set (i := 3) sc_drawn_machine.nd rfl (Or.inl rfl) (pe_call (ok_drawn_name T) (hr.mono (by omega)) rfl T.m_drawn_name T.F_drawn_name.kp T.b_drawn_name .nil pass0 (pa_cons (pv 0) pa_nil)))
      (pss_cons (ps_set (i := 4) sc_drawn_machine.nd rfl (Or.inl rfl) (pe_lst (pa_cons (pe_call ihS (hr.mono (by omega)) rfl T.m_drawn_state T.F_drawn_state.kp T.b_drawn_state .nil pass0 (pa_cons (pv 0) (pa_cons (pv 1) (pa_cons (pv 2) pa_nil)))) pa_nil)))
      (pss_cons (ps_for PassesOwn.never rfl (pi_range1 rfl T.z_range (pa_cons (pe_call (ok_draw T) (hr.mono (by omega)) rfl T.m_draw T.F_draw.kp T.b_draw .nil pass0 (pa_cons (pv 0) (pa_cons pe_int pa_nil))) pa_nil)) (pg_name (i := 5) sc_drawn_machine.nd rfl (Or.inl rfl))
      (pss_one (ps_if (pt_cmpR op_gt (pe_ix ix_list (pv 2) pe_int (fun _ _ => rfl)) pe_int (nomark _)) (pss_one (ps_expr (pe_bm PySem.F.plainAttrs_list PySem.F.slot_list_append PySem.F.type_list_append mt_append (pv 4) (pa_cons (pe_call ihS (hr.mono (by omega)) rfl T.m_drawn_state T.F_drawn_state.kp T.b_drawn_state .nil pass0 (pa_cons (pv 0) (pa_cons (pv 1) (pa_cons (pv 2) pa_nil)))) pa_nil)))) pss_nil)))
      (pss_one (ps_ret (pe_call (ok_made T) (hr.mono (by omega)) rfl T.m_made T.F_made.kp T.b_made .nil pass0 (pa_cons (pe_tup (pa_cons pe_str (pa_cons (pv 3) (pa_cons (pe_call (ok_trees T) (hr.mono (by omega)) rfl T.m_trees T.F_trees.kp T.b_trees .nil pass0 (pa_cons (pv 4) pa_nil)) pa_nil)))) (pa_cons (pe_op op_cat (pe_op op_cat (pe_lst (pa_cons pe_str (pa_cons (pv 3) (pa_cons pe_str pa_nil)))) (pv 4)) (pe_lst (pa_cons pe_str pa_nil))) pa_nil))))))), ?_⟩
  have bb := bI_le hn
  have bs : bI (n + 1) = 4 + 3 * (1068 + 2 * bI n) := rfl
  refine ⟨_, rfl, _, rfl, d, c, rfl, dr, fun nm H1 on dr1 k1 => ?_⟩
  have rm1 := rm.keep dr k1
  refine ⟨_, rfl, _, rfl, _, rfl, _, _, _, rfl, d, c, m, rfl, rfl, rfl, dr1, rm1, mc, fun p2 H2 t us k ht lk m2 dr2 rm2 k2 => ?_⟩
  have K2' : K2 d m H H2 := (K2.of k1).trans k2
  refine ⟨sl 1, fun L nL => ?_⟩
  have sL := same_new (o := .lst [V.ref p2]) nL
  have Ld := dr2.dne nL
  have Lc := dr2.cne nL
  have Lm := rm2.ne2 nL
  have HL : ∀ b o, H b = some o → b ≠ d → b ≠ m → b ≠ L := fun b o e n1 n2 => ne_of_none (K2' b o e n1 n2) nL
  have tl0 : TLs (STt (IT n)) (1068 + 2 * bI n) d (upd H2 L (.lst [V.ref p2])) L [(t, us, k)] := ⟨_, upd_same, ⟨ht, lk, p2, rfl, ht.ne, m2.same sL⟩, trivial⟩
  refine ⟨_, rfl, _, _, rfl, d, c, 3, rfl, rfl, dr2.same sL, by omega, by omega, fun r3 H3 a3 b3 dr3 k3 => ?_⟩
  have tl3 := tl0.keep (dr2.same sL) k3 Ld
  have rm3 := (rm2.same sL).keep (dr2.same sL) k3
  refine ⟨r3, rfl, by omega, by omega, for_range (lo := 0) (n := r3.toNat) (fun i σ H' => ∃ (qs : List (PyData × List Str × Nat)) (v5 : Option V), σ = [some (.ref d), some (.int (n : Int)), some (.ref m), some (.str nm), some (.ref L), v5] ∧ TLs (STt (IT n)) (1068 + 2 * bI n) d H' L qs ∧ qs.length ≤ 1 + i ∧ Dr d c H' ∧ Rm m H' ∧ K2 d m H H') ⟨_, none, rfl, tl3, by simp, dr3, rm3, (K2'.trans (K2.same sL)).trans (K2.of k3)⟩ ?_ ?_⟩
  · rintro i σ H4 hi ⟨qs, v5, rfl, tl, lq, dr4, rm4, k4⟩
    obtain ⟨ra, rb, hrm⟩ := id rm4
    refine ⟨_, rfl, m, _, _, _, rfl, rfl, SqL.of hrm, at_n 0 rfl, _, _, rfl, rfl, _, rfl, ite2 (fun _ => ?_) (fun _ => ⟨qs, _, rfl, tl, by omega, dr4, rm4, k4⟩)⟩
    obtain ⟨vs4, hL4, al4⟩ := id tl
    refine ⟨_, rfl, .inl ⟨rfl, _, SqL.of hL4⟩, _, rfl, _, rfl, _, rfl, _, _, _, rfl, d, c, m, rfl, rfl, rfl, dr4, rm4, mc, fun p5 H5 t5 us5 k5 ht5 lk5 m5 dr5 rm5 kk5 => ?_⟩
    have tl5 := tl.k2 dr4 rm4 kk5 Ld Lm
    obtain ⟨vs5, hL5, al5⟩ := id tl5
    have l5 := All2.len al5
    refine ⟨L, _, _, rfl, rfl, kk5 _ _ hL4 Ld Lm, small1000 (by have := All2.len al4; omega), ?_⟩
    have hvs : vs5 = vs4 := by
      have e := hL5.symm.trans (kk5 _ _ hL4 Ld Lm)
      injection (Option.some.inj e)
    subst hvs
    refine ⟨qs ++ [(t5, us5, k5)], _, rfl, TLs.push hL5 al5 ⟨ht5, lk5, p5, rfl, ht5.ne, m5⟩, by rw [List.length_append]; simp only [List.length_cons, List.length_nil]; omega, dr5.else Ld Lc, ?_, fun b o e n1 n2 => upd_else ((k4.trans kk5) b o e n1 n2) (HL b o e n1 n2)⟩
    obtain ⟨x1, x2, h⟩ := rm5
    exact ⟨x1, x2, upd_else h Lm.symm⟩
  · rintro σ H4 ⟨qs, v5, rfl, tl, lq, dr4, rm4, k4⟩
    have lq3 : qs.length ≤ 3 := by omega
    have cq : costQ qs ≤ (1068 + 2 * bI n) * 3 := Nat.le_trans (TLs.cost tl) (Nat.mul_le_mul_left _ lq3)
    refine ⟨_, rfl, _, rfl, treesP tl (by omega) fun v1 Ha sa ha => ⟨sl 3, fun tt nt => ?_⟩⟩
    have st := same_new (o := .tup [V.str "machine", V.str nm, v1]) nt
    have hx := td3 (a := .str "machine") (b := .str nm) (c := v1) (x := .str "machine") (y := .str nm) (z := .tuple (qs.map (·.1))) nt rfl rfl ha
    have s4t := sa.trans st
    generalize upd Ha tt (.tup [V.str "machine", V.str nm, v1]) = Ht at hx s4t ⊢
    refine ⟨_, rfl, sl 3, fun la na => ?_⟩
    have s1 := same_new (o := .lst [V.str "machine", V.str nm, V.str "{"]) na
    have p1 : PLs d (upd Ht la (.lst [V.str "machine", V.str nm, V.str "{"])) la (strP ["machine", nm, "{"]) := PLs.strs upd_same
    have lqm : ∀ {qs : List (PyData × List Str × Nat)}, (qs.map fun q => q.2).length = qs.length := List.length_map _
    refine ⟨_, rfl, catP p1 (PLs.things (tl.same (s4t.trans s1))) (by rw [lqm]; show 3 + _ ≤ 1000; omega) fun lb Hd nb sd pd => ?_⟩
    refine ⟨sl 1, fun lg ng => ?_⟩
    have sg := same_new (o := .lst [V.str "}"]) ng
    have pg : PLs d (upd Hd lg (.lst [V.str "}"])) lg (strP ["}"]) := PLs.strs upd_same
    refine catP (pd.same sg) pg (by rw [List.length_append, lqm]; show 3 + _ + 1 ≤ 1000; omega) fun lh Hh nh sh ph => ?_
    have sx := ((s1.trans sd).trans sg).trans sh
    have ec : cost (strP ["machine", nm, "{"] ++ (qs.map fun q => q.2) ++ strP ["}"]) = 4 + costQ qs := by
      rw [cost_app, cost_app, cost_strP, cost_strP, cost_qs]
      simp only [List.length_cons, List.length_nil]
      omega
    have et : toks (strP ["machine", nm, "{"] ++ (qs.map fun q => q.2) ++ strP ["}"]) = (["machine", nm] : List Str) ++ ((["{"] : List Str) ++ (qs.map (·.2.1)).flatten ++ (["}"] : List Str)) := by
      rw [toks_app, toks_app, toks_strP, toks_strP, toks_qs]
      simp only [List.append_assoc, List.cons_append, List.nil_append]
    refine madeP (dr4.same (s4t.trans sx)) (Td.mono (TS.of sx) _ _ hx) ph (by omega) fun pm Hm sm mm => ?_
    rw [et, ec] at mm
    have sz := (s4t.trans sx).trans sm
    exact q pm Hm _ _ _ (.inr ⟨nm, _, _, on, by rw [List.length_map]; omega, TLs.rel tl, rfl, rfl⟩) (by omega) mm (dr4.same sz) (rm4.same sz) (k4.trans (K2.same sz))
theorem itemd_all (T : Tx K mg w) : ∀ n, n ≤ 2 → FnOk P w K mg base CX0 (46 + 4 * n) T.f_drawn_item T.fd_drawn_item ["_law_d", "_law_deep", "_law_words", "_law_room"] (sp4 (rItemD n))
  | 0, _ => itemd_base T
  | n + 1, h => rec_itemd T n (by omega) (rec_machd T n (by omega) (rec_stated T n (by omega) (rec_itemsd T n (by omega) (itemd_all T n (by omega)))))
theorem ok_drawn_items (T : Tx K mg w) : FnOk P w K mg base CX0 55 T.f_drawn_items T.fd_drawn_items ["_law_d", "_law_many", "_law_deep", "_law_words", "_law_room"] (sp5 (rItemsD 2)) := rec_itemsd T 2 (by decide) (itemd_all T 2 (by decide))
end

def rDeclD : V → V → Hp → VK → Prop := fun x y H Q => ∃ (d c : Addr) (wd : Str), x = .ref d ∧ y = .str wd ∧ Dr d c H ∧ ∀ (p : Addr) (H' : Hp) (t : PyData) (us : List Str) (k : Nat), (wd = "out" → DeclT t us) → (¬ wd = "out" → InT t us) → k ≤ 103 → Mk d H' p t us k [] → Dr d c H' → Keep d H H' → Q (.ref p) H'
def rUnitD : V → V → Hp → VK → Prop := fun x y H Q => ∃ d c m : Addr, x = .ref d ∧ y = .ref m ∧ Dr d c H ∧ Rm m H ∧ m ≠ c ∧ rOneD UnitT 328900 d c m H Q
def rPartsD : V → V → Hp → VK → Prop := fun x y H Q => ∃ d c m : Addr, x = .ref d ∧ y = .ref m ∧ Dr d c H ∧ Rm m H ∧ m ≠ c ∧ ∀ (p Kl Ul : Addr) (H' : Hp) (qk qu : List (PyData × List Str × Nat)), H' p = some (.lst [.ref Kl, .ref Ul]) → TLs NKT 110 d H' Kl qk → TLs UnitT 328900 d H' Ul qu → qk.length ≤ 2 → qu.length ≤ 3 → 1 ≤ qu.length → Dr d c H' → Rm m H' → K2 d m H H' → Q (.ref p) H'
def rWholeT : V → V → Hp → VK → Prop := fun x y H Q => ∃ (d c Kl Ul : Addr) (qk qu : List (PyData × List Str × Nat)), x = .ref Kl ∧ y = .ref Ul ∧ Dr d c H ∧ TLs NKT 110 d H Kl qk ∧ TLs UnitT 328900 d H Ul qu ∧ qk.length ≤ 2 ∧ qu.length ≤ 3 ∧ 1 ≤ qu.length ∧ ∀ (p : Addr) (H' : Hp) (t : PyData) (us : List Str) (k : Nat), ProgT t us → k ≤ 1000000 → us ≠ [] → Mk d H' p t us k [] → Same H H' → Q (.ref p) H'
def rWritten : V → Hp → VK → Prop := fun x H Q => ∃ (p : Addr) (ts : List Str), x = .ref p ∧ SL H p ts ∧ tk ts ∧ ts.length ≤ 1200000 ∧ ∀ H' : Hp, Same H H' → Q (.str (gapped ts)) H'
theorem gap_sum2 {ts : List Str} (h : tk ts) (l : ts.length ≤ 1200000) : (((ts.map fun t => [t, gapS t]).flatten).map (·.length)).sum + (ts.map fun t => [t, gapS t]).flatten.length * ("" : Str).length ≤ 16777216 := by
  have e0 : ("" : Str).length = 0 := by decide +kernel
  have : ∀ ts : List Str, tk ts → (((ts.map fun t => [t, gapS t]).flatten).map (·.length)).sum ≤ 13 * ts.length := by
    intro ts
    induction ts with
    | nil => intro _; exact Nat.le_refl _
    | cons t r ih =>
      intro h
      have h1 := h t List.mem_cons_self
      have h2 := ih fun s hs => h s (List.mem_cons_of_mem _ hs)
      have h3 := gap_len t
      rw [List.map_cons, List.flatten_cons, List.map_append, List.sum_append, List.length_cons]
      show t.length + ((gapS t).length + 0) + _ ≤ _
      omega
  have := this ts h
  rw [e0]
  omega
theorem flat2_len (ts : List Str) : (ts.map fun t => [t, gapS t]).flatten.length = 2 * ts.length := by
  induction ts with
  | nil => rfl
  | cons t r ih =>
    rw [List.map_cons, List.flatten_cons, List.length_append, ih]
    simp
    omega
theorem UnitT.ne {d : PyData} {ts : List Str} (h : UnitT d ts) : ts ≠ [] := by
  obtain ⟨_, _, _, _, _, _, _, _, _, _, _, _, _, _, _, rfl⟩ := h
  simp
theorem NKT.ne {d : PyData} {ts : List Str} (h : NKT d ts) : ts ≠ [] := by
  obtain ⟨_, _, _, _, _, _, rfl⟩ := h
  simp
section
variable {P : Program} {w : World} {K : PySem.W.Frag} {mg : Str → Option Value} {base : Heap}
theorem ok_declared (T : Tx K mg w) : FnOk P w K mg base CX0 7 T.f_declared T.fd_declared ["_law_d", "_law_word"] (sp2 rDeclD) := by
  refine okR2 T.F_declared sc_declared rfl fun cdv A outer s H Q EE x y hr h => ?_
  obtain ⟨d, c, wd, rfl, rfl, dr, q⟩ := h
  refine ⟨_, pss_cons (ps_set (i := 2) sc_declared.nd rfl (Or.inl rfl) (pe_call (ok_drawn_name T) (hr.mono (by decide)) rfl T.m_drawn_name T.F_drawn_name.kp T.b_drawn_name .nil pass0 (pa_cons (pv 0) pa_nil)))
      (pss_cons (ps_set (i := 3) sc_declared.nd rfl (Or.inl rfl) (pe_call (ok_drawn_kind T) (hr.mono (by decide)) rfl T.m_drawn_kind T.F_drawn_kind.kp T.b_drawn_kind .nil pass0 (pa_cons (pv 0) pa_nil)))
      (pss_cons (ps_if (pt_cmpR op_eq (pv 1) pe_str (nomark _)) (pss_one (ps_ret (pe_call (ok_made T) (hr.mono (by decide)) rfl T.m_made T.F_made.kp T.b_made .nil pass0 (pa_cons (pe_tup (pa_cons (pv 2) (pa_cons (pe_ix ix_list (pv 3) pe_int (fun _ _ => rfl)) pa_nil))) (pa_cons (pe_lst (pa_cons (pv 2) (pa_cons pe_str (pa_cons (pv 3) pa_nil)))) pa_nil))))) pss_nil)
      (pss_cons (ps_if (pt_cmpR op_eq (pv 1) pe_str (nomark _)) (pss_one (ps_ret (pe_call (ok_made T) (hr.mono (by decide)) rfl T.m_made T.F_made.kp T.b_made .nil pass0 (pa_cons (pe_tup (pa_cons (pv 2) (pa_cons (pe_ix ix_list (pv 3) pe_int (fun _ _ => rfl)) (pa_cons pe_int pa_nil)))) (pa_cons (pe_lst (pa_cons pe_str (pa_cons (pv 2) (pa_cons pe_str (pa_cons (pv 3) pa_nil))))) pa_nil))))) pss_nil)
      (pss_one (ps_ret (pe_call (ok_made T) (hr.mono (by decide)) rfl T.m_made T.F_made.kp T.b_made .nil pass0 (pa_cons (pe_tup (pa_cons (pv 2) (pa_cons (pe_ix ix_list (pv 3) pe_int (fun _ _ => rfl)) (pa_cons pe_int pa_nil)))) (pa_cons (pe_lst (pa_cons (pv 2) (pa_cons pe_str (pa_cons (pv 3) pa_nil)))) pa_nil)))))))), ?_⟩
  refine ⟨_, rfl, _, rfl, d, c, rfl, dr, fun nm H1 on dr1 k1 => ?_⟩
  refine ⟨_, rfl, _, rfl, d, c, rfl, dr1, fun p2 H2 t us k ⟨lk, hk⟩ m2 dr2 k2 => ?_⟩
  have k12 := k1.trans k2
  obtain ⟨kv, _, _, _, h2, hkv, _⟩ := id m2
  refine ⟨_, rfl, rfl, _, rfl, ite2 (fun h => ?_) (fun h => ?_)⟩
  · have ew := V.str.inj (of_decide_eq_true h)
    refine ⟨_, rfl, _, rfl, p2, _, _, _, rfl, rfl, SqL.of h2, at_n 0 rfl, sl 2, fun t4 n4 => ⟨_, rfl, _, rfl, sl 3, fun l5 n5 => ?_⟩⟩
    have s4 := same_new (o := .tup [V.str nm, kv]) n4
    have hx := td2 (a := .str nm) (b := kv) (x := .str nm) (y := t) n4 rfl hkv
    have s5 := same_new (o := .lst [V.str nm, V.str ":", V.ref p2]) n5
    have s45 := s4.trans s5
    have pl : PLs d (upd (upd H2 t4 (.tup [V.str nm, kv])) l5 (.lst [V.str nm, V.str ":", V.ref p2])) l5 [(([nm] : List Str), 1), ([":"], 1), (us, k)] :=
      ⟨_, upd_same, .inl ⟨_, rfl, rfl⟩, .inl ⟨_, rfl, rfl⟩, .inr ⟨p2, t, [], rfl, m2.same s45⟩, trivial⟩
    have ec : cost [(([nm] : List Str), 1), ([":"], 1), (us, k)] = k + 2 := by
      simp only [cost, List.map_cons, List.map_nil, List.sum_cons, List.sum_nil]
      omega
    refine madeP (dr2.same s45) (Td.mono (TS.of s5) _ _ hx) pl (by omega) fun p6 H6 s6 m6 => ?_
    rw [ec] at m6
    exact q p6 H6 _ _ _ (fun _ => ⟨nm, t, us, on, hk, rfl, by simp [toks]⟩) (fun n => absurd ew n) (by omega) m6 (dr2.same (s45.trans s6)) (k12.trans (Keep.of (s45.trans s6)))
  have no := (fun e => h (decide_eq_true (congrArg V.str e)) : ¬ wd = "out")
  refine ⟨_, rfl, rfl, _, rfl, ite2 (fun _ => ?_) (fun _ => ?_)⟩
  · refine ⟨_, rfl, _, rfl, p2, _, _, _, rfl, rfl, SqL.of h2, at_n 0 rfl, sl 3, fun t4 n4 => ⟨_, rfl, _, rfl, sl 4, fun l5 n5 => ?_⟩⟩
    have s4 := same_new (o := .tup [V.str nm, kv, V.int 1]) n4
    have hx := td3 (a := .str nm) (b := kv) (c := .int 1) (x := .str nm) (y := t) (z := .int 1) n4 rfl hkv rfl
    have s5 := same_new (o := .lst [V.str "event", V.str nm, V.str ":", V.ref p2]) n5
    have s45 := s4.trans s5
    have pl : PLs d (upd (upd H2 t4 (.tup [V.str nm, kv, V.int 1])) l5 (.lst [V.str "event", V.str nm, V.str ":", V.ref p2])) l5 [((["event"] : List Str), 1), ([nm], 1), ([":"], 1), (us, k)] :=
      ⟨_, upd_same, .inl ⟨_, rfl, rfl⟩, .inl ⟨_, rfl, rfl⟩, .inl ⟨_, rfl, rfl⟩, .inr ⟨p2, t, [], rfl, m2.same s45⟩, trivial⟩
    have ec : cost [((["event"] : List Str), 1), ([nm], 1), ([":"], 1), (us, k)] = k + 3 := by
      simp only [cost, List.map_cons, List.map_nil, List.sum_cons, List.sum_nil]
      omega
    refine madeP (dr2.same s45) (Td.mono (TS.of s5) _ _ hx) pl (by omega) fun p6 H6 s6 m6 => ?_
    rw [ec] at m6
    exact q p6 H6 _ _ _ (fun e => absurd e no) (fun _ => ⟨nm, t, us, 1, on, hk, .inr rfl, rfl, by simp [toks]⟩) (by omega) m6 (dr2.same (s45.trans s6)) (k12.trans (Keep.of (s45.trans s6)))
  · refine ⟨_, rfl, _, rfl, p2, _, _, _, rfl, rfl, SqL.of h2, at_n 0 rfl, sl 3, fun t4 n4 => ⟨_, rfl, _, rfl, sl 3, fun l5 n5 => ?_⟩⟩
    have s4 := same_new (o := .tup [V.str nm, kv, V.int 0]) n4
    have hx := td3 (a := .str nm) (b := kv) (c := .int 0) (x := .str nm) (y := t) (z := .int 0) n4 rfl hkv rfl
    have s5 := same_new (o := .lst [V.str nm, V.str ":", V.ref p2]) n5
    have s45 := s4.trans s5
    have pl : PLs d (upd (upd H2 t4 (.tup [V.str nm, kv, V.int 0])) l5 (.lst [V.str nm, V.str ":", V.ref p2])) l5 [(([nm] : List Str), 1), ([":"], 1), (us, k)] :=
      ⟨_, upd_same, .inl ⟨_, rfl, rfl⟩, .inl ⟨_, rfl, rfl⟩, .inr ⟨p2, t, [], rfl, m2.same s45⟩, trivial⟩
    have ec : cost [(([nm] : List Str), 1), ([":"], 1), (us, k)] = k + 2 := by
      simp only [cost, List.map_cons, List.map_nil, List.sum_cons, List.sum_nil]
      omega
    refine madeP (dr2.same s45) (Td.mono (TS.of s5) _ _ hx) pl (by omega) fun p6 H6 s6 m6 => ?_
    rw [ec] at m6
    exact q p6 H6 _ _ _ (fun e => absurd e no) (fun _ => ⟨nm, t, us, 0, on, hk, .inl rfl, rfl, by simp [toks]⟩) (by omega) m6 (dr2.same (s45.trans s6)) (k12.trans (Keep.of (s45.trans s6)))
theorem ok_drawn_unit (T : Tx K mg w) : FnOk P w K mg base CX0 56 T.f_drawn_unit T.fd_drawn_unit ["_law_d", "_law_room"] (sp2 rUnitD) := by
  refine okR2 T.F_drawn_unit sc_drawn_unit rfl fun cdv A outer s H Q EE x y hr h => ?_
  obtain ⟨d, c, m, rfl, rfl, dr, rm, mc, q⟩ := h
  refine ⟨_, pss_cons (ps_set (i := 2) sc_drawn_unit.nd rfl (Or.inl rfl) (pe_call (ok_drawn_name T) (hr.mono (by decide)) rfl T.m_drawn_name T.F_drawn_name.kp T.b_drawn_name .nil pass0 (pa_cons (pv 0) pa_nil)))
      (pss_cons (ps_set (i := 3) sc_drawn_unit.nd rfl (Or.inl rfl) (pe_lst pa_nil))
      (pss_cons (ps_for PassesOwn.never rfl (pi_range1 rfl T.z_range (pa_cons (pe_ix ix_list (pe_lst (pa_cons pe_int (pa_cons pe_int (pa_cons pe_int (pa_cons pe_int pa_nil))))) (pe_call (ok_draw T) (hr.mono (by decide)) rfl T.m_draw T.F_draw.kp T.b_draw .nil pass0 (pa_cons (pv 0) (pa_cons pe_int pa_nil))) (fun _ _ => rfl)) pa_nil)) (pg_name (i := 4) sc_drawn_unit.nd rfl (Or.inl rfl))
      (pss_one (ps_expr (pe_bm PySem.F.plainAttrs_list PySem.F.slot_list_append PySem.F.type_list_append mt_append (pv 3) (pa_cons (pe_call (ok_declared T) (hr.mono (by decide)) rfl T.m_declared T.F_declared.kp T.b_declared .nil pass0 (pa_cons (pv 0) (pa_cons (pe_ix ix_list (pe_lst (pa_cons pe_str (pa_cons pe_str (pa_cons pe_str pa_nil)))) (pe_call (ok_draw T) (hr.mono (by decide)) rfl T.m_draw T.F_draw.kp T.b_draw .nil pass0 (pa_cons (pv 0) (pa_cons pe_int pa_nil))) (fun _ _ => rfl)) pa_nil))) pa_nil)))))
      (pss_cons (ps_set (i := 5) sc_drawn_unit.nd rfl (Or.inl rfl) (pe_lst pa_nil))
      (pss_cons (ps_for PassesOwn.never rfl (pi_range1 rfl T.z_range (pa_cons (pe_ix ix_list (pe_lst (pa_cons pe_int (pa_cons pe_int (pa_cons pe_int pa_nil)))) (pe_call (ok_draw T) (hr.mono (by decide)) rfl T.m_draw T.F_draw.kp T.b_draw .nil pass0 (pa_cons (pv 0) (pa_cons pe_int pa_nil))) (fun _ _ => rfl)) pa_nil)) (pg_name (i := 4) sc_drawn_unit.nd rfl (Or.inl rfl))
      (pss_one (ps_expr (pe_bm PySem.F.plainAttrs_list PySem.F.slot_list_append PySem.F.type_list_append mt_append (pv 5) (pa_cons (pe_call (ok_declared T) (hr.mono (by decide)) rfl T.m_declared T.F_declared.kp T.b_declared .nil pass0 (pa_cons (pv 0) (pa_cons pe_str pa_nil))) pa_nil)))))
      (pss_cons (ps_set (i := 6) sc_drawn_unit.nd rfl (Or.inl rfl) (pe_call (ok_drawn_items T) (hr.mono (by decide)) rfl T.m_drawn_items T.F_drawn_items.kp T.b_drawn_items .nil pass0 (pa_cons (pv 0) (pa_cons (pe_ix ix_list (pe_lst (pa_cons pe_int (pa_cons pe_int (pa_cons pe_int (pa_cons pe_int (pa_cons pe_int (pa_cons pe_int pa_nil))))))) (pe_call (ok_draw T) (hr.mono (by decide)) rfl T.m_draw T.F_draw.kp T.b_draw .nil pass0 (pa_cons (pv 0) (pa_cons pe_int pa_nil))) (fun _ _ => rfl)) (pa_cons pe_int (pa_cons (pe_lst (pa_cons pe_str (pa_cons pe_str pa_nil))) (pa_cons (pv 1) pa_nil)))))))
      (pss_cons (ps_set (i := 7) sc_drawn_unit.nd rfl (Or.inl rfl) (pe_tup (pa_cons pe_str (pa_cons (pv 2) (pa_cons (pe_call (ok_trees T) (hr.mono (by decide)) rfl T.m_trees T.F_trees.kp T.b_trees .nil pass0 (pa_cons (pv 3) pa_nil)) (pa_cons (pe_call (ok_trees T) (hr.mono (by decide)) rfl T.m_trees T.F_trees.kp T.b_trees .nil pass0 (pa_cons (pv 5) pa_nil)) (pa_cons (pe_call (ok_trees T) (hr.mono (by decide)) rfl T.m_trees T.F_trees.kp T.b_trees .nil pass0 (pa_cons (pv 6) pa_nil)) pa_nil)))))))
      (pss_cons (ps_set (i := 8) sc_drawn_unit.nd rfl (Or.inl rfl) (pe_op op_cat (pe_op op_cat (pe_op op_cat (pe_op op_cat (pe_lst (pa_cons pe_str (pa_cons (pv 2) (pa_cons pe_str pa_nil)))) (pe_call (ok_commas T) (hr.mono (by decide)) rfl T.m_commas T.F_commas.kp T.b_commas .nil pass0 (pa_cons (pv 3) pa_nil))) (pe_lst (pa_cons pe_str (pa_cons pe_str (pa_cons pe_str pa_nil))))) (pe_call (ok_commas T) (hr.mono (by decide)) rfl T.m_commas T.F_commas.kp T.b_commas .nil pass0 (pa_cons (pv 5) pa_nil))) (pe_lst (pa_cons pe_str (pa_cons pe_str pa_nil)))))
      (pss_one (ps_ret (pe_call (ok_made T) (hr.mono (by decide)) rfl T.m_made T.F_made.kp T.b_made .nil pass0 (pa_cons (pv 7) (pa_cons (pe_op op_cat (pe_op op_cat (pv 8) (pv 6)) (pe_lst (pa_cons pe_str pa_nil))) pa_nil)))))))))))), ?_⟩
  refine ⟨_, rfl, _, rfl, d, c, rfl, dr, fun nm H1 on dr1 k1 => ?_⟩
  have rm1 := rm.keep dr k1
  refine ⟨sl 0, fun I nI => ?_⟩
  have sI := same_new (o := .lst []) nI
  have Id := dr1.dne nI
  have Ic := dr1.cne nI
  have Im := rm1.ne2 nI
  have HI : ∀ b o, H b = some o → b ≠ d → b ≠ I := fun b o e n1 => ne_of_none (k1 b o e n1) nI
  refine ⟨sl 4, fun l2 n2 => ?_⟩
  have s2 := sI.trans (same_new (o := .lst [V.int 1, V.int 3, V.int 2, V.int 1]) n2)
  have hI2 := same_new (o := .lst [V.int 1, V.int 3, V.int 2, V.int 1]) n2 _ _ (upd_same (H := H1) (a := I) (o := .lst []))
  refine ⟨_, rfl, _, _, rfl, d, c, 4, rfl, rfl, dr1.same s2, by omega, by omega, fun r3 H3 a3 b3 dr3 k3 => ?_⟩
  obtain ⟨j3, e3, m3⟩ := at_int (ns := [1, 3, 2, 1]) a3 b3
  have j3b : 1 ≤ j3 ∧ j3 ≤ 3 := by
    simp only [List.mem_cons, List.not_mem_nil, or_false] at m3
    omega
  have k03 : Keep d H H3 := (k1.trans (Keep.of s2)).trans k3
  refine ⟨l2, _, _, _, rfl, rfl, SqL.of (k3 _ _ upd_same ((dr1.same sI).dne n2)), e3, j3, rfl, by omega, by omega, for_range (lo := 0) (n := j3.toNat) (fun i σ H' => ∃ (qs : List (PyData × List Str × Nat)) (v4 : Option V), σ = [some (.ref d), some (.ref m), some (.str nm), some (.ref I), v4, none, none, none, none] ∧ TLs InT 103 d H' I qs ∧ qs.length = i ∧ Dr d c H' ∧ Keep d H H') ⟨[], none, rfl, ⟨[], k3 _ _ hI2 Id, trivial⟩, rfl, dr3, k03⟩ ?_ ?_⟩
  · rintro i σ H4 hi ⟨qs, v4, rfl, tl, lq, dr4, k4⟩
    obtain ⟨vs4, hL4, al4⟩ := id tl
    refine ⟨_, rfl, .inl ⟨rfl, _, SqL.of hL4⟩, _, rfl, sl 3, fun l5 n5 => ?_⟩
    have s5 := same_new (o := .lst [V.str "in", V.str "event", V.str "in"]) n5
    refine ⟨_, rfl, _, _, rfl, d, c, 3, rfl, rfl, dr4.same s5, by omega, by omega, fun r6 H6 a6 b6 dr6 k6 => ?_⟩
    obtain ⟨wd, e6, nw⟩ : ∃ wd : Str, atI [V.str "in", V.str "event", V.str "in"] r6 = some (.str wd) ∧ ¬ wd = "out" := by
      rcases (show r6 = 0 ∨ r6 = 1 ∨ r6 = 2 by omega) with rfl | rfl | rfl
      · exact ⟨_, at_n 0 rfl, by decide +kernel⟩
      · exact ⟨_, at_n 1 rfl, by decide +kernel⟩
      · exact ⟨_, at_n 2 rfl, by decide +kernel⟩
    refine ⟨l5, _, _, _, rfl, rfl, SqL.of (k6 _ _ upd_same (dr4.dne n5)), e6, _, _, rfl, d, c, wd, rfl, rfl, dr6, fun p7 H7 t us k _ hin lk m7 dr7 k7 => ?_⟩
    have hin := hin nw
    have k47 : Keep d H4 H7 := ((Keep.of s5).trans k6).trans k7
    have tl7 := tl.keep dr4 k47 Id
    obtain ⟨vs7, hL7, al7⟩ := id tl7
    have hvs : vs7 = vs4 := by
      have e := hL7.symm.trans (k47 _ _ hL4 Id)
      injection (Option.some.inj e)
    subst hvs
    have l7 := All2.len al7
    have ine : us ≠ [] := by
      obtain ⟨_, _, _, ev, _, _, _, _, rfl⟩ := hin
      simp
    exact ⟨I, _, _, rfl, rfl, hL7, small1000 (by omega), qs ++ [(t, us, k)], _, rfl, TLs.push hL7 al7 ⟨hin, lk, p7, rfl, ine, m7⟩, by rw [List.length_append, lq]; rfl, dr7.else Id Ic, fun b o e nb => upd_else ((k4.trans k47) b o e nb) (HI b o e nb)⟩
  · rintro σ H4 ⟨qi, v4, rfl, ti, lqi, dr4, k4⟩
    have qin : qi ≠ [] := by
      rintro rfl
      rw [List.length_nil] at lqi
      omega
    refine ⟨sl 0, fun O nO => ?_⟩
    have sO := same_new (o := .lst []) nO
    have Od := dr4.dne nO
    have Oc := dr4.cne nO
    have rm4 := rm.keep dr k4
    have Om := rm4.ne2 nO
    have HO' : ∀ b o, H b = some o → b ≠ d → b ≠ O := fun b o e n1 => ne_of_none (k4 b o e n1) nO
    have IO : I ≠ O := by
      obtain ⟨vs, h, _⟩ := ti
      exact ne_of_none h nO
    refine ⟨sl 3, fun l5 n5 => ?_⟩
    have s5 := sO.trans (same_new (o := .lst [V.int 1, V.int 2, V.int 1]) n5)
    have hO5 := same_new (o := .lst [V.int 1, V.int 2, V.int 1]) n5 _ _ (upd_same (H := H4) (a := O) (o := .lst []))
    refine ⟨_, rfl, _, _, rfl, d, c, 3, rfl, rfl, dr4.same s5, by omega, by omega, fun r6 H6 a6 b6 dr6 k6 => ?_⟩
    obtain ⟨j6, e6, m6⟩ := at_int (ns := [1, 2, 1]) a6 b6
    have j6b : 1 ≤ j6 ∧ j6 ≤ 2 := by
      simp only [List.mem_cons, List.not_mem_nil, or_false] at m6
      omega
    have k46 : Keep d H4 H6 := (Keep.of s5).trans k6
    refine ⟨l5, _, _, _, rfl, rfl, SqL.of (k6 _ _ upd_same ((dr4.same sO).dne n5)), e6, j6, rfl, by omega, by omega, for_range (lo := 0) (n := j6.toNat) (fun i σ H' => ∃ (qs : List (PyData × List Str × Nat)) (v4 : Option V), σ = [some (.ref d), some (.ref m), some (.str nm), some (.ref I), v4, some (.ref O), none, none, none] ∧ TLs DeclT 103 d H' O qs ∧ qs.length = i ∧ TLs InT 103 d H' I qi ∧ Dr d c H' ∧ Keep d H H') ⟨[], v4, rfl, ⟨[], k6 _ _ hO5 Od, trivial⟩, rfl, ti.keep dr4 k46 Id, dr6, k4.trans k46⟩ ?_ ?_⟩
    · rintro i σ H7 hi ⟨qs, v4, rfl, tl, lq, ti7, dr7, k7⟩
      obtain ⟨vs7, hL7, al7⟩ := id tl
      refine ⟨_, rfl, .inl ⟨rfl, _, SqL.of hL7⟩, _, rfl, _, _, rfl, d, c, "out", rfl, rfl, dr7, fun p8 H8 t us k hd _ lk m8 dr8 k8 => ?_⟩
      have hd := hd rfl
      have tl8 := tl.keep dr7 k8 Od
      have ti8 := ti7.keep dr7 k8 Id
      obtain ⟨vs8, hL8, al8⟩ := id tl8
      have hvs : vs8 = vs7 := by
        have e := hL8.symm.trans (k8 _ _ hL7 Od)
        injection (Option.some.inj e)
      subst hvs
      have l8 := All2.len al8
      have dne : us ≠ [] := by
        obtain ⟨_, _, _, _, _, _, rfl⟩ := hd
        simp
      obtain ⟨vsI, hI8, alI⟩ := id ti8
      exact ⟨O, _, _, rfl, rfl, hL8, small1000 (by omega), qs ++ [(t, us, k)], _, rfl, TLs.push hL8 al8 ⟨hd, lk, p8, rfl, dne, m8⟩, by rw [List.length_append, lq]; rfl, ⟨vsI, upd_else hI8 IO, All2.imp (fun _ _ z => z.wr hL8 al8) alI⟩, dr8.else Od Oc, fun b o e nb => upd_else ((k7.trans k8) b o e nb) (HO' b o e nb)⟩
    · rintro σ H7 ⟨qo, v4, rfl, to, lqo, ti7, dr7, k7⟩
      have qon : qo ≠ [] := by
        rintro rfl
        rw [List.length_nil] at lqo
        omega
      have rm7 := rm.keep dr k7
      refine ⟨_, rfl, sl 6, fun l8 n8 => ?_⟩
      have s8 := same_new (o := .lst [V.int 1, V.int 2, V.int 0, V.int 5, V.int 3, V.int 1]) n8
      refine ⟨_, rfl, _, _, rfl, d, c, 6, rfl, rfl, dr7.same s8, by omega, by omega, fun r9 H9 a9 b9 dr9 k9 => ?_⟩
      obtain ⟨j9, e9, m9⟩ := at_int (ns := [1, 2, 0, 5, 3, 1]) a9 b9
      have j9b : 0 ≤ j9 ∧ j9 ≤ 5 := by
        simp only [List.mem_cons, List.not_mem_nil, or_false] at m9
        omega
      obtain ⟨many, rfl⟩ := Int.eq_ofNat_of_zero_le j9b.1
      have k79 : Keep d H7 H9 := (Keep.of s8).trans k9
      have rm9 := rm7.keep dr7 k79
      refine ⟨l8, _, _, _, rfl, rfl, SqL.of (k9 _ _ upd_same (dr7.dne n8)), e9, sl 2, fun W nW => ?_⟩
      have sW := same_new (o := .lst [V.str "assume", V.str "keep"]) nW
      have hW : upd H9 W (.lst [V.str "assume", V.str "keep"]) W = some (.lst ((["assume", "keep"] : List Str).map V.str)) := upd_same
      refine ⟨_, rfl, _, _, _, _, _, rfl, d, c, m, W, ["assume", "keep"], many, rfl, rfl, by omega, rfl, rfl, rfl, hW, (fun w hw => by simpa using hw), by decide, dr9.dne nW, rm9.ne2 nW, dr9.same sW, rm9.same sW, mc, fun It H10 qt tt lt nIt Itd Itc Itm dr10 rm10 k10 => ?_⟩
      have K9 : K2 d m H H10 := ((K2.of (k7.trans k79)).trans (K2.same sW)).trans k10
      have ti10 := ((ti7.keep dr7 k79 Id).same sW).k2 (dr9.same sW) (rm9.same sW) k10 Id Im
      have to10 := ((to.keep dr7 k79 Od).same sW).k2 (dr9.same sW) (rm9.same sW) k10 Od Om
      have ci : costQ qi ≤ 103 * 3 := Nat.le_trans (TLs.cost ti10) (Nat.mul_le_mul_left _ (by omega))
      have co : costQ qo ≤ 103 * 2 := Nat.le_trans (TLs.cost to10) (Nat.mul_le_mul_left _ (by omega))
      have ct : costQ qt ≤ 65656 * 5 := Nat.le_trans (TLs.cost tt) (Nat.mul_le_mul (bI_le (Nat.le_refl 2)) (by omega))
      refine ⟨_, rfl, _, rfl, treesP ti10 (by omega) fun v1 Ha sa ha => ?_⟩
      refine ⟨_, rfl, treesP (to10.same sa) (by omega) fun v2 Hb sb hb => ?_⟩
      refine ⟨_, rfl, treesP (tt.same (sa.trans sb)) (by omega) fun v3 Hc sc hc => ⟨sl 5, fun t5 n5' => ?_⟩⟩
      have st := same_new (o := .tup [V.str "unit", V.str nm, v1, v2, v3]) n5'
      have hx := td5 (a := .str "unit") (b := .str nm) (c := v1) (d := v2) (e := v3) (x := .str "unit") (y := .str nm) (z := .tuple (qi.map (·.1))) (u := .tuple (qo.map (·.1))) (v := .tuple (qt.map (·.1))) n5' rfl rfl (Td.mono (TS.of (sb.trans sc)) _ _ ha) (Td.mono (TS.of sc) _ _ hb) hc
      have s9t := ((sa.trans sb).trans sc).trans st
      generalize upd Hc t5 (.tup [V.str "unit", V.str nm, v1, v2, v3]) = Ht at hx s9t ⊢
      have lqm : ∀ {qs : List (PyData × List Str × Nat)}, (qs.map fun q => q.2).length = qs.length := List.length_map _
      have ii := inter_cnt ((([","] : List Str), 1) : List Str × Nat) (qi.map fun q => q.2)
      have io := inter_cnt ((([","] : List Str), 1) : List Str × Nat) (qo.map fun q => q.2)
      rw [lqm] at ii io
      refine ⟨_, rfl, sl 3, fun la na => ?_⟩
      have s1 := same_new (o := .lst [V.str "unit", V.str nm, V.str "("]) na
      have p1 : PLs d (upd Ht la (.lst [V.str "unit", V.str nm, V.str "("])) la (strP ["unit", nm, "("]) := PLs.strs upd_same
      refine ⟨_, rfl, _, rfl, comP (PLs.things (ti10.same (s9t.trans s1))) (fun e => qin (comP_qs.mp e)) (by rw [lqm]; omega) fun lb Hd sd pd => ?_⟩
      refine catP (p1.same sd) pd (by show 3 + _ ≤ 1000; omega) fun lc He nc se pe => ?_
      refine ⟨sl 3, fun lg ng => ?_⟩
      have sg := same_new (o := .lst [V.str ")", V.str "gives", V.str "("]) ng
      have pg : PLs d (upd He lg (.lst [V.str ")", V.str "gives", V.str "("])) lg (strP [")", "gives", "("]) := PLs.strs upd_same
      refine catP (pe.same sg) pg (by rw [List.length_append]; show 3 + _ + 3 ≤ 1000; omega) fun lh Hh nh sh ph => ?_
      have sx1 := ((((s9t.trans s1).trans sd).trans se).trans sg).trans sh
      refine ⟨_, rfl, _, rfl, comP (PLs.things (to10.same sx1)) (fun e => qon (comP_qs.mp e)) (by rw [lqm]; omega) fun li Hi si pi => ?_⟩
      refine catP (ph.same si) pi (by rw [List.length_append, List.length_append]; show 3 + _ + 3 + _ ≤ 1000; omega) fun lj Hj nj sj pj => ?_
      refine ⟨sl 2, fun lk nk => ?_⟩
      have sk := same_new (o := .lst [V.str ")", V.str "{"]) nk
      have pk : PLs d (upd Hj lk (.lst [V.str ")", V.str "{"])) lk (strP [")", "{"]) := PLs.strs upd_same
      refine catP (pj.same sk) pk (by rw [List.length_append, List.length_append, List.length_append]; show 3 + _ + 3 + _ + 2 ≤ 1000; omega) fun ll Hl nl sl' pl => ?_
      have sx2 := ((((sx1.trans si).trans sj).trans sk).trans sl')
      refine ⟨_, rfl, _, rfl, _, rfl, catP pl (PLs.things (tt.same sx2)) (by rw [List.length_append, List.length_append, List.length_append, List.length_append, lqm]; show 3 + _ + 3 + _ + 2 + _ ≤ 1000; omega) fun lm Hm nm' sm pm => ?_⟩
      refine ⟨sl 1, fun ln nn => ?_⟩
      have sn := same_new (o := .lst [V.str "}"]) nn
      have pn : PLs d (upd Hm ln (.lst [V.str "}"])) ln (strP ["}"]) := PLs.strs upd_same
      refine catP (pm.same sn) pn (by rw [List.length_append, List.length_append, List.length_append, List.length_append, List.length_append, lqm]; show 3 + _ + 3 + _ + 2 + _ + 1 ≤ 1000; omega) fun lo Ho no so po => ?_
      have sy := ((sx2.trans sm).trans sn).trans so
      have hxo : Td Ho _ _ := Td.mono (TS.of ((((((((((((s1.trans sd).trans se).trans sg).trans sh).trans si).trans sj).trans sk).trans sl').trans sm).trans sn).trans so))) _ _ hx
      have ec : cost (strP ["unit", nm, "("] ++ inter (([","] : List Str), 1) (qi.map fun q => q.2) ++ strP [")", "gives", "("] ++ inter (([","] : List Str), 1) (qo.map fun q => q.2) ++ strP [")", "{"] ++ (qt.map fun q => q.2) ++ strP ["}"]) ≤ 328900 := by
        have c1 := cost_inter qi
        have c2 := cost_inter qo
        rw [cost_app, cost_app, cost_app, cost_app, cost_app, cost_app, cost_strP, cost_strP, cost_strP, cost_strP, cost_qs]
        simp only [List.length_cons, List.length_nil]
        omega
      have et : toks (strP ["unit", nm, "("] ++ inter (([","] : List Str), 1) (qi.map fun q => q.2) ++ strP [")", "gives", "("] ++ inter (([","] : List Str), 1) (qo.map fun q => q.2) ++ strP [")", "{"] ++ (qt.map fun q => q.2) ++ strP ["}"]) = (["unit", nm, "("] : List Str) ++ comL (qi.map (·.2.1)) ++ ([")"] : List Str) ++ ((["gives", "("] : List Str) ++ comL (qo.map (·.2.1)) ++ ([")"] : List Str)) ++ ((["{"] : List Str) ++ (qt.map (·.2.1)).flatten ++ (["}"] : List Str)) := by
        rw [toks_app, toks_app, toks_app, toks_app, toks_app, toks_app, toks_strP, toks_strP, toks_strP, toks_strP, toks_qs, toks_inter, toks_inter]
        simp only [List.append_assoc, List.cons_append, List.nil_append]
      refine madeP (dr10.same sy) hxo po (by omega) fun pz Hz sz mz => ?_
      rw [et] at mz
      have sw := sy.trans sz
      exact q pz Hz _ _ _ ⟨nm, _, _, _, _, _, _, on, TLs.rel ti10, TLs.rel to10, TLs.rel tt, by rw [List.length_map]; omega, by rw [List.length_map]; omega, by rw [List.length_map]; omega, rfl, rfl⟩ ec mz (dr10.same sw) (rm10.same sw) (K9.trans (K2.same sw))
end

def rLaw (K : PySem.W.Frag) : V → Hp → VK → Prop := fun x H Q => ∃ (a : Addr) (ns : List Int), x = .ref a ∧ SqL K H a (ns.map V.int) ∧ ns.length ≤ 63 ∧ ∀ H', Q (.bl true) H'
theorem cutV_mem {xs : List V} {lo hi : Option Int} {v : V} (h : v ∈ cutV xs lo hi) : v ∈ xs := List.mem_of_mem_drop (List.mem_of_mem_take h)
theorem cutV_len {xs : List V} {lo hi : Option Int} : (cutV xs lo hi).length ≤ xs.length := by
  unfold cutV
  rw [List.length_take, List.length_drop]
  omega
theorem costQ_kinds {R : PyData → List Str → Prop} {b n : Nat} {D L : Addr} {H : Hp} {qs : List (PyData × List Str × Nat)} (h : TLs R b D H L qs) (hn : qs.length ≤ n) : costQ qs ≤ b * n := Nat.le_trans (TLs.cost h) (Nat.mul_le_mul_left _ hn)
section
variable {P : Program} {w : World} {K : PySem.W.Frag} {mg : Str → Option Value} {base : Heap}
theorem ok_drawn_parts (T : Tx K mg w) : FnOk P w K mg base CX0 57 T.f_drawn_parts T.fd_drawn_parts ["_law_d", "_law_room"] (sp2 rPartsD) := by
  refine okR2 T.F_drawn_parts sc_drawn_parts rfl fun cdv A outer s H Q EE x y hr h => ?_
  obtain ⟨d, c, m, rfl, rfl, dr, rm, mc, q⟩ := h
  refine ⟨_, pss_cons (ps_set (i := 2) sc_drawn_parts.nd rfl (Or.inl rfl) (pe_lst pa_nil))
      (pss_cons (ps_for PassesOwn.never rfl (pi_range1 rfl T.z_range (pa_cons (pe_ix ix_list (pe_lst (pa_cons pe_int (pa_cons pe_int (pa_cons pe_int (pa_cons pe_int pa_nil))))) (pe_call (ok_draw T) (hr.mono (by decide)) rfl T.m_draw T.F_draw.kp T.b_draw .nil pass0 (pa_cons (pv 0) (pa_cons pe_int pa_nil))) (fun _ _ => rfl)) pa_nil)) (pg_name (i := 3) sc_drawn_parts.nd rfl (Or.inl rfl))
      (pss_cons (ps_set (i := 4) sc_drawn_parts.nd rfl (Or.inl rfl) (pe_call (ok_drawn_name T) (hr.mono (by decide)) rfl T.m_drawn_name T.F_drawn_name.kp T.b_drawn_name .nil pass0 (pa_cons (pv 0) pa_nil)))
      (pss_cons (ps_set (i := 5) sc_drawn_parts.nd rfl (Or.inl rfl) (pe_call (ok_drawn_kind T) (hr.mono (by decide)) rfl T.m_drawn_kind T.F_drawn_kind.kp T.b_drawn_kind .nil pass0 (pa_cons (pv 0) pa_nil)))
      (pss_one (ps_expr (pe_bm PySem.F.plainAttrs_list PySem.F.slot_list_append PySem.F.type_list_append mt_append (pv 2) (pa_cons (pe_call (ok_made T) (hr.mono (by decide)) rfl T.m_made T.F_made.kp T.b_made .nil pass0 (pa_cons (pe_tup (pa_cons (pv 4) (pa_cons (pe_ix ix_list (pv 5) pe_int (fun _ _ => rfl)) pa_nil))) (pa_cons (pe_lst (pa_cons pe_str (pa_cons (pv 4) (pa_cons pe_str (pa_cons (pv 5) (pa_cons pe_str pa_nil)))))) pa_nil))) pa_nil)))))))
      (pss_cons (ps_set (i := 6) sc_drawn_parts.nd rfl (Or.inl rfl) (pe_lst (pa_cons (pe_call (ok_drawn_unit T) (hr.mono (by decide)) rfl T.m_drawn_unit T.F_drawn_unit.kp T.b_drawn_unit .nil pass0 (pa_cons (pv 0) (pa_cons (pv 1) pa_nil))) pa_nil)))
      (pss_cons (ps_for PassesOwn.never rfl (pi_range1 rfl T.z_range (pa_cons (pe_ix ix_list (pe_lst (pa_cons pe_int (pa_cons pe_int (pa_cons pe_int (pa_cons pe_int pa_nil))))) (pe_call (ok_draw T) (hr.mono (by decide)) rfl T.m_draw T.F_draw.kp T.b_draw .nil pass0 (pa_cons (pv 0) (pa_cons pe_int pa_nil))) (fun _ _ => rfl)) pa_nil)) (pg_name (i := 3) sc_drawn_parts.nd rfl (Or.inl rfl))
      (pss_one (ps_if (pt_cmpR op_gt (pe_ix ix_list (pv 1) pe_int (fun _ _ => rfl)) pe_int (nomark _)) (pss_one (ps_expr (pe_bm PySem.F.plainAttrs_list PySem.F.slot_list_append PySem.F.type_list_append mt_append (pv 6) (pa_cons (pe_call (ok_drawn_unit T) (hr.mono (by decide)) rfl T.m_drawn_unit T.F_drawn_unit.kp T.b_drawn_unit .nil pass0 (pa_cons (pv 0) (pa_cons (pv 1) pa_nil))) pa_nil)))) pss_nil)))
      (pss_one (ps_ret (pe_lst (pa_cons (pv 2) (pa_cons (pv 6) pa_nil)))))))), ?_⟩
  refine ⟨sl 0, fun I nI => ?_⟩
  have sI := same_new (o := .lst []) nI
  have Id := dr.dne nI
  have Ic := dr.cne nI
  have Im := rm.ne2 nI
  have HI : ∀ b o, H b = some o → b ≠ I := fun b o e => ne_of_none e nI
  refine ⟨sl 4, fun l2 n2 => ?_⟩
  have s2 := sI.trans (same_new (o := .lst [V.int 0, V.int 2, V.int 1, V.int 0]) n2)
  have hI2 := same_new (o := .lst [V.int 0, V.int 2, V.int 1, V.int 0]) n2 _ _ (upd_same (H := H) (a := I) (o := .lst []))
  refine ⟨_, rfl, _, _, rfl, d, c, 4, rfl, rfl, dr.same s2, by omega, by omega, fun r3 H3 a3 b3 dr3 k3 => ?_⟩
  obtain ⟨j3, e3, m3⟩ := at_int (ns := [0, 2, 1, 0]) a3 b3
  have j3b : 0 ≤ j3 ∧ j3 ≤ 2 := by
    simp only [List.mem_cons, List.not_mem_nil, or_false] at m3
    omega
  have k03 : Keep d H H3 := (Keep.of s2).trans k3
  refine ⟨l2, _, _, _, rfl, rfl, SqL.of (k3 _ _ upd_same ((dr.same sI).dne n2)), e3, j3, rfl, by omega, by omega, for_range (lo := 0) (n := j3.toNat) (fun i σ H' => ∃ (qs : List (PyData × List Str × Nat)) (v3 v4 v5 : Option V), σ = [some (.ref d), some (.ref m), some (.ref I), v3, v4, v5, none] ∧ TLs NKT 110 d H' I qs ∧ qs.length = i ∧ Dr d c H' ∧ Keep d H H') ⟨[], none, none, none, rfl, ⟨[], k3 _ _ hI2 Id, trivial⟩, rfl, dr3, k03⟩ ?_ ?_⟩
  · rintro i σ H4 hi ⟨qs, v3, v4, v5, rfl, tl, lq, dr4, k4⟩
    refine ⟨_, rfl, _, rfl, d, c, rfl, dr4, fun nm H5 on dr5 k5 => ?_⟩
    refine ⟨_, rfl, _, rfl, d, c, rfl, dr5, fun p6 H6 t us k ⟨lk, hk⟩ m6 dr6 k6 => ?_⟩
    have k46 := k5.trans k6
    have tl6 := tl.keep dr4 k46 Id
    obtain ⟨vs6, hL6, al6⟩ := id tl6
    obtain ⟨kv, _, _, _, h6, hkv, _⟩ := id m6
    refine ⟨_, rfl, .inl ⟨rfl, _, SqL.of hL6⟩, _, rfl, _, rfl, p6, _, _, _, rfl, rfl, SqL.of h6, at_n 0 rfl, sl 2, fun t7 n7 => ⟨_, rfl, _, rfl, sl 5, fun l8 n8 => ?_⟩⟩
    have s7 := same_new (o := .tup [V.str nm, kv]) n7
    have hx := td2 (a := .str nm) (b := kv) (x := .str nm) (y := t) n7 rfl hkv
    have s8 := same_new (o := .lst [V.str "kind", V.str nm, V.str "=", V.ref p6, V.str ";"]) n8
    have s78 := s7.trans s8
    have pl : PLs d (upd (upd H6 t7 (.tup [V.str nm, kv])) l8 (.lst [V.str "kind", V.str nm, V.str "=", V.ref p6, V.str ";"])) l8 [((["kind"] : List Str), 1), ([nm], 1), (["="], 1), (us, k), ([";"], 1)] :=
      ⟨_, upd_same, .inl ⟨_, rfl, rfl⟩, .inl ⟨_, rfl, rfl⟩, .inl ⟨_, rfl, rfl⟩, .inr ⟨p6, t, [], rfl, m6.same s78⟩, .inl ⟨_, rfl, rfl⟩, trivial⟩
    have ec : cost [((["kind"] : List Str), 1), ([nm], 1), (["="], 1), (us, k), ([";"], 1)] = k + 4 := by
      simp only [cost, List.map_cons, List.map_nil, List.sum_cons, List.sum_nil]
      omega
    refine madeP (dr6.same s78) (Td.mono (TS.of s8) _ _ hx) pl (by omega) fun p9 H9 s9 m9 => ?_
    rw [ec] at m9
    have sx := s78.trans s9
    have tl9 := tl6.same sx
    obtain ⟨vs9, hL9, al9⟩ := id tl9
    have hvs : vs9 = vs6 := by
      have e := hL9.symm.trans (sx _ _ hL6)
      injection (Option.some.inj e)
    subst hvs
    have l9 := All2.len al9
    have nk : NKT (.tuple [.str nm, t]) (toks [((["kind"] : List Str), 1), ([nm], 1), (["="], 1), (us, k), ([";"], 1)]) := ⟨nm, t, us, on, hk, rfl, by simp [toks]⟩
    exact ⟨I, _, _, rfl, rfl, hL9, small1000 (by omega), qs ++ [(.tuple [.str nm, t], toks [((["kind"] : List Str), 1), ([nm], 1), (["="], 1), (us, k), ([";"], 1)], k + 4)], _, _, _, rfl, TLs.push hL9 al9 ⟨nk, by show k + 4 ≤ 110; omega, p9, rfl, nk.ne, m9⟩, by rw [List.length_append, lq]; rfl, (dr6.same sx).else Id Ic, fun b o e nb => upd_else (((k4.trans k46).trans (Keep.of sx)) b o e nb) (HI b o e)⟩
  · rintro σ H4 ⟨qk, v3, v4, v5, rfl, tk, lqk, dr4, k4⟩
    have rm4 := rm.keep dr k4
    refine ⟨_, rfl, _, rfl, _, _, rfl, d, c, m, rfl, rfl, dr4, rm4, mc, fun p5 H5 t us k ht lk m5 dr5 rm5 k5 => ?_⟩
    have K5 : K2 d m H H5 := (K2.of k4).trans k5
    refine ⟨sl 1, fun L nL => ?_⟩
    have sL := same_new (o := .lst [V.ref p5]) nL
    have Ld := dr5.dne nL
    have Lc := dr5.cne nL
    have Lm := rm5.ne2 nL
    have HL : ∀ b o, H b = some o → b ≠ d → b ≠ m → b ≠ L := fun b o e n1 n2 => ne_of_none (K5 b o e n1 n2) nL
    have tk5 := tk.k2 dr4 rm4 k5 Id Im
    have IL : I ≠ L := by
      obtain ⟨vs, h, _⟩ := tk5
      exact ne_of_none h nL
    have tl0 : TLs UnitT 328900 d (upd H5 L (.lst [V.ref p5])) L [(t, us, k)] := ⟨_, upd_same, ⟨ht, lk, p5, rfl, ht.ne, m5.same sL⟩, trivial⟩
    refine ⟨sl 4, fun l6 n6 => ?_⟩
    have s6 := same_new (o := .lst [V.int 0, V.int 1, V.int 2, V.int 0]) n6
    have sL6 := sL.trans s6
    refine ⟨_, rfl, _, _, rfl, d, c, 4, rfl, rfl, dr5.same sL6, by omega, by omega, fun r7 H7 a7 b7 dr7 k7 => ?_⟩
    obtain ⟨j7, e7, m7⟩ := at_int (ns := [0, 1, 2, 0]) a7 b7
    have j7b : 0 ≤ j7 ∧ j7 ≤ 2 := by
      simp only [List.mem_cons, List.not_mem_nil, or_false] at m7
      omega
    have tl7 := (tl0.same s6).keep (dr5.same sL6) k7 Ld
    have rm7 := (rm5.same sL6).keep (dr5.same sL6) k7
    have tk7 := (tk5.same sL6).keep (dr5.same sL6) k7 Id
    refine ⟨l6, _, _, _, rfl, rfl, SqL.of (k7 _ _ upd_same ((dr5.same sL).dne n6)), e7, j7, rfl, by omega, by omega, for_range (lo := 0) (n := j7.toNat) (fun i σ H' => ∃ (qs : List (PyData × List Str × Nat)) (w3 : Option V), σ = [some (.ref d), some (.ref m), some (.ref I), w3, v4, v5, some (.ref L)] ∧ TLs UnitT 328900 d H' L qs ∧ qs.length ≤ 1 + i ∧ 1 ≤ qs.length ∧ TLs NKT 110 d H' I qk ∧ Dr d c H' ∧ Rm m H' ∧ K2 d m H H') ⟨_, v3, rfl, tl7, by simp, by simp, tk7, dr7, rm7, (K5.trans (K2.same sL6)).trans (K2.of k7)⟩ ?_ ?_⟩
    · rintro i σ H8 hi ⟨qs, w3, rfl, tl, lq, lq1, tk8, dr8, rm8, k8⟩
      obtain ⟨ra, rb, hrm⟩ := id rm8
      refine ⟨_, rfl, m, _, _, _, rfl, rfl, SqL.of hrm, at_n 0 rfl, _, _, rfl, rfl, _, rfl, ite2 (fun _ => ?_) (fun _ => ⟨qs, _, rfl, tl, by omega, lq1, tk8, dr8, rm8, k8⟩)⟩
      obtain ⟨vs8, hL8, al8⟩ := id tl
      refine ⟨_, rfl, .inl ⟨rfl, _, SqL.of hL8⟩, _, rfl, _, rfl, _, _, rfl, d, c, m, rfl, rfl, dr8, rm8, mc, fun p9 H9 t9 us9 k9 ht9 lk9 m9 dr9 rm9 kk9 => ?_⟩
      have tl9 := tl.k2 dr8 rm8 kk9 Ld Lm
      have tk9 := tk8.k2 dr8 rm8 kk9 Id Im
      obtain ⟨vs9, hL9, al9⟩ := id tl9
      have l9 := All2.len al9
      have hvs : vs9 = vs8 := by
        have e := hL9.symm.trans (kk9 _ _ hL8 Ld Lm)
        injection (Option.some.inj e)
      subst hvs
      obtain ⟨vsI, hI9, alI⟩ := id tk9
      refine ⟨L, _, _, rfl, rfl, hL9, small1000 (by omega), ?_⟩
      refine ⟨qs ++ [(t9, us9, k9)], _, rfl, TLs.push hL9 al9 ⟨ht9, lk9, p9, rfl, ht9.ne, m9⟩, by rw [List.length_append]; simp only [List.length_cons, List.length_nil]; omega, by rw [List.length_append]; omega, ⟨vsI, upd_else hI9 IL, All2.imp (fun _ _ z => z.wr hL9 al9) alI⟩, dr9.else Ld Lc, ?_, fun b o e n1 n2 => upd_else ((k8.trans kk9) b o e n1 n2) (HL b o e n1 n2)⟩
      obtain ⟨x1, x2, h⟩ := rm9
      exact ⟨x1, x2, upd_else h Lm.symm⟩
    · rintro σ H8 ⟨qs, w3, rfl, tl, lq, lq1, tk8, dr8, rm8, k8⟩
      refine ⟨_, rfl, _, rfl, sl 2, fun p np => ?_⟩
      have sp := same_new (o := .lst [V.ref I, V.ref L]) np
      exact q p I L _ qk qs upd_same (tk8.same sp) (tl.same sp) (by omega) (by omega) (by omega) (dr8.same sp) (rm8.same sp) (k8.trans (K2.same sp))
theorem ok_whole_tree (T : Tx K mg w) : FnOk P w K mg base CX0 2 T.f_whole_tree T.fd_whole_tree ["_law_kinds", "_law_units"] (sp2 rWholeT) := by
  refine okR2 T.F_whole_tree sc_whole_tree rfl fun cdv A outer s H Q EE x y hr h => ?_
  obtain ⟨d, c, Kl, Ul, qk, qu, rfl, rfl, dr, hk, hu, lk, lu, l1, q⟩ := h
  refine ⟨_, pss_one (ps_ret (pe_call (ok_made T) (hr.mono (by decide)) rfl T.m_made T.F_made.kp T.b_made .nil pass0 (pa_cons (pe_tup (pa_cons pe_str (pa_cons (pe_call (ok_trees T) (hr.mono (by decide)) rfl T.m_trees T.F_trees.kp T.b_trees .nil pass0 (pa_cons (pv 0) pa_nil)) (pa_cons (pe_call (ok_trees T) (hr.mono (by decide)) rfl T.m_trees T.F_trees.kp T.b_trees .nil pass0 (pa_cons (pv 1) pa_nil)) pa_nil)))) (pa_cons (pe_op op_cat (pv 0) (pv 1)) pa_nil)))), ?_⟩
  have ck := costQ_kinds hk lk
  have cu := costQ_kinds hu lu
  have lqm : ∀ {qs : List (PyData × List Str × Nat)}, (qs.map fun q => q.2).length = qs.length := List.length_map _
  refine ⟨_, rfl, treesP hk (by omega) fun v1 Ha sa ha => ?_⟩
  refine ⟨_, rfl, treesP (hu.same sa) (by omega) fun v2 Hb sb hb => ⟨sl 3, fun t nt => ?_⟩⟩
  have st := same_new (o := .tup [V.str "program", v1, v2]) nt
  have hx := td3 (a := .str "program") (b := v1) (c := v2) (x := .str "program") (y := .tuple (qk.map (·.1))) (z := .tuple (qu.map (·.1))) nt rfl (Td.mono (TS.of sb) _ _ ha) hb
  have s1 := (sa.trans sb).trans st
  refine ⟨_, rfl, _, rfl, catP (PLs.things (hk.same s1)) (PLs.things (hu.same s1)) (by rw [lqm, lqm]; omega) fun l2 H2 n2 s2 p2 => ?_⟩
  have ec : cost ((qk.map fun q => q.2) ++ (qu.map fun q => q.2)) ≤ 1000000 := by
    rw [cost_app, cost_qs, cost_qs]
    omega
  have et : toks ((qk.map fun q => q.2) ++ (qu.map fun q => q.2)) = (qk.map (·.2.1)).flatten ++ (qu.map (·.2.1)).flatten := by
    rw [toks_app, toks_qs, toks_qs]
  refine madeP (dr.same (s1.trans s2)) (Td.mono (TS.of s2) _ _ hx) p2 (by omega) fun p3 H3 s3 m3 => ?_
  rw [et] at m3
  have rk := TLs.rel hk
  have ru := TLs.rel hu
  have une : (qk.map (·.2.1)).flatten ++ (qu.map (·.2.1)).flatten ≠ [] := by
    cases qu with
    | nil => exact absurd l1 (by simp)
    | cons q0 r =>
      intro e
      have e2 := (List.append_eq_nil_iff.mp e).2
      rw [List.map_cons, List.flatten_cons] at e2
      exact (UnitT.ne ru.1) (List.append_eq_nil_iff.mp e2).1
  exact q p3 H3 _ _ _ ⟨_, _, _, _, rk, ru, by rw [List.length_map]; omega, by rw [List.length_map]; omega, rfl, rfl⟩ ec une m3 ((s1.trans s2).trans s3)
end

section
variable {P : Program} {w : World} {K : PySem.W.Frag} {mg : Str → Option Value} {base : Heap}
theorem ok_written_text (T : Tx K mg w) : FnOk P w K mg base CX0 1 T.f_written_text T.fd_written_text ["_law_tokens"] (sp1 rWritten) := by
  refine okR1 T.F_written_text sc_written_text rfl fun cdv A outer s H Q EE x hr h => ?_
  obtain ⟨p, ts, rfl, hp, hk, len, q⟩ := h
  refine ⟨_, pss_cons (ps_set (i := 1) sc_written_text.nd rfl (Or.inl rfl) (pe_lst pa_nil))
      (pss_cons (ps_for PassesOwn.never rfl (pi_list (pv 0)) (pg_name (i := 2) sc_written_text.nd rfl (Or.inl rfl))
      (pss_cons (ps_expr (pe_bm PySem.F.plainAttrs_list PySem.F.slot_list_append PySem.F.type_list_append mt_append (pv 1) (pa_cons (pv 2) pa_nil)))
      (pss_one (ps_expr (pe_bm PySem.F.plainAttrs_list PySem.F.slot_list_append PySem.F.type_list_append mt_append (pv 1) (pa_cons (pe_ifExp (pt_cmpR op_in_seq (pv 2) (pe_tup (pa_cons pe_str (pa_cons pe_str (pa_cons pe_str pa_nil)))) (by rfl)) pe_str pe_str) pa_nil))))))
      (pss_one (ps_ret (pe_join pe_str (pv 1))))), ?_⟩
  refine ⟨sl 0, fun F nF => ?_⟩
  have sF := same_new (o := .lst []) nF
  have HF : ∀ b o, H b = some o → b ≠ F := fun b o e => ne_of_none e nF
  refine ⟨_, rfl, p, rfl, ⟨_, SqL.of (sF _ _ hp)⟩, for_list (K := K) (a := p) (xs := ts.map V.str) (fun i σ H' => ∃ v2 : Option V, σ = [some (.ref p), some (.ref F), v2] ∧ Same H H' ∧ SL H' F ((ts.take i).map fun t => [t, gapS t]).flatten) ⟨none, rfl, sF, upd_same⟩ ?_ ?_ ?_⟩
  · rintro i σ H' _ ⟨_, _, s1, _⟩
    exact SqL.of (s1 _ _ hp)
  · rintro i x σ H1 hi ⟨v2, rfl, s1, h1⟩
    rw [List.getElem?_map] at hi
    obtain ⟨t, ht, rfl⟩ := Option.map_eq_some_iff.mp hi
    have lf : ((ts.take i).map fun t => [t, gapS t]).flatten.length ≤ 2 * 1200000 := by
      rw [flat2_len, List.length_take]
      omega
    refine ⟨_, rfl, .inl ⟨rfl, _, SqL.of h1⟩, _, rfl, F, _, _, rfl, rfl, h1, by rw [List.length_map, sizeLine_eq]; omega, ?_⟩
    have h2 : SL (upd H1 F (.lst ((((ts.take i).map fun t => [t, gapS t]).flatten).map V.str ++ [V.str t]))) F (((ts.take i).map fun t => [t, gapS t]).flatten ++ [t]) := by
      unfold SL
      rw [upd_same, List.map_append]
      rfl
    have s2 : Same H (upd H1 F (.lst ((((ts.take i).map fun t => [t, gapS t]).flatten).map V.str ++ [V.str t]))) := fun b o e => upd_else (s1 _ _ e) (HF b o e)
    generalize upd H1 F (.lst ((((ts.take i).map fun t => [t, gapS t]).flatten).map V.str ++ [V.str t])) = H2 at h2 s2 ⊢
    refine ⟨_, rfl, .inl ⟨rfl, _, SqL.of h2⟩, _, rfl, sl 3, fun tp ntp => ⟨tp, _, rfl, .inr (SqT.of upd_same), rfl, rfl, _, rfl, ?_⟩⟩
    have s3 := same_new (o := .tup [V.str "{", V.str "}", V.str ";"]) ntp
    have h3 := h2.same s3
    have s23 := s2.trans s3
    generalize upd H2 tp (.tup [V.str "{", V.str "}", V.str ";"]) = H3 at h3 s23 ⊢
    have sz : ((((ts.take i).map fun t => [t, gapS t]).flatten ++ [t]).map V.str).length < sizeLine := by
      rw [List.length_map, List.length_append, sizeLine_eq]
      simp only [List.length_cons, List.length_nil]
      omega
    have fin : ∀ z : Str, gapS t = z → ∃ v3 : Option V, ([some (.ref p), some (.ref F), some (.str t)] : L2.St) = [some (.ref p), some (.ref F), v3] ∧ Same H (upd H3 F (.lst ((((ts.take i).map fun t => [t, gapS t]).flatten ++ [t]).map V.str ++ [V.str z]))) ∧ SL (upd H3 F (.lst ((((ts.take i).map fun t => [t, gapS t]).flatten ++ [t]).map V.str ++ [V.str z]))) F ((ts.take (i + 1)).map fun t => [t, gapS t]).flatten := by
      rintro z rfl
      have tk1 : ts.take (i + 1) = ts.take i ++ [t] := by rw [List.take_succ, ht]; rfl
      refine ⟨_, rfl, fun b o e => upd_else (s23 _ _ e) (HF b o e), ?_⟩
      unfold SL
      rw [upd_same, tk1]
      simp
    refine ite2 (fun h => ?_) (fun h => ?_)
    · rw [inV_gap] at h
      exact ⟨F, _, _, rfl, rfl, h3, sz, fin "\n" (by unfold gapS; rw [if_pos (of_decide_eq_true h)])⟩
    · rw [inV_gap] at h
      exact ⟨F, _, _, rfl, rfl, h3, sz, fin " " (by unfold gapS; rw [if_neg fun z => h (decide_eq_true z)])⟩
  · rintro σ H1 ⟨v2, rfl, s1, h1⟩
    rw [List.length_map, List.take_length] at h1
    refine ⟨⟨_, rfl⟩, _, rfl, _, F, _, rfl, rfl, .inl (SqL.of h1), gap_sum2 hk len, ?_⟩
    rw [gapped_flat]
    exact q H1 s1
theorem ok_law (T : Tx K mg w) : FnOk P w K mg base CX0 132 T.f_law T.fd_law ["_law_script"] (sp1 (rLaw K)) := by
  refine okR1 T.F_law sc_law rfl fun cdv A outer s H Q EE x hr h => ?_
  obtain ⟨sa, ns, rfl, hS, h63, q⟩ := h
  refine ⟨_, pss_cons (ps_set (i := 1) sc_law.nd rfl (Or.inl rfl) (pe_call (ok_begin T) (hr.mono (by decide)) rfl T.m_begin T.F_begin.kp T.b_begin .nil pass0 (pa_cons (pv 0) pa_nil)))
      (pss_cons (ps_set (i := 2) sc_law.nd rfl (Or.inl rfl) (pe_lst pa_nil))
      (pss_cons (ps_for PassesOwn.never rfl (pi_tup (pe_tup (pa_cons pe_int (pa_cons pe_int pa_nil)))) (pg_name (i := 3) sc_law.nd rfl (Or.inl rfl))
      (pss_cons (ps_set (i := 4) sc_law.nd rfl (Or.inl rfl) (pe_call (ok_drawn_parts T) (hr.mono (by decide)) rfl T.m_drawn_parts T.F_drawn_parts.kp T.b_drawn_parts .nil pass0 (pa_cons (pv 1) (pa_cons (pe_lst (pa_cons (pv 3) (pa_cons pe_int pa_nil))) pa_nil))))
      (pss_one (ps_expr (pe_bm PySem.F.plainAttrs_list PySem.F.slot_list_append PySem.F.type_list_append mt_append (pv 2) (pa_cons (pe_call (ok_whole_tree T) (hr.mono (by decide)) rfl T.m_whole_tree T.F_whole_tree.kp T.b_whole_tree .nil pass0 (pa_cons (pe_ix ix_list (pv 4) pe_int (fun _ _ => rfl)) (pa_cons (pe_ix ix_list (pv 4) pe_int (fun _ _ => rfl)) pa_nil))) pa_nil))))))
      (pss_cons (ps_for PassesOwn.never rfl (pi_list (pe_op op_cat (pv 2) (pe_slice sl_list (pv 2) po_none (po_some pe_int)))) (pg_name (i := 5) sc_law.nd rfl (Or.inl rfl))
      (pss_cons (ps_set (i := 6) sc_law.nd rfl (Or.inl rfl) (pe_call (ok_write_program T) (hr.mono (by decide)) rfl T.m_write_program T.F_write_program.kp T.b_write_program .nil pass0 (pa_cons (pe_ix ix_list (pv 5) pe_int (fun _ _ => rfl)) pa_nil)))
      (pss_one (ps_if (PW.pt (pw_or (pt_not (pt_val (pe_callB call_isi (by rfl) T.z_isinstance (by decide +kernel) (pa_cons (pv 6) (pa_cons (pe_bltn (v := .ty "str") rfl T.z_str (by decide +kernel) rfl) pa_nil))))) (pw_or1 (pt_cmpR op_ne (pv 6) (pe_call (ok_written_text T) (hr.mono (by decide)) rfl T.m_written_text T.F_written_text.kp T.b_written_text .nil pass0 (pa_cons (pe_ix ix_list (pv 5) pe_int (fun _ _ => rfl)) pa_nil)) (nomark _))))) (pss_one (ps_ret pe_bl)) pss_nil))))
      (pss_one (ps_ret pe_bl))))), ?_⟩
  refine ⟨_, rfl, _, rfl, sa, ns, rfl, hS, h63, fun d c H0 dr0 s0 => ?_⟩
  refine ⟨sl 0, fun L nL => ?_⟩
  have sL := same_new (o := .lst []) nL
  have Ld := dr0.dne nL
  have Lc := dr0.cne nL
  refine ⟨sl 2, fun tp ntp => ?_⟩
  have st := same_new (o := .tup [V.int 400, V.int 60]) ntp
  have hL0 : upd (upd H0 L (.lst [])) tp (.tup [V.int 400, V.int 60]) L = some (.lst []) := st _ _ upd_same
  have tpd := (dr0.same sL).dne ntp
  have tpL : tp ≠ L := fun e => ne_of_none (upd_same (H := H0) (a := L) (o := .lst [])) ntp e.symm
  refine ⟨tp, rfl, ⟨_, SqT.of upd_same⟩, for_tup (K := K) (a := tp) (xs := [V.int 400, V.int 60]) (fun i σ H' => ∃ (qs : List (PyData × List Str × Nat)) (v3 v4 v5 v6 : Option V), σ = [some (.ref sa), some (.ref d), some (.ref L), v3, v4, v5, v6] ∧ TLs ProgT 1000000 d H' L qs ∧ qs.length = i ∧ H' tp = some (.tup [V.int 400, V.int 60]) ∧ Dr d c H') ⟨[], none, none, none, none, rfl, ⟨[], hL0, trivial⟩, rfl, upd_same, (dr0.same sL).same st⟩ ?_ ?_ ?_⟩
  · rintro i σ H' _ ⟨_, _, _, _, _, _, _, _, ht, _⟩
    exact SqT.of ht
  · rintro i x σ H1 hi ⟨qs, v3, v4, v5, v6, rfl, tl, lq, ht, dr1⟩
    have il : i < 2 := by
      have := (List.getElem?_eq_some_iff.mp hi).1
      simpa using this
    obtain ⟨mo, rfl⟩ : ∃ mo : Int, x = .int mo := by
      rcases (show i = 0 ∨ i = 1 by omega) with rfl | rfl
      · exact ⟨400, (Option.some.inj hi).symm⟩
      · exact ⟨60, (Option.some.inj hi).symm⟩
    refine ⟨_, rfl, _, rfl, sl 2, fun m nm => ?_⟩
    have sm := same_new (o := .lst [V.int mo, V.int 28]) nm
    have dr2 := dr1.same sm
    have tl2 := tl.same sm
    have ht2 := sm _ _ ht
    have mc := dr1.cne nm
    have Lm : L ≠ m := by
      obtain ⟨vs, h, _⟩ := tl
      exact ne_of_none h nm
    have tm : tp ≠ m := ne_of_none ht nm
    have rm2 : Rm m (upd H1 m (.lst [V.int mo, V.int 28])) := ⟨_, _, upd_same⟩
    generalize upd H1 m (.lst [V.int mo, V.int 28]) = H2 at dr2 tl2 ht2 rm2 ⊢
    refine ⟨_, _, rfl, d, c, m, rfl, rfl, dr2, rm2, mc, fun p Kl Ul H3 qk qu hp tk3 tu3 lk lu l1 dr3 rm3 k3 => ?_⟩
    have tl3 := tl2.k2 dr2 rm2 k3 Ld Lm
    have ht3 := k3 _ _ ht2 tpd tm
    obtain ⟨vs3, hL3, al3⟩ := id tl3
    refine ⟨_, rfl, .inl ⟨rfl, _, SqL.of hL3⟩, _, rfl, p, _, _, _, rfl, rfl, SqL.of hp, at_n 0 rfl, _, rfl, p, _, _, _, rfl, rfl, SqL.of hp, at_n 1 rfl, _, _, rfl, d, c, Kl, Ul, qk, qu, rfl, rfl, dr3, tk3, tu3, lk, lu, l1, fun p4 H4 t us k hpt lk4 une m4 s4 => ?_⟩
    have tl4 := tl3.same s4
    obtain ⟨vs4, hL4, al4⟩ := id tl4
    have hvs : vs4 = vs3 := by
      have e := hL4.symm.trans (s4 _ _ hL3)
      injection (Option.some.inj e)
    subst hvs
    have l4 := All2.len al4
    refine ⟨L, _, _, rfl, rfl, hL4, small1000 (by omega), qs ++ [(t, us, k)], _, _, _, _, rfl, TLs.push hL4 al4 ⟨hpt, lk4, p4, rfl, une, m4⟩, by rw [List.length_append, lq]; rfl, upd_else (s4 _ _ ht3) tpL, (dr3.same s4).else Ld Lc⟩
  · rintro σ H1 ⟨qs, v3, v4, v5, v6, rfl, tl, lq, ht, dr1⟩
    obtain ⟨vs, hL, al⟩ := tl
    have lv := All2.len al
    have gv : ∀ v ∈ vs, ∃ q, Th ProgT 1000000 d H1 v q := fun v hv => by
      obtain ⟨j, hj⟩ := List.mem_iff_getElem?.mp hv
      obtain ⟨q, _, h⟩ := All2.at al hj
      exact ⟨q, h⟩
    refine ⟨_, rfl, _, rfl, _, rfl, L, _, rfl, SqL.of hL, fun p1 n1 => ?_⟩
    have s1 := same_new (o := .lst (cutV vs none (some 1))) n1
    have cl := cutV_len (xs := vs) (lo := none) (hi := some 1)
    have l2 : qs.length ≤ 2 := Nat.le_of_eq lq
    refine ⟨L, p1, _, _, rfl, rfl, s1 _ _ hL, upd_same, Nat.le_of_lt (small1000 (by omega)), fun p2 n2 => ?_⟩
    have s2 := same_new (o := .lst (vs ++ cutV vs none (some 1))) n2
    have s12 := s1.trans s2
    have gv2 : ∀ v ∈ vs ++ cutV vs none (some 1), ∃ q, Th ProgT 1000000 d (upd (upd H1 p1 (.lst (cutV vs none (some 1)))) p2 (.lst (vs ++ cutV vs none (some 1)))) v q := fun v hv => by
      rcases List.mem_append.mp hv with hv | hv
      · obtain ⟨q, h⟩ := gv v hv
        exact ⟨q, h.same s12⟩
      · obtain ⟨q, h⟩ := gv v (cutV_mem hv)
        exact ⟨q, h.same s12⟩
    have h2 : upd (upd H1 p1 (.lst (cutV vs none (some 1)))) p2 (.lst (vs ++ cutV vs none (some 1))) p2 = some (.lst (vs ++ cutV vs none (some 1))) := upd_same
    generalize upd (upd H1 p1 (.lst (cutV vs none (some 1)))) p2 (.lst (vs ++ cutV vs none (some 1))) = H2 at gv2 h2 ⊢
    generalize vs ++ cutV vs none (some 1) = xs at gv2 h2 ⊢
    refine ⟨p2, rfl, ⟨_, SqL.of h2⟩, for_list (K := K) (a := p2) (xs := xs) (fun i σ H' => ∃ (v3 v4 v5 v6 : Option V), σ = [some (.ref sa), some (.ref d), some (.ref L), v3, v4, v5, v6] ∧ Same H2 H') ⟨v3, v4, v5, v6, rfl, Same.refl _⟩ ?_ ?_ ?_⟩
    · rintro i σ H' _ ⟨_, _, _, _, _, s⟩
      exact SqL.of (s _ _ h2)
    · rintro i x σ H3 hi ⟨v3, v4, v5, v6, rfl, s23⟩
      obtain ⟨⟨t, us, k⟩, h⟩ := gv2 x (List.mem_of_getElem? hi)
      obtain ⟨hpt, lk, p, rfl, ne, mk⟩ := h.same s23
      obtain ⟨v, a, b, ls, hp, hv, ha, _, la, _⟩ := id mk
      have lk' : k ≤ 1000000 := lk
      have la' : us.length ≤ k := la
      refine ⟨_, rfl, p, _, _, _, rfl, rfl, SqL.of hp, at_n 0 rfl, _, rfl, t, us, hv, hpt, by omega, fun H4 s4 => ?_⟩
      have ha4 := ha.same s4
      have hp4 := s4 _ _ hp
      refine ⟨_, rfl, .str (gapped us), .ty "str", .type "str", .type "str", true, rfl, .ty _, .base (.str _), rfl, _, rfl, iteF ?_⟩
      refine ⟨_, rfl, _, rfl, p, _, _, _, rfl, rfl, SqL.of hp4, at_n 1 rfl, _, rfl, a, us, rfl, ha4, ProgT.tk hpt, by omega, fun H5 s5 => ⟨rfl, _, rfl, ?_⟩⟩
      refine ite2 (fun h => ?_) (fun _ => ?_)
      · exact absurd h (by rw [decide_eq_true rfl]; decide)
      exact ⟨_, _, _, _, rfl, (s23.trans s4).trans s5⟩
    · rintro σ H3 _
      exact q H3
end

/-! ### the head -/
def d_write_program : He.DefD := ⟨("write_program", none), "write_program", "write_program", defArgs s_write_program, defBody s_write_program, defScope s_write_program, [], []⟩
def d_gap : He.DefD := ⟨("_gap", none), "_gap", "_gap", defArgs s_gap, defBody s_gap, defScope s_gap, [], []⟩
def d_kind_tokens : He.DefD := ⟨("_kind_tokens", none), "_kind_tokens", "_kind_tokens", defArgs s_kind_tokens, defBody s_kind_tokens, defScope s_kind_tokens, [], []⟩
def d_int_tokens : He.DefD := ⟨("_int_tokens", none), "_int_tokens", "_int_tokens", defArgs s_int_tokens, defBody s_int_tokens, defScope s_int_tokens, [], []⟩
def d_listed : He.DefD := ⟨("_listed", none), "_listed", "_listed", defArgs s_listed, defBody s_listed, defScope s_listed, [], []⟩
def d_unit_tokens : He.DefD := ⟨("_unit_tokens", none), "_unit_tokens", "_unit_tokens", defArgs s_unit_tokens, defBody s_unit_tokens, defScope s_unit_tokens, [], []⟩
def d_in_tokens : He.DefD := ⟨("_in_tokens", none), "_in_tokens", "_in_tokens", defArgs s_in_tokens, defBody s_in_tokens, defScope s_in_tokens, [], []⟩
def d_p_declared : He.DefD := ⟨("_declared", none), "_declared", "_declared", defArgs s_p_declared, defBody s_p_declared, defScope s_p_declared, [], []⟩
def d_block : He.DefD := ⟨("_block", none), "_block", "_block", defArgs s_block, defBody s_block, defScope s_block, [], []⟩
def d_item_tokens : He.DefD := ⟨("_item_tokens", none), "_item_tokens", "_item_tokens", defArgs s_item_tokens, defBody s_item_tokens, defScope s_item_tokens, [], []⟩
def d_use_tokens : He.DefD := ⟨("_use_tokens", none), "_use_tokens", "_use_tokens", defArgs s_use_tokens, defBody s_use_tokens, defScope s_use_tokens, [], []⟩
def d_state_tokens : He.DefD := ⟨("_state_tokens", none), "_state_tokens", "_state_tokens", defArgs s_state_tokens, defBody s_state_tokens, defScope s_state_tokens, [], []⟩
def d_turn_tokens : He.DefD := ⟨("_turn_tokens", none), "_turn_tokens", "_turn_tokens", defArgs s_turn_tokens, defBody s_turn_tokens, defScope s_turn_tokens, [], []⟩
def d_expr_tokens : He.DefD := ⟨("expr_tokens", none), "expr_tokens", "expr_tokens", defArgs s_expr_tokens, defBody s_expr_tokens, defScope s_expr_tokens, [.int 1], []⟩
def d_front_operand : He.DefD := ⟨("_front_operand", none), "_front_operand", "_front_operand", defArgs s_front_operand, defBody s_front_operand, defScope s_front_operand, [], []⟩
def d_bottom_tokens : He.DefD := ⟨("_bottom_tokens", none), "_bottom_tokens", "_bottom_tokens", defArgs s_bottom_tokens, defBody s_bottom_tokens, defScope s_bottom_tokens, [], []⟩
def d_arguments : He.DefD := ⟨("_arguments", none), "_arguments", "_arguments", defArgs s_arguments, defBody s_arguments, defScope s_arguments, [], []⟩
def d_value_tokens : He.DefD := ⟨("_value_tokens", none), "_value_tokens", "_value_tokens", defArgs s_value_tokens, defBody s_value_tokens, defScope s_value_tokens, [], []⟩
def d_other_arguments : He.DefD := ⟨("_other_arguments", none), "_other_arguments", "_other_arguments", defArgs s_other_arguments, defBody s_other_arguments, defScope s_other_arguments, [], []⟩
def d_arm_tokens : He.DefD := ⟨("_arm_tokens", none), "_arm_tokens", "_arm_tokens", defArgs s_arm_tokens, defBody s_arm_tokens, defScope s_arm_tokens, [], []⟩
def d_layer_tokens : He.DefD := ⟨("_layer_tokens", none), "_layer_tokens", "_layer_tokens", defArgs s_layer_tokens, defBody s_layer_tokens, defScope s_layer_tokens, [], []⟩
def d_begin : He.DefD := ⟨("_law_begin", none), "_law_begin", "_law_begin", defArgs s_begin, defBody s_begin, defScope s_begin, [], []⟩
def d_mixed : He.DefD := ⟨("_law_mixed", none), "_law_mixed", "_law_mixed", defArgs s_mixed, defBody s_mixed, defScope s_mixed, [], []⟩
def d_draw : He.DefD := ⟨("_law_draw", none), "_law_draw", "_law_draw", defArgs s_draw, defBody s_draw, defScope s_draw, [], []⟩
def d_draw_digit : He.DefD := ⟨("_law_draw_digit", none), "_law_draw_digit", "_law_draw_digit", defArgs s_draw_digit, defBody s_draw_digit, defScope s_draw_digit, [], []⟩
def d_pick : He.DefD := ⟨("_law_pick", none), "_law_pick", "_law_pick", defArgs s_pick, defBody s_pick, defScope s_pick, [], []⟩
def d_reserved : He.DefD := ⟨("_law_reserved", none), "_law_reserved", "_law_reserved", defArgs s_reserved, defBody s_reserved, defScope s_reserved, [], []⟩
def d_drawn_name : He.DefD := ⟨("_law_drawn_name", none), "_law_drawn_name", "_law_drawn_name", defArgs s_drawn_name, defBody s_drawn_name, defScope s_drawn_name, [], []⟩
def d_drawn_number : He.DefD := ⟨("_law_drawn_number", none), "_law_drawn_number", "_law_drawn_number", defArgs s_drawn_number, defBody s_drawn_number, defScope s_drawn_number, [], []⟩
def d_made : He.DefD := ⟨("_law_made", none), "_law_made", "_law_made", defArgs s_made, defBody s_made, defScope s_made, [], []⟩
def d_trees : He.DefD := ⟨("_law_trees", none), "_law_trees", "_law_trees", defArgs s_trees, defBody s_trees, defScope s_trees, [], []⟩
def d_commas : He.DefD := ⟨("_law_commas", none), "_law_commas", "_law_commas", defArgs s_commas, defBody s_commas, defScope s_commas, [], []⟩
def d_drawn_int : He.DefD := ⟨("_law_drawn_int", none), "_law_drawn_int", "_law_drawn_int", defArgs s_drawn_int, defBody s_drawn_int, defScope s_drawn_int, [], []⟩
def d_drawn_num : He.DefD := ⟨("_law_drawn_num", none), "_law_drawn_num", "_law_drawn_num", defArgs s_drawn_num, defBody s_drawn_num, defScope s_drawn_num, [], []⟩
def d_drawn_kind : He.DefD := ⟨("_law_drawn_kind", none), "_law_drawn_kind", "_law_drawn_kind", defArgs s_drawn_kind, defBody s_drawn_kind, defScope s_drawn_kind, [], []⟩
def d_drawn_case : He.DefD := ⟨("_law_drawn_case", none), "_law_drawn_case", "_law_drawn_case", defArgs s_drawn_case, defBody s_drawn_case, defScope s_drawn_case, [], []⟩
def d_drawn_layer : He.DefD := ⟨("_law_drawn_layer", none), "_law_drawn_layer", "_law_drawn_layer", defArgs s_drawn_layer, defBody s_drawn_layer, defScope s_drawn_layer, [], []⟩
def d_drawn_leaf : He.DefD := ⟨("_law_drawn_leaf", none), "_law_drawn_leaf", "_law_drawn_leaf", defArgs s_drawn_leaf, defBody s_drawn_leaf, defScope s_drawn_leaf, [], []⟩
def d_wrapped : He.DefD := ⟨("_law_wrapped", none), "_law_wrapped", "_law_wrapped", defArgs s_wrapped, defBody s_wrapped, defScope s_wrapped, [], []⟩
def d_fronted : He.DefD := ⟨("_law_fronted", none), "_law_fronted", "_law_fronted", defArgs s_fronted, defBody s_fronted, defScope s_fronted, [], []⟩
def d_between : He.DefD := ⟨("_law_between", none), "_law_between", "_law_between", defArgs s_between, defBody s_between, defScope s_between, [], []⟩
def d_drawn_sign : He.DefD := ⟨("_law_drawn_sign", none), "_law_drawn_sign", "_law_drawn_sign", defArgs s_drawn_sign, defBody s_drawn_sign, defScope s_drawn_sign, [], []⟩
def d_drawn_argument : He.DefD := ⟨("_law_drawn_argument", none), "_law_drawn_argument", "_law_drawn_argument", defArgs s_drawn_argument, defBody s_drawn_argument, defScope s_drawn_argument, [], []⟩
def d_drawn_call : He.DefD := ⟨("_law_drawn_call", none), "_law_drawn_call", "_law_drawn_call", defArgs s_drawn_call, defBody s_drawn_call, defScope s_drawn_call, [], []⟩
def d_drawn_expr : He.DefD := ⟨("_law_drawn_expr", none), "_law_drawn_expr", "_law_drawn_expr", defArgs s_drawn_expr, defBody s_drawn_expr, defScope s_drawn_expr, [], []⟩
def d_drawn_chain : He.DefD := ⟨("_law_drawn_chain", none), "_law_drawn_chain", "_law_drawn_chain", defArgs s_drawn_chain, defBody s_drawn_chain, defScope s_drawn_chain, [], []⟩
def d_drawn_root : He.DefD := ⟨("_law_drawn_root", none), "_law_drawn_root", "_law_drawn_root", defArgs s_drawn_root, defBody s_drawn_root, defScope s_drawn_root, [], []⟩
def d_drawn_use : He.DefD := ⟨("_law_drawn_use", none), "_law_drawn_use", "_law_drawn_use", defArgs s_drawn_use, defBody s_drawn_use, defScope s_drawn_use, [], []⟩
def d_drawn_turns : He.DefD := ⟨("_law_drawn_turns", none), "_law_drawn_turns", "_law_drawn_turns", defArgs s_drawn_turns, defBody s_drawn_turns, defScope s_drawn_turns, [], []⟩
def d_drawn_state : He.DefD := ⟨("_law_drawn_state", none), "_law_drawn_state", "_law_drawn_state", defArgs s_drawn_state, defBody s_drawn_state, defScope s_drawn_state, [], []⟩
def d_drawn_machine : He.DefD := ⟨("_law_drawn_machine", none), "_law_drawn_machine", "_law_drawn_machine", defArgs s_drawn_machine, defBody s_drawn_machine, defScope s_drawn_machine, [], []⟩
def d_drawn_item : He.DefD := ⟨("_law_drawn_item", none), "_law_drawn_item", "_law_drawn_item", defArgs s_drawn_item, defBody s_drawn_item, defScope s_drawn_item, [], []⟩
def d_drawn_items : He.DefD := ⟨("_law_drawn_items", none), "_law_drawn_items", "_law_drawn_items", defArgs s_drawn_items, defBody s_drawn_items, defScope s_drawn_items, [], []⟩
def d_declared : He.DefD := ⟨("_law_declared", none), "_law_declared", "_law_declared", defArgs s_declared, defBody s_declared, defScope s_declared, [], []⟩
def d_drawn_unit : He.DefD := ⟨("_law_drawn_unit", none), "_law_drawn_unit", "_law_drawn_unit", defArgs s_drawn_unit, defBody s_drawn_unit, defScope s_drawn_unit, [], []⟩
def d_drawn_parts : He.DefD := ⟨("_law_drawn_parts", none), "_law_drawn_parts", "_law_drawn_parts", defArgs s_drawn_parts, defBody s_drawn_parts, defScope s_drawn_parts, [], []⟩
def d_whole_tree : He.DefD := ⟨("_law_whole_tree", none), "_law_whole_tree", "_law_whole_tree", defArgs s_whole_tree, defBody s_whole_tree, defScope s_whole_tree, [], []⟩
def d_written_text : He.DefD := ⟨("_law_written_text", none), "_law_written_text", "_law_written_text", defArgs s_written_text, defBody s_written_text, defScope s_written_text, [], []⟩
def d_law : He.DefD := ⟨("law", none), "law", "law", defArgs s_law, defBody s_law, defScope s_law, [], []⟩
def fn : List He.DefD := [d_write_program, d_gap, d_kind_tokens, d_int_tokens, d_listed, d_unit_tokens, d_in_tokens, d_p_declared, d_block, d_item_tokens, d_use_tokens, d_state_tokens, d_turn_tokens, d_expr_tokens, d_front_operand, d_bottom_tokens, d_arguments, d_value_tokens, d_other_arguments, d_arm_tokens, d_layer_tokens, d_begin, d_mixed, d_draw, d_draw_digit, d_pick, d_reserved, d_drawn_name, d_drawn_number, d_made, d_trees, d_commas, d_drawn_int, d_drawn_num, d_drawn_kind, d_drawn_case, d_drawn_layer, d_drawn_leaf, d_wrapped, d_fronted, d_between, d_drawn_sign, d_drawn_argument, d_drawn_call, d_drawn_expr, d_drawn_chain, d_drawn_root, d_drawn_use, d_drawn_turns, d_drawn_state, d_drawn_machine, d_drawn_item, d_drawn_items, d_declared, d_drawn_unit, d_drawn_parts, d_whole_tree, d_written_text, d_law]
def fa : List He.Fa := [.glo "write_program", .glo "_gap", .glo "_kind_tokens", .glo "_int_tokens", .glo "_listed", .glo "_unit_tokens", .glo "_in_tokens", .glo "_declared", .glo "_block", .glo "_item_tokens", .glo "_use_tokens", .glo "_state_tokens", .glo "_turn_tokens", .glo "expr_tokens", .glo "_front_operand", .glo "_bottom_tokens", .glo "_arguments", .glo "_value_tokens", .glo "_other_arguments", .glo "_arm_tokens", .glo "_layer_tokens", .glo "_law_begin", .glo "_law_mixed", .glo "_law_draw", .glo "_law_draw_digit", .glo "_law_pick", .glo "_law_reserved", .glo "_law_drawn_name", .glo "_law_drawn_number", .glo "_law_made", .glo "_law_trees", .glo "_law_commas", .glo "_law_drawn_int", .glo "_law_drawn_num", .glo "_law_drawn_kind", .glo "_law_drawn_case", .glo "_law_drawn_layer", .glo "_law_drawn_leaf", .glo "_law_wrapped", .glo "_law_fronted", .glo "_law_between", .glo "_law_drawn_sign", .glo "_law_drawn_argument", .glo "_law_drawn_call", .glo "_law_drawn_expr", .glo "_law_drawn_chain", .glo "_law_drawn_root", .glo "_law_drawn_use", .glo "_law_drawn_turns", .glo "_law_drawn_state", .glo "_law_drawn_machine", .glo "_law_drawn_item", .glo "_law_drawn_items", .glo "_law_declared", .glo "_law_drawn_unit", .glo "_law_drawn_parts", .glo "_law_whole_tree", .glo "_law_written_text", .glo "law", .free "abs", .free "divmod", .free "int", .free "isinstance", .free "len", .free "max", .free "min", .free "range", .free "str", .free "tuple", .int "THEN" 1, .int "COMPARING" 5, .int "FRONT" 8, .int "BOTTOM" 9, .glo "LEVELS", .glo "SIGNS", .glo "FRONTS", .glo "CALLS", .glo "LINE_ENDS"]
def dtab_LEVELS : List (Str × He.Dv) := [("then", .int 1), ("or", .int 2), ("xor", .int 3), ("and", .int 4), ("==", .int 5), ("!=", .int 5), ("<", .int 5), ("<=", .int 5), ("+", .int 6), ("-", .int 6), ("*", .int 7), ("/", .int 7)]
def dtab_SIGNS : List (Str × He.Dv) := [("then", .str "then"), ("or", .str "or"), ("xor", .str "xor"), ("and", .str "and"), ("eq", .str "=="), ("ne", .str "!="), ("lt", .str "<"), ("le", .str "<="), ("add", .str "+"), ("sub", .str "-"), ("mul", .str "*"), ("div", .str "/")]
def dtab_FRONTS : List (Str × He.Dv) := [("not", .str "not"), ("last", .str "last"), ("neg", .str "-")]
def dtab_CALLS : List (Str × He.Dv) := [("pick", .int 3), ("mid", .int 3), ("vote", .int 3), ("put", .int 3), ("min", .int 2), ("max", .int 2), ("at", .int 2), ("sum", .int 1), ("any", .int 1), ("all", .int 1), ("row", .non), ("weave", .non)]
def exB (K : PySem.W.Frag) : Bool := (He.tupB K "LINE_ENDS" [.str "{", .str "}", .str ";"]) && (He.valsB K (He.ga K "LEVELS") dtab_LEVELS && not_LEVELS.all (fun z => He.eqO (PySem.W.nsIn K (He.ga K "LEVELS") z) (some none))) && (He.valsB K (He.ga K "SIGNS") dtab_SIGNS && not_SIGNS.all (fun z => He.eqO (PySem.W.nsIn K (He.ga K "SIGNS") z) (some none))) && (He.valsB K (He.ga K "FRONTS") dtab_FRONTS && not_FRONTS.all (fun z => He.eqO (PySem.W.nsIn K (He.ga K "FRONTS") z) (some none))) && (He.valsB K (He.ga K "CALLS") dtab_CALLS && not_CALLS.all (fun z => He.eqO (PySem.W.nsIn K (He.ga K "CALLS") z) (some none)))
def tabs : List He.Tab := [(fun K => He.ga K "LEVELS", ["then", "or", "xor", "and", "==", "!=", "<", "<=", "+", "-", "*", "/"]), (fun K => He.ga K "SIGNS", ["then", "or", "xor", "and", "eq", "ne", "lt", "le", "add", "sub", "mul", "div"]), (fun K => He.ga K "FRONTS", ["not", "last", "neg"]), (fun K => He.ga K "CALLS", ["pick", "mid", "vote", "put", "min", "max", "at", "sum", "any", "all", "row", "weave"])]
abbrev theRow : PySem.W.OpenRow := PySem.W.OpenLaw.row PySem.Challenge.rw_keepsgoing_k07_programs_written
abbrev Seen : Type := He.AlT × Bool
def seenOf (K : PySem.W.Frag) : Seen := (He.obsT fa fn tabs K, exB K)
def fragOf (g : Addr → Option Obj) : PySem.W.Frag := He.frG g (He.asD g 4)
def hookM : PySem.W.Hook where
  α := Seen
  obs := fun s => seenOf (fragOf s.heap.get?)
  val := fun w => (He.valT fn tabs w, true)
  says := fun w h => ∃ K : PySem.W.Frag, K.In h ∧ He.SaysT fa fn tabs w K ∧ exB K = true
  of := fun _ _ e => ⟨_, He.frG_in, congrArg (fun z : Seen => z.1) e, congrArg (fun z : Seen => z.2) e⟩
  keeps := fun _ _ _ ⟨K, h1, h2⟩ k => ⟨K, PySem.W.Frag.In.keeps h1 k, h2⟩
def obM (s : PySem.W.SharedT) : Seen := seenOf (fragOf (HandSHeadRun.getT s))
theorem obM_eq (s : PySem.W.SharedT) : obM s = hookM.obs s.abs := by
  have e : HandSHeadRun.getT s = s.abs.heap.get? := funext (HandSHeadRun.getT_eq s)
  unfold obM
  rw [e] <;> rfl
def others : List PySem.Str := (["write_program", "_gap", "_kind_tokens", "_int_tokens", "_listed", "_unit_tokens", "_in_tokens", "_declared", "_block", "_item_tokens", "_use_tokens", "_state_tokens", "_turn_tokens", "expr_tokens", "_front_operand", "_bottom_tokens", "_arguments", "_value_tokens", "_other_arguments", "_arm_tokens"] : List PySem.Str) ++ (["_layer_tokens", "_law_begin", "_law_mixed", "_law_draw", "_law_draw_digit", "_law_pick", "_law_reserved", "_law_drawn_name", "_law_drawn_number", "_law_made", "_law_trees", "_law_commas", "_law_drawn_int", "_law_drawn_num", "_law_drawn_kind", "_law_drawn_case", "_law_drawn_layer", "_law_drawn_leaf", "_law_wrapped", "_law_fronted"] : List PySem.Str) ++ (["_law_between", "_law_drawn_sign", "_law_drawn_argument", "_law_drawn_call", "_law_drawn_expr", "_law_drawn_chain", "_law_drawn_root", "_law_drawn_use", "_law_drawn_turns", "_law_drawn_state", "_law_drawn_machine", "_law_drawn_item", "_law_drawn_items", "_law_declared", "_law_drawn_unit", "_law_drawn_parts", "_law_whole_tree", "_law_written_text", "THEN", "COMPARING"] : List PySem.Str) ++ (["FRONT", "BOTTOM", "LEVELS", "SIGNS", "FRONTS", "CALLS", "LINE_ENDS"] : List PySem.Str)
theorem runM (w : World) : HandSHeadRun.RunEq theRow (PySem.W.view theRow.prog [69]) hookM obM 3000 others w := by
  refine PySem.W.byRow2 "special-get-raises" (P := fun w => HandSHeadRun.RunEq theRow (PySem.W.view theRow.prog [69]) hookM obM 3000 others w) (fun w => ?_) (fun w => ?_) w
  · intro os
    kernel_rfl
  · intro os
    kernel_rfl
theorem factsM {P : Program} {w : World} {K : PySem.W.Frag} {h : Heap} {mg : Str → Option Value} {f : Addr} (X : K.In h) (G : h.Ns mainGlobals mg) (hfa : mg ("law" : Str) = some (.ref f)) (cT : He.SaysT fa fn tabs w K) (cex : exB K = true) :
    ∃ fd : FuncData, (∀ (s : Shared) (v : Value), BindsTo s fd ⟨[v], []⟩ [("_law_script", v)]) ∧ ∀ base : Heap, K.In base → base.Ns mainGlobals mg → FnOk P w K mg base CX0 132 f fd ["_law_script"] (sp1 (rLaw K)) := by
  have c := cT.d
  have ct := fun (i : Nat) (t : He.Tab) (h : tabs[i]? = some t) => cT.tab i (t := t) h
  obtain ⟨fd_write_program, F_write_program⟩ := c.def_ 0 (d := d_write_program) rfl
  obtain ⟨fd_gap, F_gap⟩ := c.def_ 1 (d := d_gap) rfl
  obtain ⟨fd_kind_tokens, F_kind_tokens⟩ := c.def_ 2 (d := d_kind_tokens) rfl
  obtain ⟨fd_int_tokens, F_int_tokens⟩ := c.def_ 3 (d := d_int_tokens) rfl
  obtain ⟨fd_listed, F_listed⟩ := c.def_ 4 (d := d_listed) rfl
  obtain ⟨fd_unit_tokens, F_unit_tokens⟩ := c.def_ 5 (d := d_unit_tokens) rfl
  obtain ⟨fd_in_tokens, F_in_tokens⟩ := c.def_ 6 (d := d_in_tokens) rfl
  obtain ⟨fd_p_declared, F_p_declared⟩ := c.def_ 7 (d := d_p_declared) rfl
  obtain ⟨fd_block, F_block⟩ := c.def_ 8 (d := d_block) rfl
  obtain ⟨fd_item_tokens, F_item_tokens⟩ := c.def_ 9 (d := d_item_tokens) rfl
  obtain ⟨fd_use_tokens, F_use_tokens⟩ := c.def_ 10 (d := d_use_tokens) rfl
  obtain ⟨fd_state_tokens, F_state_tokens⟩ := c.def_ 11 (d := d_state_tokens) rfl
  obtain ⟨fd_turn_tokens, F_turn_tokens⟩ := c.def_ 12 (d := d_turn_tokens) rfl
  obtain ⟨fd_expr_tokens, F_expr_tokens⟩ := c.def_ 13 (d := d_expr_tokens) rfl
  obtain ⟨fd_front_operand, F_front_operand⟩ := c.def_ 14 (d := d_front_operand) rfl
  obtain ⟨fd_bottom_tokens, F_bottom_tokens⟩ := c.def_ 15 (d := d_bottom_tokens) rfl
  obtain ⟨fd_arguments, F_arguments⟩ := c.def_ 16 (d := d_arguments) rfl
  obtain ⟨fd_value_tokens, F_value_tokens⟩ := c.def_ 17 (d := d_value_tokens) rfl
  obtain ⟨fd_other_arguments, F_other_arguments⟩ := c.def_ 18 (d := d_other_arguments) rfl
  obtain ⟨fd_arm_tokens, F_arm_tokens⟩ := c.def_ 19 (d := d_arm_tokens) rfl
  obtain ⟨fd_layer_tokens, F_layer_tokens⟩ := c.def_ 20 (d := d_layer_tokens) rfl
  obtain ⟨fd_begin, F_begin⟩ := c.def_ 21 (d := d_begin) rfl
  obtain ⟨fd_mixed, F_mixed⟩ := c.def_ 22 (d := d_mixed) rfl
  obtain ⟨fd_draw, F_draw⟩ := c.def_ 23 (d := d_draw) rfl
  obtain ⟨fd_draw_digit, F_draw_digit⟩ := c.def_ 24 (d := d_draw_digit) rfl
  obtain ⟨fd_pick, F_pick⟩ := c.def_ 25 (d := d_pick) rfl
  obtain ⟨fd_reserved, F_reserved⟩ := c.def_ 26 (d := d_reserved) rfl
  obtain ⟨fd_drawn_name, F_drawn_name⟩ := c.def_ 27 (d := d_drawn_name) rfl
  obtain ⟨fd_drawn_number, F_drawn_number⟩ := c.def_ 28 (d := d_drawn_number) rfl
  obtain ⟨fd_made, F_made⟩ := c.def_ 29 (d := d_made) rfl
  obtain ⟨fd_trees, F_trees⟩ := c.def_ 30 (d := d_trees) rfl
  obtain ⟨fd_commas, F_commas⟩ := c.def_ 31 (d := d_commas) rfl
  obtain ⟨fd_drawn_int, F_drawn_int⟩ := c.def_ 32 (d := d_drawn_int) rfl
  obtain ⟨fd_drawn_num, F_drawn_num⟩ := c.def_ 33 (d := d_drawn_num) rfl
  obtain ⟨fd_drawn_kind, F_drawn_kind⟩ := c.def_ 34 (d := d_drawn_kind) rfl
  obtain ⟨fd_drawn_case, F_drawn_case⟩ := c.def_ 35 (d := d_drawn_case) rfl
  obtain ⟨fd_drawn_layer, F_drawn_layer⟩ := c.def_ 36 (d := d_drawn_layer) rfl
  obtain ⟨fd_drawn_leaf, F_drawn_leaf⟩ := c.def_ 37 (d := d_drawn_leaf) rfl
  obtain ⟨fd_wrapped, F_wrapped⟩ := c.def_ 38 (d := d_wrapped) rfl
  obtain ⟨fd_fronted, F_fronted⟩ := c.def_ 39 (d := d_fronted) rfl
  obtain ⟨fd_between, F_between⟩ := c.def_ 40 (d := d_between) rfl
  obtain ⟨fd_drawn_sign, F_drawn_sign⟩ := c.def_ 41 (d := d_drawn_sign) rfl
  obtain ⟨fd_drawn_argument, F_drawn_argument⟩ := c.def_ 42 (d := d_drawn_argument) rfl
  obtain ⟨fd_drawn_call, F_drawn_call⟩ := c.def_ 43 (d := d_drawn_call) rfl
  obtain ⟨fd_drawn_expr, F_drawn_expr⟩ := c.def_ 44 (d := d_drawn_expr) rfl
  obtain ⟨fd_drawn_chain, F_drawn_chain⟩ := c.def_ 45 (d := d_drawn_chain) rfl
  obtain ⟨fd_drawn_root, F_drawn_root⟩ := c.def_ 46 (d := d_drawn_root) rfl
  obtain ⟨fd_drawn_use, F_drawn_use⟩ := c.def_ 47 (d := d_drawn_use) rfl
  obtain ⟨fd_drawn_turns, F_drawn_turns⟩ := c.def_ 48 (d := d_drawn_turns) rfl
  obtain ⟨fd_drawn_state, F_drawn_state⟩ := c.def_ 49 (d := d_drawn_state) rfl
  obtain ⟨fd_drawn_machine, F_drawn_machine⟩ := c.def_ 50 (d := d_drawn_machine) rfl
  obtain ⟨fd_drawn_item, F_drawn_item⟩ := c.def_ 51 (d := d_drawn_item) rfl
  obtain ⟨fd_drawn_items, F_drawn_items⟩ := c.def_ 52 (d := d_drawn_items) rfl
  obtain ⟨fd_declared, F_declared⟩ := c.def_ 53 (d := d_declared) rfl
  obtain ⟨fd_drawn_unit, F_drawn_unit⟩ := c.def_ 54 (d := d_drawn_unit) rfl
  obtain ⟨fd_drawn_parts, F_drawn_parts⟩ := c.def_ 55 (d := d_drawn_parts) rfl
  obtain ⟨fd_whole_tree, F_whole_tree⟩ := c.def_ 56 (d := d_whole_tree) rfl
  obtain ⟨fd_written_text, F_written_text⟩ := c.def_ 57 (d := d_written_text) rfl
  obtain ⟨fd_law, F_law⟩ := c.def_ 58 (d := d_law) rfl
  have bb_expr_tokens : Binds K fd_expr_tokens ["expr", "floor"] [] := by
    obtain ⟨ds, vv, b⟩ := FunD.binds1 (ps := ["expr", "floor"]) (dvs := [V.int 1]) F_expr_tokens 2 1 (by simp) rfl (fun _ _ _ _ _ _ _ us its hl hi => match us, its, hl, hi with | [_, _], [_], _, _ => ⟨_, rfl, by kernel_rfl⟩)
    cases vv
    exact b
  obtain ⟨ds_expr_tokens, v1_expr_tokens, b1_expr_tokens⟩ := FunD.binds1 (ps := ["expr", "floor"]) (dvs := [V.int 1]) F_expr_tokens 1 0 (by simp) rfl (fun _ _ _ _ _ _ _ us its hl hi => match us, its, hl, hi with | [_], [_], _, _ => ⟨_, rfl, by kernel_rfl⟩)
  obtain ⟨tk_THEN, mg_THEN⟩ := He.int_ok X G (c.fact 69 (f := .int "THEN" 1) rfl)
  obtain ⟨tk_COMPARING, mg_COMPARING⟩ := He.int_ok X G (c.fact 70 (f := .int "COMPARING" 5) rfl)
  obtain ⟨tk_FRONT, mg_FRONT⟩ := He.int_ok X G (c.fact 71 (f := .int "FRONT" 8) rfl)
  obtain ⟨tk_BOTTOM, mg_BOTTOM⟩ := He.int_ok X G (c.fact 72 (f := .int "BOTTOM" 9) rfl)
  obtain ⟨x_CALLS', tb_CALLS⟩ := He.ba (show (_ && _) = true from cex)
  obtain ⟨x_FRONTS', tb_FRONTS⟩ := He.ba (show (_ && _) = true from x_CALLS')
  obtain ⟨x_SIGNS', tb_SIGNS⟩ := He.ba (show (_ && _) = true from x_FRONTS')
  obtain ⟨x_LEVELS', tb_LEVELS⟩ := He.ba (show (_ && _) = true from x_SIGNS')
  have tb_LINE_ENDS := x_LEVELS'
  obtain ⟨es_LEVELS, n_LEVELS, kx_LEVELS⟩ := ct 0 (fun K => He.ga K "LEVELS", ["then", "or", "xor", "and", "==", "!=", "<", "<=", "+", "-", "*", "/"]) rfl
  obtain ⟨vb_LEVELS, nb_LEVELS⟩ := He.ba tb_LEVELS
  have kd_LEVELS : ∀ q ∈ tab_LEVELS, KDct K w (He.ga K "LEVELS") q.1 q.2 := fun q hq => by
    obtain ⟨p, hp, e1, e2⟩ : ∃ p ∈ dtab_LEVELS, p.1 = q.1 ∧ p.2.v K = q.2 := by
      have e : dtab_LEVELS.map (fun p => (p.1, p.2.v K)) = tab_LEVELS := rfl
      rw [← e] at hq
      obtain ⟨p, hp, rfl⟩ := List.mem_map.mp hq
      exact ⟨p, hp, rfl, rfl⟩
    obtain ⟨u, hu, ru⟩ := He.valsB_ok vb_LEVELS hp
    rw [e1] at hu
    rw [e2] at ru
    exact ⟨_, _, u, kx_LEVELS.at_, kx_LEVELS.lit, hu, ru⟩
  have no_LEVELS : ∀ z ∈ not_LEVELS, PySem.W.nsIn K (He.ga K "LEVELS") z = some none := fun z hz => He.eqO_ok (List.all_eq_true.mp nb_LEVELS z hz)
  obtain ⟨es_SIGNS, n_SIGNS, kx_SIGNS⟩ := ct 1 (fun K => He.ga K "SIGNS", ["then", "or", "xor", "and", "eq", "ne", "lt", "le", "add", "sub", "mul", "div"]) rfl
  obtain ⟨vb_SIGNS, nb_SIGNS⟩ := He.ba tb_SIGNS
  have kd_SIGNS : ∀ q ∈ tab_SIGNS, KDct K w (He.ga K "SIGNS") q.1 q.2 := fun q hq => by
    obtain ⟨p, hp, e1, e2⟩ : ∃ p ∈ dtab_SIGNS, p.1 = q.1 ∧ p.2.v K = q.2 := by
      have e : dtab_SIGNS.map (fun p => (p.1, p.2.v K)) = tab_SIGNS := rfl
      rw [← e] at hq
      obtain ⟨p, hp, rfl⟩ := List.mem_map.mp hq
      exact ⟨p, hp, rfl, rfl⟩
    obtain ⟨u, hu, ru⟩ := He.valsB_ok vb_SIGNS hp
    rw [e1] at hu
    rw [e2] at ru
    exact ⟨_, _, u, kx_SIGNS.at_, kx_SIGNS.lit, hu, ru⟩
  have no_SIGNS : ∀ z ∈ not_SIGNS, PySem.W.nsIn K (He.ga K "SIGNS") z = some none := fun z hz => He.eqO_ok (List.all_eq_true.mp nb_SIGNS z hz)
  obtain ⟨es_FRONTS, n_FRONTS, kx_FRONTS⟩ := ct 2 (fun K => He.ga K "FRONTS", ["not", "last", "neg"]) rfl
  obtain ⟨vb_FRONTS, nb_FRONTS⟩ := He.ba tb_FRONTS
  have kd_FRONTS : ∀ q ∈ tab_FRONTS, KDct K w (He.ga K "FRONTS") q.1 q.2 := fun q hq => by
    obtain ⟨p, hp, e1, e2⟩ : ∃ p ∈ dtab_FRONTS, p.1 = q.1 ∧ p.2.v K = q.2 := by
      have e : dtab_FRONTS.map (fun p => (p.1, p.2.v K)) = tab_FRONTS := rfl
      rw [← e] at hq
      obtain ⟨p, hp, rfl⟩ := List.mem_map.mp hq
      exact ⟨p, hp, rfl, rfl⟩
    obtain ⟨u, hu, ru⟩ := He.valsB_ok vb_FRONTS hp
    rw [e1] at hu
    rw [e2] at ru
    exact ⟨_, _, u, kx_FRONTS.at_, kx_FRONTS.lit, hu, ru⟩
  have no_FRONTS : ∀ z ∈ not_FRONTS, PySem.W.nsIn K (He.ga K "FRONTS") z = some none := fun z hz => He.eqO_ok (List.all_eq_true.mp nb_FRONTS z hz)
  obtain ⟨es_CALLS, n_CALLS, kx_CALLS⟩ := ct 3 (fun K => He.ga K "CALLS", ["pick", "mid", "vote", "put", "min", "max", "at", "sum", "any", "all", "row", "weave"]) rfl
  obtain ⟨vb_CALLS, nb_CALLS⟩ := He.ba tb_CALLS
  have kd_CALLS : ∀ q ∈ tab_CALLS, KDct K w (He.ga K "CALLS") q.1 q.2 := fun q hq => by
    obtain ⟨p, hp, e1, e2⟩ : ∃ p ∈ dtab_CALLS, p.1 = q.1 ∧ p.2.v K = q.2 := by
      have e : dtab_CALLS.map (fun p => (p.1, p.2.v K)) = tab_CALLS := rfl
      rw [← e] at hq
      obtain ⟨p, hp, rfl⟩ := List.mem_map.mp hq
      exact ⟨p, hp, rfl, rfl⟩
    obtain ⟨u, hu, ru⟩ := He.valsB_ok vb_CALLS hp
    rw [e1] at hu
    rw [e2] at ru
    exact ⟨_, _, u, kx_CALLS.at_, kx_CALLS.lit, hu, ru⟩
  have no_CALLS : ∀ z ∈ not_CALLS, PySem.W.nsIn K (He.ga K "CALLS") z = some none := fun z hz => He.eqO_ok (List.all_eq_true.mp nb_CALLS z hz)
  have T : Tx K mg w := {
    f_write_program := _, fd_write_program := fd_write_program, F_write_program := F_write_program, m_write_program := He.glo_ok X G (c.fact 0 (f := .glo "write_program") rfl), b_write_program := F_write_program.bindsN fun _ _ _ _ _ _ us hl => match us, hl with | [_], _ => rfl
    f_gap := _, fd_gap := fd_gap, F_gap := F_gap, m_gap := He.glo_ok X G (c.fact 1 (f := .glo "_gap") rfl), b_gap := F_gap.bindsN fun _ _ _ _ _ _ us hl => match us, hl with | [_], _ => rfl
    f_kind_tokens := _, fd_kind_tokens := fd_kind_tokens, F_kind_tokens := F_kind_tokens, m_kind_tokens := He.glo_ok X G (c.fact 2 (f := .glo "_kind_tokens") rfl), b_kind_tokens := F_kind_tokens.bindsN fun _ _ _ _ _ _ us hl => match us, hl with | [_], _ => rfl
    f_int_tokens := _, fd_int_tokens := fd_int_tokens, F_int_tokens := F_int_tokens, m_int_tokens := He.glo_ok X G (c.fact 3 (f := .glo "_int_tokens") rfl), b_int_tokens := F_int_tokens.bindsN fun _ _ _ _ _ _ us hl => match us, hl with | [_], _ => rfl
    f_listed := _, fd_listed := fd_listed, F_listed := F_listed, m_listed := He.glo_ok X G (c.fact 4 (f := .glo "_listed") rfl), b_listed := F_listed.bindsN fun _ _ _ _ _ _ us hl => match us, hl with | [_], _ => rfl
    f_unit_tokens := _, fd_unit_tokens := fd_unit_tokens, F_unit_tokens := F_unit_tokens, m_unit_tokens := He.glo_ok X G (c.fact 5 (f := .glo "_unit_tokens") rfl), b_unit_tokens := F_unit_tokens.bindsN fun _ _ _ _ _ _ us hl => match us, hl with | [_], _ => rfl
    f_in_tokens := _, fd_in_tokens := fd_in_tokens, F_in_tokens := F_in_tokens, m_in_tokens := He.glo_ok X G (c.fact 6 (f := .glo "_in_tokens") rfl), b_in_tokens := F_in_tokens.bindsN fun _ _ _ _ _ _ us hl => match us, hl with | [_], _ => rfl
    f_p_declared := _, fd_p_declared := fd_p_declared, F_p_declared := F_p_declared, m_p_declared := He.glo_ok X G (c.fact 7 (f := .glo "_declared") rfl), b_p_declared := F_p_declared.bindsN fun _ _ _ _ _ _ us hl => match us, hl with | [_, _], _ => rfl
    f_block := _, fd_block := fd_block, F_block := F_block, m_block := He.glo_ok X G (c.fact 8 (f := .glo "_block") rfl), b_block := F_block.bindsN fun _ _ _ _ _ _ us hl => match us, hl with | [_], _ => rfl
    f_item_tokens := _, fd_item_tokens := fd_item_tokens, F_item_tokens := F_item_tokens, m_item_tokens := He.glo_ok X G (c.fact 9 (f := .glo "_item_tokens") rfl), b_item_tokens := F_item_tokens.bindsN fun _ _ _ _ _ _ us hl => match us, hl with | [_], _ => rfl
    f_use_tokens := _, fd_use_tokens := fd_use_tokens, F_use_tokens := F_use_tokens, m_use_tokens := He.glo_ok X G (c.fact 10 (f := .glo "_use_tokens") rfl), b_use_tokens := F_use_tokens.bindsN fun _ _ _ _ _ _ us hl => match us, hl with | [_], _ => rfl
    f_state_tokens := _, fd_state_tokens := fd_state_tokens, F_state_tokens := F_state_tokens, m_state_tokens := He.glo_ok X G (c.fact 11 (f := .glo "_state_tokens") rfl), b_state_tokens := F_state_tokens.bindsN fun _ _ _ _ _ _ us hl => match us, hl with | [_], _ => rfl
    f_turn_tokens := _, fd_turn_tokens := fd_turn_tokens, F_turn_tokens := F_turn_tokens, m_turn_tokens := He.glo_ok X G (c.fact 12 (f := .glo "_turn_tokens") rfl), b_turn_tokens := F_turn_tokens.bindsN fun _ _ _ _ _ _ us hl => match us, hl with | [_, _], _ => rfl
    f_expr_tokens := _, fd_expr_tokens := fd_expr_tokens, F_expr_tokens := F_expr_tokens, m_expr_tokens := He.glo_ok X G (c.fact 13 (f := .glo "expr_tokens") rfl), b_expr_tokens := bb_expr_tokens, ds_expr_tokens := ds_expr_tokens, v1_expr_tokens := v1_expr_tokens, b1_expr_tokens := b1_expr_tokens
    f_front_operand := _, fd_front_operand := fd_front_operand, F_front_operand := F_front_operand, m_front_operand := He.glo_ok X G (c.fact 14 (f := .glo "_front_operand") rfl), b_front_operand := F_front_operand.bindsN fun _ _ _ _ _ _ us hl => match us, hl with | [_, _], _ => rfl
    f_bottom_tokens := _, fd_bottom_tokens := fd_bottom_tokens, F_bottom_tokens := F_bottom_tokens, m_bottom_tokens := He.glo_ok X G (c.fact 15 (f := .glo "_bottom_tokens") rfl), b_bottom_tokens := F_bottom_tokens.bindsN fun _ _ _ _ _ _ us hl => match us, hl with | [_], _ => rfl
    f_arguments := _, fd_arguments := fd_arguments, F_arguments := F_arguments, m_arguments := He.glo_ok X G (c.fact 16 (f := .glo "_arguments") rfl), b_arguments := F_arguments.bindsN fun _ _ _ _ _ _ us hl => match us, hl with | [_], _ => rfl
    f_value_tokens := _, fd_value_tokens := fd_value_tokens, F_value_tokens := F_value_tokens, m_value_tokens := He.glo_ok X G (c.fact 17 (f := .glo "_value_tokens") rfl), b_value_tokens := F_value_tokens.bindsN fun _ _ _ _ _ _ us hl => match us, hl with | [_], _ => rfl
    f_other_arguments := _, fd_other_arguments := fd_other_arguments, F_other_arguments := F_other_arguments, m_other_arguments := He.glo_ok X G (c.fact 18 (f := .glo "_other_arguments") rfl), b_other_arguments := F_other_arguments.bindsN fun _ _ _ _ _ _ us hl => match us, hl with | [_], _ => rfl
    f_arm_tokens := _, fd_arm_tokens := fd_arm_tokens, F_arm_tokens := F_arm_tokens, m_arm_tokens := He.glo_ok X G (c.fact 19 (f := .glo "_arm_tokens") rfl), b_arm_tokens := F_arm_tokens.bindsN fun _ _ _ _ _ _ us hl => match us, hl with | [_], _ => rfl
    f_layer_tokens := _, fd_layer_tokens := fd_layer_tokens, F_layer_tokens := F_layer_tokens, m_layer_tokens := He.glo_ok X G (c.fact 20 (f := .glo "_layer_tokens") rfl), b_layer_tokens := F_layer_tokens.bindsN fun _ _ _ _ _ _ us hl => match us, hl with | [_], _ => rfl
    f_begin := _, fd_begin := fd_begin, F_begin := F_begin, m_begin := He.glo_ok X G (c.fact 21 (f := .glo "_law_begin") rfl), b_begin := F_begin.bindsN fun _ _ _ _ _ _ us hl => match us, hl with | [_], _ => rfl
    f_mixed := _, fd_mixed := fd_mixed, F_mixed := F_mixed, m_mixed := He.glo_ok X G (c.fact 22 (f := .glo "_law_mixed") rfl), b_mixed := F_mixed.bindsN fun _ _ _ _ _ _ us hl => match us, hl with | [_, _], _ => rfl
    f_draw := _, fd_draw := fd_draw, F_draw := F_draw, m_draw := He.glo_ok X G (c.fact 23 (f := .glo "_law_draw") rfl), b_draw := F_draw.bindsN fun _ _ _ _ _ _ us hl => match us, hl with | [_, _], _ => rfl
    f_draw_digit := _, fd_draw_digit := fd_draw_digit, F_draw_digit := F_draw_digit, m_draw_digit := He.glo_ok X G (c.fact 24 (f := .glo "_law_draw_digit") rfl), b_draw_digit := F_draw_digit.bindsN fun _ _ _ _ _ _ us hl => match us, hl with | [_, _], _ => rfl
    f_pick := _, fd_pick := fd_pick, F_pick := F_pick, m_pick := He.glo_ok X G (c.fact 25 (f := .glo "_law_pick") rfl), b_pick := F_pick.bindsN fun _ _ _ _ _ _ us hl => match us, hl with | [_, _], _ => rfl
    f_reserved := _, fd_reserved := fd_reserved, F_reserved := F_reserved, m_reserved := He.glo_ok X G (c.fact 26 (f := .glo "_law_reserved") rfl), b_reserved := F_reserved.bindsN fun _ _ _ _ _ _ us hl => match us, hl with | [], _ => rfl
    f_drawn_name := _, fd_drawn_name := fd_drawn_name, F_drawn_name := F_drawn_name, m_drawn_name := He.glo_ok X G (c.fact 27 (f := .glo "_law_drawn_name") rfl), b_drawn_name := F_drawn_name.bindsN fun _ _ _ _ _ _ us hl => match us, hl with | [_], _ => rfl
    f_drawn_number := _, fd_drawn_number := fd_drawn_number, F_drawn_number := F_drawn_number, m_drawn_number := He.glo_ok X G (c.fact 28 (f := .glo "_law_drawn_number") rfl), b_drawn_number := F_drawn_number.bindsN fun _ _ _ _ _ _ us hl => match us, hl with | [_], _ => rfl
    f_made := _, fd_made := fd_made, F_made := F_made, m_made := He.glo_ok X G (c.fact 29 (f := .glo "_law_made") rfl), b_made := F_made.bindsN fun _ _ _ _ _ _ us hl => match us, hl with | [_, _], _ => rfl
    f_trees := _, fd_trees := fd_trees, F_trees := F_trees, m_trees := He.glo_ok X G (c.fact 30 (f := .glo "_law_trees") rfl), b_trees := F_trees.bindsN fun _ _ _ _ _ _ us hl => match us, hl with | [_], _ => rfl
    f_commas := _, fd_commas := fd_commas, F_commas := F_commas, m_commas := He.glo_ok X G (c.fact 31 (f := .glo "_law_commas") rfl), b_commas := F_commas.bindsN fun _ _ _ _ _ _ us hl => match us, hl with | [_], _ => rfl
    f_drawn_int := _, fd_drawn_int := fd_drawn_int, F_drawn_int := F_drawn_int, m_drawn_int := He.glo_ok X G (c.fact 32 (f := .glo "_law_drawn_int") rfl), b_drawn_int := F_drawn_int.bindsN fun _ _ _ _ _ _ us hl => match us, hl with | [_], _ => rfl
    f_drawn_num := _, fd_drawn_num := fd_drawn_num, F_drawn_num := F_drawn_num, m_drawn_num := He.glo_ok X G (c.fact 33 (f := .glo "_law_drawn_num") rfl), b_drawn_num := F_drawn_num.bindsN fun _ _ _ _ _ _ us hl => match us, hl with | [_], _ => rfl
    f_drawn_kind := _, fd_drawn_kind := fd_drawn_kind, F_drawn_kind := F_drawn_kind, m_drawn_kind := He.glo_ok X G (c.fact 34 (f := .glo "_law_drawn_kind") rfl), b_drawn_kind := F_drawn_kind.bindsN fun _ _ _ _ _ _ us hl => match us, hl with | [_], _ => rfl
    f_drawn_case := _, fd_drawn_case := fd_drawn_case, F_drawn_case := F_drawn_case, m_drawn_case := He.glo_ok X G (c.fact 35 (f := .glo "_law_drawn_case") rfl), b_drawn_case := F_drawn_case.bindsN fun _ _ _ _ _ _ us hl => match us, hl with | [_], _ => rfl
    f_drawn_layer := _, fd_drawn_layer := fd_drawn_layer, F_drawn_layer := F_drawn_layer, m_drawn_layer := He.glo_ok X G (c.fact 36 (f := .glo "_law_drawn_layer") rfl), b_drawn_layer := F_drawn_layer.bindsN fun _ _ _ _ _ _ us hl => match us, hl with | [_], _ => rfl
    f_drawn_leaf := _, fd_drawn_leaf := fd_drawn_leaf, F_drawn_leaf := F_drawn_leaf, m_drawn_leaf := He.glo_ok X G (c.fact 37 (f := .glo "_law_drawn_leaf") rfl), b_drawn_leaf := F_drawn_leaf.bindsN fun _ _ _ _ _ _ us hl => match us, hl with | [_], _ => rfl
    f_wrapped := _, fd_wrapped := fd_wrapped, F_wrapped := F_wrapped, m_wrapped := He.glo_ok X G (c.fact 38 (f := .glo "_law_wrapped") rfl), b_wrapped := F_wrapped.bindsN fun _ _ _ _ _ _ us hl => match us, hl with | [_, _, _], _ => rfl
    f_fronted := _, fd_fronted := fd_fronted, F_fronted := F_fronted, m_fronted := He.glo_ok X G (c.fact 39 (f := .glo "_law_fronted") rfl), b_fronted := F_fronted.bindsN fun _ _ _ _ _ _ us hl => match us, hl with | [_, _, _], _ => rfl
    f_between := _, fd_between := fd_between, F_between := F_between, m_between := He.glo_ok X G (c.fact 40 (f := .glo "_law_between") rfl), b_between := F_between.bindsN fun _ _ _ _ _ _ us hl => match us, hl with | [_, _, _, _], _ => rfl
    f_drawn_sign := _, fd_drawn_sign := fd_drawn_sign, F_drawn_sign := F_drawn_sign, m_drawn_sign := He.glo_ok X G (c.fact 41 (f := .glo "_law_drawn_sign") rfl), b_drawn_sign := F_drawn_sign.bindsN fun _ _ _ _ _ _ us hl => match us, hl with | [_, _], _ => rfl
    f_drawn_argument := _, fd_drawn_argument := fd_drawn_argument, F_drawn_argument := F_drawn_argument, m_drawn_argument := He.glo_ok X G (c.fact 42 (f := .glo "_law_drawn_argument") rfl), b_drawn_argument := F_drawn_argument.bindsN fun _ _ _ _ _ _ us hl => match us, hl with | [_, _, _, _], _ => rfl
    f_drawn_call := _, fd_drawn_call := fd_drawn_call, F_drawn_call := F_drawn_call, m_drawn_call := He.glo_ok X G (c.fact 43 (f := .glo "_law_drawn_call") rfl), b_drawn_call := F_drawn_call.bindsN fun _ _ _ _ _ _ us hl => match us, hl with | [_, _, _], _ => rfl
    f_drawn_expr := _, fd_drawn_expr := fd_drawn_expr, F_drawn_expr := F_drawn_expr, m_drawn_expr := He.glo_ok X G (c.fact 44 (f := .glo "_law_drawn_expr") rfl), b_drawn_expr := F_drawn_expr.bindsN fun _ _ _ _ _ _ us hl => match us, hl with | [_, _, _], _ => rfl
    f_drawn_chain := _, fd_drawn_chain := fd_drawn_chain, F_drawn_chain := F_drawn_chain, m_drawn_chain := He.glo_ok X G (c.fact 45 (f := .glo "_law_drawn_chain") rfl), b_drawn_chain := F_drawn_chain.bindsN fun _ _ _ _ _ _ us hl => match us, hl with | [_, _, _], _ => rfl
    f_drawn_root := _, fd_drawn_root := fd_drawn_root, F_drawn_root := F_drawn_root, m_drawn_root := He.glo_ok X G (c.fact 46 (f := .glo "_law_drawn_root") rfl), b_drawn_root := F_drawn_root.bindsN fun _ _ _ _ _ _ us hl => match us, hl with | [_, _, _], _ => rfl
    f_drawn_use := _, fd_drawn_use := fd_drawn_use, F_drawn_use := F_drawn_use, m_drawn_use := He.glo_ok X G (c.fact 47 (f := .glo "_law_drawn_use") rfl), b_drawn_use := F_drawn_use.bindsN fun _ _ _ _ _ _ us hl => match us, hl with | [_, _], _ => rfl
    f_drawn_turns := _, fd_drawn_turns := fd_drawn_turns, F_drawn_turns := F_drawn_turns, m_drawn_turns := He.glo_ok X G (c.fact 48 (f := .glo "_law_drawn_turns") rfl), b_drawn_turns := F_drawn_turns.bindsN fun _ _ _ _ _ _ us hl => match us, hl with | [_, _, _, _], _ => rfl
    f_drawn_state := _, fd_drawn_state := fd_drawn_state, F_drawn_state := F_drawn_state, m_drawn_state := He.glo_ok X G (c.fact 49 (f := .glo "_law_drawn_state") rfl), b_drawn_state := F_drawn_state.bindsN fun _ _ _ _ _ _ us hl => match us, hl with | [_, _, _], _ => rfl
    f_drawn_machine := _, fd_drawn_machine := fd_drawn_machine, F_drawn_machine := F_drawn_machine, m_drawn_machine := He.glo_ok X G (c.fact 50 (f := .glo "_law_drawn_machine") rfl), b_drawn_machine := F_drawn_machine.bindsN fun _ _ _ _ _ _ us hl => match us, hl with | [_, _, _], _ => rfl
    f_drawn_item := _, fd_drawn_item := fd_drawn_item, F_drawn_item := F_drawn_item, m_drawn_item := He.glo_ok X G (c.fact 51 (f := .glo "_law_drawn_item") rfl), b_drawn_item := F_drawn_item.bindsN fun _ _ _ _ _ _ us hl => match us, hl with | [_, _, _, _], _ => rfl
    f_drawn_items := _, fd_drawn_items := fd_drawn_items, F_drawn_items := F_drawn_items, m_drawn_items := He.glo_ok X G (c.fact 52 (f := .glo "_law_drawn_items") rfl), b_drawn_items := F_drawn_items.bindsN fun _ _ _ _ _ _ us hl => match us, hl with | [_, _, _, _, _], _ => rfl
    f_declared := _, fd_declared := fd_declared, F_declared := F_declared, m_declared := He.glo_ok X G (c.fact 53 (f := .glo "_law_declared") rfl), b_declared := F_declared.bindsN fun _ _ _ _ _ _ us hl => match us, hl with | [_, _], _ => rfl
    f_drawn_unit := _, fd_drawn_unit := fd_drawn_unit, F_drawn_unit := F_drawn_unit, m_drawn_unit := He.glo_ok X G (c.fact 54 (f := .glo "_law_drawn_unit") rfl), b_drawn_unit := F_drawn_unit.bindsN fun _ _ _ _ _ _ us hl => match us, hl with | [_, _], _ => rfl
    f_drawn_parts := _, fd_drawn_parts := fd_drawn_parts, F_drawn_parts := F_drawn_parts, m_drawn_parts := He.glo_ok X G (c.fact 55 (f := .glo "_law_drawn_parts") rfl), b_drawn_parts := F_drawn_parts.bindsN fun _ _ _ _ _ _ us hl => match us, hl with | [_, _], _ => rfl
    f_whole_tree := _, fd_whole_tree := fd_whole_tree, F_whole_tree := F_whole_tree, m_whole_tree := He.glo_ok X G (c.fact 56 (f := .glo "_law_whole_tree") rfl), b_whole_tree := F_whole_tree.bindsN fun _ _ _ _ _ _ us hl => match us, hl with | [_, _], _ => rfl
    f_written_text := _, fd_written_text := fd_written_text, F_written_text := F_written_text, m_written_text := He.glo_ok X G (c.fact 57 (f := .glo "_law_written_text") rfl), b_written_text := F_written_text.bindsN fun _ _ _ _ _ _ us hl => match us, hl with | [_], _ => rfl
    f_law := _, fd_law := fd_law, F_law := F_law, m_law := He.glo_ok X G (c.fact 58 (f := .glo "law") rfl), b_law := F_law.bindsN fun _ _ _ _ _ _ us hl => match us, hl with | [_], _ => rfl
    z_abs := He.free_ok X G (c.fact 59 (f := .free "abs") rfl)
    z_divmod := He.free_ok X G (c.fact 60 (f := .free "divmod") rfl)
    z_int := He.free_ok X G (c.fact 61 (f := .free "int") rfl)
    z_isinstance := He.free_ok X G (c.fact 62 (f := .free "isinstance") rfl)
    z_len := He.free_ok X G (c.fact 63 (f := .free "len") rfl)
    z_max := He.free_ok X G (c.fact 64 (f := .free "max") rfl)
    z_min := He.free_ok X G (c.fact 65 (f := .free "min") rfl)
    z_range := He.free_ok X G (c.fact 66 (f := .free "range") rfl)
    z_str := He.free_ok X G (c.fact 67 (f := .free "str") rfl)
    z_tuple := He.free_ok X G (c.fact 68 (f := .free "tuple") rfl)
    tk_THEN := tk_THEN, mg_THEN := mg_THEN
    tk_COMPARING := tk_COMPARING, mg_COMPARING := mg_COMPARING
    tk_FRONT := tk_FRONT, mg_FRONT := mg_FRONT
    tk_BOTTOM := tk_BOTTOM, mg_BOTTOM := mg_BOTTOM
    mg_LEVELS := He.glo_ok X G (c.fact 73 (f := .glo "LEVELS") rfl), es_LEVELS := es_LEVELS, n_LEVELS := n_LEVELS, kx_LEVELS := kx_LEVELS, kd_LEVELS := kd_LEVELS, no_LEVELS := no_LEVELS
    mg_SIGNS := He.glo_ok X G (c.fact 74 (f := .glo "SIGNS") rfl), es_SIGNS := es_SIGNS, n_SIGNS := n_SIGNS, kx_SIGNS := kx_SIGNS, kd_SIGNS := kd_SIGNS, no_SIGNS := no_SIGNS
    mg_FRONTS := He.glo_ok X G (c.fact 75 (f := .glo "FRONTS") rfl), es_FRONTS := es_FRONTS, n_FRONTS := n_FRONTS, kx_FRONTS := kx_FRONTS, kd_FRONTS := kd_FRONTS, no_FRONTS := no_FRONTS
    mg_CALLS := He.glo_ok X G (c.fact 76 (f := .glo "CALLS") rfl), es_CALLS := es_CALLS, n_CALLS := n_CALLS, kx_CALLS := kx_CALLS, kd_CALLS := kd_CALLS, no_CALLS := no_CALLS
    mg_LINE_ENDS := He.glo_ok X G (c.fact 77 (f := .glo "LINE_ENDS") rfl), tp_LINE_ENDS := fun H => He.tupB_ok tb_LINE_ENDS H
  }
  have e := hfa.symm.trans T.m_law
  cases e
  have b := FunD.bindsA (ps := ["_law_script"]) T.F_law fun _ _ _ _ _ _ us hl => match us, hl with | [_], _ => rfl
  exact ⟨T.fd_law, fun s v => b s [v] rfl, fun base _ _ => ok_law T⟩
end My
open PySem PySem.W PySem.Calls PyProof.Rows
set_option maxRecDepth 100000 in
set_option maxHeartbeats 0 in
theorem PySem.Challenge.cw_keepsgoing_k07_programs_written_holds : PySem.Challenge.rw_keepsgoing_k07_programs_written.Holds := by
  w_on; o_law
  refine HandSHeadRun.head_any (r := My.theRow) (q := view My.theRow.prog [69]) (H := My.hookM) (ob := My.obM) (M := 3000) (loose := My.others) (d := HandSHeadRun.topDef My.theRow.prog 69) (kwd := []) My.obM_eq
    (by kernel_rfl) (fun s => by kernel_rfl) My.runM (by kernel_rfl) (by kernel_rfl) (by kernel_rfl) (by rfl) (by first | assumption | decide +kernel) (by decide +kernel) ⟨rfl, rfl, rfl, rfl, rfl, by decide +kernel⟩ ?hw ?hc
  case hw => w_witness2
  case hc =>
    refine L2.walk_ofE (l := PySem.Challenge.rw_keepsgoing_k07_programs_written) (n := 63) (k := 132) (x := "_law_script") (CX := L2.CX0) rfl (by decide) (by kernel_rfl) ⟨rfl, by decide, by decide⟩ ?F (fun _ _ _ _ z => z)
    intro w mg fa h Y G hmg0
    obtain ⟨K, KX, c, cx⟩ := Y
    have hmg : mg ("law" : PySem.Str) = some (.ref fa) := by
      have e : (HandSHeadRun.topDef My.theRow.prog 69).name = ("law" : PySem.Str) := by kernel_rfl
      rw [← e]
      exact hmg0
    obtain ⟨fd, hb, hF⟩ := My.factsM (P := My.theRow.prog) (w := w) KX G hmg c cx
    exact ⟨K, fd, My.sp1 (My.rLaw K), KX, hb, fun H a ns hl _ hS => ⟨_, rfl, a, ns, rfl, hS, hl, fun _ => rfl⟩, hF⟩
